/-
  Replies: which may be, what is written of them, what is read back.
-/
import Derived.Test.YtljkjkkpogkgbaaDoorR05d
namespace Go.Proofs.YtljkjkkpogkgbaaDoor.Abs

abbrev RepT := Int × Int × Unit × Int × Int × Bool × List UInt8 × List GApiKV
def okRep (k : Int) : Bool := decide (k = 0) || okKind k
def RRep : Rdr RepT := (RU 1).seq fun k => (RU 4).seq fun _ => (RB (okRep k)).seq fun _ => (RU 1).seq fun _ => (RU 8).seq fun _ => RF.seq fun _ => (RL 32).seq fun _ => RVs
def eS5 (x : RepT) : List UInt8 := eU 1 x.1 ++ (eU 4 x.2.1 ++ ([] ++ (eU 1 x.2.2.2.1 ++ (eU 8 x.2.2.2.2.1 ++ (eF x.2.2.2.2.2.1 ++ (ls2 x.2.2.2.2.2.2.1 ++ eVs x.2.2.2.2.2.2.2))))))
def VS5 (x : RepT) : Prop := VU 1 x.1 ∧ VU 4 x.2.1 ∧ okRep x.1 = true ∧ VU 1 x.2.2.2.1 ∧ VU 8 x.2.2.2.2.1 ∧ True ∧ x.2.2.2.2.2.2.1.length ≤ 32 ∧ VVs x.2.2.2.2.2.2.2
theorem RRep_rs : RS RRep eS5 VS5 :=
  RS.seq (enc2 := fun k (y : Int × Unit × Int × Int × Bool × List UInt8 × List GApiKV) => eU 4 y.1 ++ ([] ++ (eU 1 y.2.2.1 ++ (eU 8 y.2.2.2.1 ++ (eF y.2.2.2.2.1 ++ (ls2 y.2.2.2.2.2.1 ++ eVs y.2.2.2.2.2.2))))))
    (V2 := fun k (y : Int × Unit × Int × Int × Bool × List UInt8 × List GApiKV) => VU 4 y.1 ∧ okRep k = true ∧ VU 1 y.2.2.1 ∧ VU 8 y.2.2.2.1 ∧ True ∧ y.2.2.2.2.2.1.length ≤ 32 ∧ VVs y.2.2.2.2.2.2) (RU_rs (by decide) (by decide)) fun k =>
  RS.seq (enc2 := fun _ (y : Unit × Int × Int × Bool × List UInt8 × List GApiKV) => [] ++ (eU 1 y.2.1 ++ (eU 8 y.2.2.1 ++ (eF y.2.2.2.1 ++ (ls2 y.2.2.2.2.1 ++ eVs y.2.2.2.2.2)))))
    (V2 := fun _ (y : Unit × Int × Int × Bool × List UInt8 × List GApiKV) => okRep k = true ∧ VU 1 y.2.1 ∧ VU 8 y.2.2.1 ∧ True ∧ y.2.2.2.2.1.length ≤ 32 ∧ VVs y.2.2.2.2.2) (RU_rs (by decide) (by decide)) fun _ =>
  RS.seq (RB_rs _) fun _ => RS.seq (RU_rs (by decide) (by decide)) fun _ => RS.seq (RU_rs (by decide) (by decide)) fun _ => RS.seq RF_rs fun _ => RS.seq (RL_rs (by decide)) fun _ => RVs_rs

def zrep : GMsgReply := GMsgReply.mk 0 0 0 0 false [] []
def repOf (x : RepT) : GMsgReply := ⟨x.1, x.2.1, x.2.2.2.1, x.2.2.2.2.1, x.2.2.2.2.2.1, x.2.2.2.2.2.2.1, x.2.2.2.2.2.2.2⟩
def tupRep (g : GMsgReply) : RepT := (g.Kind, g.Seq, (), g.Code, g.N, g.Found, g.Val, g.List)

/-- The reading of a reply, ahead of what stands in the list. -/
theorem readRep_eq (d : List UInt8) (hd : d.length ≤ 100000000) : m25_msg_ReadReply d = (RRep 0 0 d).bind fun x => (m50_enc_Reader_Ends x.2.1 x.2.2 d).bind fun v8 =>
    if (!decide (v8.1 = 0)) then some (zrep, v8.1) else (m29_msg_SaneReply (repOf x.1)).bind fun v9 => if (!v9) then some (zrep, 3) else some (repOf x.1, 0) := by
  obtain ⟨x1, e1, p1, r1, l1, _⟩ := (RU_rs (n := 1) (by decide) (by decide)).run 0 0 d (Nat.zero_le _) hd
  obtain ⟨x2, e2, p2, r2, l2, _⟩ := (RU_rs (n := 4) (by decide) (by decide)).run e1 p1 d l1 hd
  obtain ⟨x3, e3, p3, r3, l3, _⟩ := (RB_rs (okRep x1)).run e2 p2 d l2 hd
  obtain ⟨x4, e4, p4, r4, l4, _⟩ := (RU_rs (n := 1) (by decide) (by decide)).run e3 p3 d l3 hd
  obtain ⟨x5, e5, p5, r5, l5, _⟩ := (RU_rs (n := 8) (by decide) (by decide)).run e4 p4 d l4 hd
  obtain ⟨x6, e6, p6, r6, l6, _⟩ := RF_rs.run e5 p5 d l5 hd
  obtain ⟨x7, e7, p7, r7, l7, _⟩ := (RL_rs (n := 32) (by decide)).run e6 p6 d l6 hd
  have hR : RRep 0 0 d = (RVs e7 p7 d).bind fun y => some ((x1, x2, x3, x4, x5, x6, x7, y.1), y.2.1, y.2.2) := by
    unfold RRep Rdr.seq
    rw [show (0 : Int) = ((0 : Nat) : Int) from rfl] at r1 ⊢
    simp only [r1, r2, r3, r4, r5, r6, r7, Option.bind_some, Option.bind_assoc]
  have hk4 : ∀ (v1 : Int × Int × List UInt8) (v2 v3 : (BitVec 64) × Int × Int), v1.2.2 = d → wI (v2.1.toNat : Int) = x1 → wI (v3.1.toNat : Int) = x2 → v3.2.2 = (p2 : Int) → m25_msg_ReadReply_k4 v1 v2 v3 e3 =
      (RVs e7 p7 d).bind fun y => (m50_enc_Reader_Ends y.2.1 y.2.2 d).bind fun v8 => if (!decide (v8.1 = 0)) then some (zrep, v8.1) else (m29_msg_SaneReply (repOf (x1, x2, x3, x4, x5, x6, x7, y.1))).bind fun v9 => if (!v9) then some (zrep, 3) else some (repOf (x1, x2, x3, x4, x5, x6, x7, y.1), 0) := by
    intro v1 v2 v3 h1 h2 h3 h4
    have hp3 : (p3 : Int) = p2 := by
      have := r3
      unfold RB at this
      simp only [Option.some.injEq, Prod.mk.injEq] at this
      exact this.2.2.symm
    rw [hp3] at r4
    unfold m25_msg_ReadReply_k4
    rw [h1, h2, h3, h4]
    unfold RU at r4 r5
    cases u4 : m46_enc_Reader_Us (1 : Nat) e3 p2 d with
    | none => rw [u4] at r4; cases r4
    | some w4 =>
      rw [u4] at r4
      simp only [Option.bind_some, Option.some.injEq, Prod.mk.injEq] at r4
      obtain ⟨a4, b4, c4⟩ := r4
      cases u5 : m46_enc_Reader_Us (8 : Nat) e4 p4 d with
      | none => rw [u5] at r5; cases r5
      | some w5 =>
        rw [u5] at r5
        simp only [Option.bind_some, Option.some.injEq, Prod.mk.injEq] at r5
        obtain ⟨a5, b5, c5⟩ := r5
        have r6' : m65_enc_Reader_Flags e5 p5 d = some (x6, e6, (p6 : Int)) := r6
        have r7' : m66_enc_Reader_Lists 32 e6 p6 d = some (x7, e7, (p7 : Int)) := r7
        have u4' : m46_enc_Reader_Us 1 e3 p2 d = some w4 := u4
        have u5' : m46_enc_Reader_Us 8 e4 p4 d = some w5 := u5
        simp only [u4', Option.bind_some, b4, c4, u5', b5, c5, r6', r7', readList_m e7 p7 d l7 hd, a4, a5]
        rfl
  rw [hR]
  simp only [Option.bind_assoc, Option.bind_some]
  unfold m25_msg_ReadReply m45_enc_News m48_enc_Reader_Fails
  unfold RU at r1 r2
  cases u1 : m46_enc_Reader_Us (1 : Nat) 0 0 d with
  | none =>
    rw [show ((0 : Nat) : Int) = 0 from rfl, u1] at r1; cases r1
  | some w1 =>
    rw [show ((0 : Nat) : Int) = 0 from rfl, u1] at r1
    simp only [Option.bind_some, Option.some.injEq, Prod.mk.injEq] at r1
    obtain ⟨a1, b1, c1⟩ := r1
    cases u2 : m46_enc_Reader_Us (4 : Nat) e1 p1 d with
    | none => rw [u2] at r2; cases r2
    | some w2 =>
      rw [u2] at r2
      simp only [Option.bind_some, Option.some.injEq, Prod.mk.injEq] at r2
      obtain ⟨a2, b2, c2⟩ := r2
      have u1' : m46_enc_Reader_Us 1 0 0 d = some w1 := u1
      have u2' : m46_enc_Reader_Us 4 e1 p1 d = some w2 := u2
      have he3 : e3 = if okRep x1 then e2 else if e2 = 0 then 3 else e2 := by
        unfold RB at r3
        simp only [Option.some.injEq, Prod.mk.injEq] at r3
        exact r3.2.1.symm
      simp only [u1', Option.bind_some, b1, c1, u2', isKind_m, a1, b2]
      have k4 := hk4 (0, 0, d) w1 w2 rfl a1 a2 c2
      by_cases h0 : x1 = 0
      · rw [if_neg (by simp [h0]), ← k4, he3]
        have : okRep x1 = true := by simp [okRep, h0]
        rw [this]; rfl
      · rw [if_pos (by simp [h0])]
        cases hk : okKind x1 with
        | true =>
          have : okRep x1 = true := by simp [okRep, hk]
          rw [if_neg (by simp), ← k4, he3, this]; rfl
        | false =>
          have : okRep x1 = false := by simp [okRep, hk, h0]
          rw [if_pos (by simp), ← k4, he3, this]
          by_cases h2 : e2 = 0
          · rw [if_pos (decide_eq_true h2)]; simp [h2]
          · rw [if_neg (by rw [decide_eq_true_eq]; exact h2)]; simp [h2]

/-! Which may be -/
def okV (x : GApiKV) : Bool := saneBytes true x.Key 1 16 && decide ((x.Val.length : Int) ≤ 32)
def saneRep1 (g : GMsgReply) : Bool := okRep g.Kind && (within g.Seq 4294967295 && (within g.Code 255 && (within g.N 1099511627776 && (saneBytes g.Found g.Val 0 32 && decide ((g.List.length : Int) ≤ 8)))))
def saneRep (g : GMsgReply) : Bool := g.List.all okV && saneRep1 g
theorem saneRep1_m (g : GMsgReply) : m29_msg_SaneReply_k1 g () = some (saneRep1 g) := by
  unfold m29_msg_SaneReply_k1 saneRep1 okRep
  simp only [isKind_m, within_m, saneBytes_m, Option.bind_some]
  by_cases h : g.Kind = 0
  · rw [decide_eq_true h]
    cases within g.Seq 4294967295 <;> cases within g.Code 255 <;> cases within g.N 1099511627776 <;> cases saneBytes g.Found g.Val 0 32 <;> rfl
  · rw [decide_eq_false h]
    cases okKind g.Kind <;> cases within g.Seq 4294967295 <;> cases within g.Code 255 <;> cases within g.N 1099511627776 <;> cases saneBytes g.Found g.Val 0 32 <;> rfl
theorem saneRep_m (g : GMsgReply) (hl : g.List.length ≤ 1000000) : m29_msg_SaneReply g = some (saneRep g) := by
  obtain ⟨b, hb, hR⟩ := iter_inv (f := m29_msg_SaneReply_s11 g) (P := fun s => 0 ≤ s ∧ s ≤ (g.List.length : Int) ∧ ∀ j, j < s.toNat → ∀ x, g.List[j]? = some x → okV x = true) (μ := fun s => g.List.length - s.toNat)
    (R := fun r => match r with | .inl r => r = false ∧ g.List.all okV = false | .inr _ => g.List.all okV = true)
    (fun s hs => by
      obtain ⟨h0, h1, h2⟩ := hs
      unfold m29_msg_SaneReply_s11
      by_cases hlt : s < (g.List.length : Int)
      · obtain ⟨x, hx, hx'⟩ := idx_get h0 hlt
        rw [if_pos (decide_eq_true hlt), hx]
        simp only [Option.bind_some, saneBytes_m]
        have hbad : okV x = false → g.List.all okV = false := fun h => by
          rw [List.all_eq_false]
          exact ⟨x, List.mem_of_getElem? hx', by simp [h]⟩
        cases h3 : saneBytes true x.Key 1 16 with
        | false => exact .inr (.inr ⟨false, rfl, rfl, hbad (by simp [okV, h3])⟩)
        | true =>
          by_cases h4 : (32 : Int) < (x.Val.length : Int)
          · refine .inr (.inr ⟨false, ?_, rfl, hbad (by simp [okV]; omega)⟩)
            rw [if_neg (by simp), if_pos (decide_eq_true h4)]
          · refine .inl ⟨s + 1, ?_, ⟨by omega, by omega, fun j hj y hy => ?_⟩, by omega⟩
            · rw [if_neg (by simp), if_neg (by rw [decide_eq_true_eq]; exact h4), wI_id (by omega) (by omega)]
            · by_cases hj' : j < s.toNat
              · exact h2 j hj' y hy
              · have : j = s.toNat := by omega
                subst this
                rw [hx'] at hy
                cases hy
                simp only [okV, h3, Bool.true_and, decide_eq_true_eq]
                omega
      · refine .inr (.inl ⟨(), by rw [if_neg (by rw [decide_eq_true_eq]; exact hlt)], ?_⟩)
        show g.List.all okV = true
        rw [List.all_eq_true]
        intro x hx
        obtain ⟨j, hj, hjx⟩ := List.getElem_of_mem hx
        exact h2 j (by omega) x (by rw [List.getElem?_eq_getElem hj, hjx])) fuel 0 ⟨by omega, by omega, fun j hj => by simp at hj⟩ (lt_fuel (by simp; omega))
  unfold m29_msg_SaneReply
  rw [hb]
  simp only [Option.bind_some]
  unfold saneRep
  cases b with
  | inl r => obtain ⟨rfl, h⟩ := hR; rw [h]; rfl
  | inr u =>
    have h : g.List.all okV = true := hR
    simp only [h, Bool.true_and]
    exact saneRep1_m g
theorem saneRep_V {g : GMsgReply} (h : saneRep g = true) : VS5 (tupRep g) ∧ g.List.length ≤ 8 := by
  unfold saneRep saneRep1 at h
  simp only [Bool.and_eq_true, List.all_eq_true] at h
  obtain ⟨h1, h2, h3, h4, h5, h6, h7⟩ := h
  have hk : 0 ≤ g.Kind ∧ g.Kind ≤ 11 := by
    simp only [okRep, okKind, Bool.or_eq_true, Bool.and_eq_true, decide_eq_true_eq] at h2
    omega
  have hs : 0 ≤ g.Seq ∧ g.Seq ≤ 4294967295 := by simpa [within] using h3
  have hc : 0 ≤ g.Code ∧ g.Code ≤ 255 := by simpa [within] using h4
  have hn : 0 ≤ g.N ∧ g.N ≤ 1099511627776 := by simpa [within] using h5
  have hl : g.List.length ≤ 8 := by have := of_decide_eq_true h7; omega
  have hv : g.Val.length ≤ 32 := by
    unfold saneBytes at h6
    cases hf : g.Found with
    | false => rw [hf] at h6; rw [lenz (of_decide_eq_true h6)]; simp
    | true =>
      rw [hf] at h6
      simp only [if_true, Bool.and_eq_true, decide_eq_true_eq] at h6
      omega
  refine ⟨⟨VU_of (by show 0 ≤ g.Kind; omega) (by show g.Kind < 2 ^ (8 * 1); omega) (by show g.Kind ≤ _; omega), VU_of (by show 0 ≤ g.Seq; omega) (by show g.Seq < 2 ^ (8 * 4); omega) (by show g.Seq ≤ _; omega), h2, VU_of (by show 0 ≤ g.Code; omega) (by show g.Code < 2 ^ (8 * 1); omega) (by show g.Code ≤ _; omega), VU_of (by show 0 ≤ g.N; omega) (by show g.N < 2 ^ (8 * 8); omega) (by show g.N ≤ _; omega), trivial, hv, hl, fun x hx => ?_⟩, hl⟩
  have := h1 x hx
  simp only [okV, saneBytes, if_true, Bool.and_eq_true, decide_eq_true_eq] at this
  exact ⟨by omega, by omega⟩
end Go.Proofs.YtljkjkkpogkgbaaDoor.Abs
