/-
  Whatever is read of any bytes, the document reads it too.
-/
import Derived.Test.YtlfgbpkigdmjdaaR01
namespace Go.Proofs.Ytlfgbpkigdmjdaa.Abs

theorem rU_all (n e : Int) (p : Nat) (d : List UInt8) (h : p ≤ d.length) (hd : d.length ≤ 100000000) :
    m17_r01_Reader_Us n d p e = (m16_enc_Reader_Us n e p d).bind fun x => some (x.1, x.2.2, x.2.1) := by
  by_cases h1 : n < 1
  · unfold m17_r01_Reader_Us m16_enc_Reader_Us m24_enc_Reader_Errs m22_enc_Reader_Fails m23_r01_Reader_Fails
    simp only [Option.bind_some]
    rw [if_pos (decide_eq_true h1)]
    by_cases he : e = 0
    · subst he
      rw [if_neg (by simp : ¬ (!decide ((0 : Int) = 0)) = true), if_pos (decide_eq_true h1)]
      rfl
    · rw [if_pos (show (!decide (e = 0)) = true by simp [he]), if_neg (show ¬ decide (e = 0) = true by simp [he])]
      rfl
  · by_cases h8 : 8 < n
    · unfold m17_r01_Reader_Us m16_enc_Reader_Us m24_enc_Reader_Errs m22_enc_Reader_Fails m23_r01_Reader_Fails
      simp only [Option.bind_some]
      have h1' : ¬ decide (n < 1) = true := by rw [decide_eq_true_eq]; exact h1
      rw [if_neg h1', if_pos (decide_eq_true h8)]
      by_cases he : e = 0
      · subst he
        rw [if_neg (by simp : ¬ (!decide ((0 : Int) = 0)) = true), if_neg h1', if_pos (decide_eq_true h8)]
        rfl
      · rw [if_pos (show (!decide (e = 0)) = true by simp [he]), if_neg (show ¬ decide (e = 0) = true by simp [he])]
        rfl
    · obtain ⟨m, rfl⟩ : ∃ m : Nat, n = m := ⟨n.toNat, by omega⟩
      exact rU_eq (by omega) (by omega) e p d h hd

theorem fails_eq (n e : Int) (p : Nat) (d : List UInt8) : ∃ e', m22_enc_Reader_Fails n e p d = some e' ∧ m23_r01_Reader_Fails n d p e = some e' := by
  unfold m22_enc_Reader_Fails m23_r01_Reader_Fails
  by_cases he : e = 0
  · simp [he]
  · simp [he]

theorem ends_eq (e : Int) (p : Nat) (d : List UInt8) (h : p ≤ d.length) (hd : d.length ≤ 100000000) : ∃ x, m26_enc_Reader_Ends e p d = some (x, (p : Int)) ∧ m27_r01_Reader_Ends d p e = some x := by
  unfold m26_enc_Reader_Ends m27_r01_Reader_Ends m24_enc_Reader_Errs
  by_cases he : e = 0
  · subst he
    simp only [Option.bind_some]
    rw [places_m 0 p d h hd]
    simp only [Option.bind_some, List.length_drop]
    simp only [decide_true, Bool.not_true, Bool.false_eq_true, if_false, if_true]
    unfold m27_r01_Reader_Ends_k1
    by_cases hl : p < d.length
    · exact ⟨3, by rw [if_pos (decide_eq_true (by omega))], by rw [if_pos (decide_eq_true (by omega))]⟩
    · exact ⟨0, by rw [if_neg (by rw [decide_eq_true_eq]; omega)], by rw [if_neg (by rw [decide_eq_true_eq]; omega)]⟩
  · refine ⟨e, ?_, ?_⟩ <;> simp [he, m27_r01_Reader_Ends_k1]

theorem reads_k8 (d : List UInt8) (i : Nat) (t : Int × Int × Int × Int) (e : Int) (p : Nat) (h : p ≤ d.length) (hd : d.length ≤ 100000000) :
    m4_l01_EncReads_k8 (0, 0, d) (d, 0, 0) ((i : Int), t) (e, p, p, e) = some (.cont (wI ((i : Int) + 1), e, p, p, e)) := by
  obtain ⟨x, h1, h2⟩ := ends_eq e p d h hd
  unfold m4_l01_EncReads_k8 m24_enc_Reader_Errs
  simp only [Option.bind_some]
  rw [at_any e p d h hd, h2]
  simp only [Option.bind_some, decide_true, Bool.not_true, Bool.false_eq_true, if_false]
  rw [h1]
  simp

theorem encReads_true (a0 : List UInt8) (a1 : List GL01Step) : m4_l01_EncReads a0 a1 = some true := by
  unfold m4_l01_EncReads
  rw [awake01]
  simp only [Option.bind_some]
  by_cases h1 : (500 : Int) < a0.length
  · rw [if_pos (decide_eq_true h1)]
  rw [if_neg (by rw [decide_eq_true_eq]; exact h1)]
  by_cases h2 : (100 : Int) < a1.length
  · rw [if_pos (decide_eq_true h2)]
  rw [if_neg (by rw [decide_eq_true_eq]; exact h2)]
  have hd : a0.length ≤ 100000000 := by omega
  unfold m4_l01_EncReads_k2 m14_enc_News m15_r01_News
  simp only [Option.bind_some]
  obtain ⟨b, hb, hR⟩ := iter_inv (f := m4_l01_EncReads_s6 a1 (0, 0, a0) (a0, 0, 0)) (P := fun s => ∃ (i : Nat) (e : Int) (p : Nat), p ≤ a0.length ∧ s = ((i : Int), e, (p : Int), (p : Int), e)) (μ := fun s => a1.length - s.1.toNat) (R := fun x => ∃ y, x = .inr y) (by
    rintro _ ⟨i, e, p, hp, rfl⟩
    unfold m4_l01_EncReads_s6
    dsimp only
    by_cases hi : i < a1.length
    · left
      rw [if_pos (decide_eq_true (by omega)), idx_nat, List.getElem?_eq_getElem hi]
      have hg := List.getElem?_eq_getElem hi
      generalize a1[i] = st at hg
      simp only [Option.bind_some]
      have fin : ∀ (t : Int × Int × Int × Int) (e' : Int) (p' : Nat), p' ≤ a0.length → ∃ s', m4_l01_EncReads_k8 (0, 0, a0) (a0, 0, 0) ((i : Int), t) (e', (p' : Int), (p' : Int), e') = some (.cont s') ∧ (∃ (i : Nat) (e : Int) (p : Nat), p ≤ a0.length ∧ s' = ((i : Int), e, (p : Int), (p : Int), e)) ∧ a1.length - s'.1.toNat < a1.length - ((i : Nat) : Int).toNat := fun t e' p' hp' => by
        refine ⟨_, reads_k8 a0 i t e' p' hp' hd, ⟨i + 1, e', p', hp', ?_⟩, ?_⟩
        · rw [wI_id (by omega) (by omega)]; rfl
        · show a1.length - (wI ((i : Int) + 1)).toNat < _
          rw [wI_id (by omega) (by omega)]; omega
      have k15 : ∀ b : Bool, ∃ s', m4_l01_EncReads_k15 a1 (0, 0, a0) (a0, 0, 0) ((i : Int), e, (p : Int), (p : Int), e) st b = some (.cont s') ∧ (∃ (i : Nat) (e : Int) (p : Nat), p ≤ a0.length ∧ s' = ((i : Int), e, (p : Int), (p : Int), e)) ∧ a1.length - s'.1.toNat < a1.length - ((i : Nat) : Int).toNat := by
        intro b
        unfold m4_l01_EncReads_k15
        dsimp only
        rw [idx_nat, hg]
        simp only [Option.bind_some]
        cases b with
        | true =>
          obtain ⟨v, e1, p1, hu, hp1, _⟩ := U_any st.N e p a0 hp hd
          rw [if_pos rfl, rU_all st.N e p a0 hp hd, hu]
          simp only [Option.bind_some, decide_true, Bool.not_true, Bool.false_eq_true, if_false]
          exact fin _ e1 p1 hp1
        | false =>
          rw [if_neg (by simp)]
          by_cases w2 : st.What = 2
          · obtain ⟨v, e1, p1, hu, hp1, _⟩ := List_any st.N e p a0 hp hd
            rw [if_pos (decide_eq_true w2), rL_eq st.N e p a0 hp hd, hu]
            simp only [Option.bind_some, beq_self_eq_true, Bool.not_true, Bool.false_eq_true, if_false]
            exact fin _ e1 p1 hp1
          rw [if_neg (by simpa using w2)]
          by_cases w3 : st.What = 3
          · obtain ⟨v, e1, p1, hu, hp1, _⟩ := Flag_any e p a0 hp hd
            rw [if_pos (decide_eq_true w3), rF_eq e p a0 hp hd, hu]
            simp only [Option.bind_some, beq_self_eq_true, Bool.not_true, Bool.false_eq_true, if_false]
            exact fin _ e1 p1 hp1
          rw [if_neg (by simpa using w3)]
          by_cases w4 : st.What = 4
          · obtain ⟨e', f1, f2⟩ := fails_eq st.N e p a0
            rw [if_pos (decide_eq_true w4), f1, f2]
            simp only [Option.bind_some]
            exact fin _ e' p hp
          · rw [if_neg (by simpa using w4)]
            exact fin _ e p hp
      by_cases w0 : st.What = 0
      · rw [if_pos (decide_eq_true w0)]
        exact k15 _
      · rw [if_neg (by simpa using w0)]
        exact k15 _
    · right; left
      rw [if_neg (by rw [decide_eq_true_eq]; omega)]
      exact ⟨_, rfl, _, rfl⟩) fuel (0, 0, 0, 0, 0) ⟨0, 0, 0, Nat.zero_le _, rfl⟩ (lt_fuel (by show a1.length - 0 ≤ _; omega))
  rw [hb]
  obtain ⟨y, rfl⟩ := hR
  rfl
end Go.Proofs.Ytlfgbpkigdmjdaa.Abs
