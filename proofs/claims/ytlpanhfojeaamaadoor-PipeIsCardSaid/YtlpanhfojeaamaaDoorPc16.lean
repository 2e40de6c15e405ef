/-
  Sameness of the document's requests and replies (stage 5), ported.
-/
import Derived.Test.YtlpanhfojeaamaaDoorPa16
namespace Go.Proofs.YtlpanhfojeaamaaDoor.Abs
def rq (a : GR05Req) : GMsgReq := GMsgReq.mk a.Kind a.Seq a.Token a.Attempt a.RO a.Key a.Val (GApiRange.mk a.Rng.Lo a.Rng.Hi a.Rng.Open)
def rp (a : GR05Reply) : GMsgReply := GMsgReply.mk a.Kind a.Seq a.Code a.N a.Found a.Val a.List
theorem kv_eq {x y : GApiKV} (h1 : x.Key = y.Key) (h2 : x.Val = y.Val) : x = y := by
  cases x; cases y; simp_all
theorem refSame_m (a b : GR05Req) : ∃ r, m25_r05_SameReq a b = some r ∧ (r = true ↔ rq a = rq b) := by
  obtain ⟨k, s, t, at_, ro, ke, va, lo, hi, op⟩ := a
  obtain ⟨k', s', t', at', ro', ke', va', lo', hi', op'⟩ := b
  unfold m25_r05_SameReq
  by_cases h1 : k = k'
  · by_cases h2 : s = s'
    · by_cases h3 : t = t'
      · by_cases h4 : at_ = at'
        · by_cases h5 : ro = ro'
          · by_cases h6 : ke = ke'
            · by_cases h7 : va = va'
              · by_cases h9 : lo = lo'
                · by_cases h10 : hi = hi'
                  · by_cases h8 : op = op'
                    · subst h1 h2 h3 h4 h5 h6 h7 h8 h9 h10
                      exact ⟨true, by simp, by simp⟩
                    · exact ⟨false, by simp [h1, h2, h3, h4, h5, h6, h7, h8, h9, h10], by simp [rq, h8]⟩
                  · exact ⟨false, by simp [h1, h2, h3, h4, h5, h6, h7, h9, h10], by simp [rq, h10]⟩
                · exact ⟨false, by simp [h1, h2, h3, h4, h5, h6, h7, h9], by simp [rq, h9]⟩
              · exact ⟨false, by simp [h1, h2, h3, h4, h5, h6, h7], by simp [rq, h7]⟩
            · exact ⟨false, by simp [h1, h2, h3, h4, h5, h6], by simp [rq, h6]⟩
          · exact ⟨false, by simp [h1, h2, h3, h4, h5], by simp [rq, h5]⟩
        · exact ⟨false, by simp [h1, h2, h3, h4], by simp [rq, h4]⟩
      · exact ⟨false, by simp [h1, h2, h3], by simp [rq, h3]⟩
    · exact ⟨false, by simp [h1, h2], by simp [rq, h2]⟩
  · exact ⟨false, by simp [h1], by simp [rq, h1]⟩

theorem kvs_m (a b : List GApiKV) (hl : a.length ≤ 1000000) : ∃ r, m42_r05_KVs a b = some r ∧ (r = true ↔ a = b) := by
  unfold m42_r05_KVs m42_r05_KVs_k1
  by_cases hlen : a.length = b.length
  · rw [if_neg (by simp [hlen])]
    obtain ⟨r, hr, hR⟩ := iter_inv (f := m42_r05_KVs_s2 a b) (P := fun s => 0 ≤ s ∧ s ≤ (a.length : Int) ∧ ∀ j, j < s.toNat → a[j]? = b[j]?) (μ := fun s => a.length - s.toNat)
      (R := fun r => match r with | .inl r => r = false ∧ a ≠ b | .inr _ => a = b)
      (fun s hs => by
        obtain ⟨h0, h1, h2⟩ := hs
        unfold m42_r05_KVs_s2
        by_cases hlt : s < (a.length : Int)
        · obtain ⟨x, hx, hx'⟩ := idx_get h0 hlt
          obtain ⟨y, hy, hy'⟩ := idx_get (xs := b) h0 (by omega)
          rw [if_pos (decide_eq_true hlt), hx, hy]
          simp only [Option.bind_some]
          have hbad : x ≠ y → a ≠ b := fun hne he => by
            rw [he, hy'] at hx'
            cases hx'
            exact hne rfl
          by_cases h3 : x.Key = y.Key
          · by_cases h4 : x.Val = y.Val
            · refine .inl ⟨s + 1, ?_, ⟨by omega, by omega, fun j hj => ?_⟩, by omega⟩
              · rw [if_neg (by simp [h3]), if_neg (by simp [h4]), wI_id (by omega) (by omega)]
              · by_cases hj' : j < s.toNat
                · exact h2 j hj'
                · have : j = s.toNat := by omega
                  subst this
                  rw [hx', hy', kv_eq h3 h4]
            · exact .inr (.inr ⟨false, by rw [if_neg (by simp [h3]), if_pos (by simp [h4])], rfl, hbad (fun e => h4 (by rw [e]))⟩)
          · exact .inr (.inr ⟨false, by rw [if_pos (by simp [h3])], rfl, hbad (fun e => h3 (by rw [e]))⟩)
        · refine .inr (.inl ⟨(), by rw [if_neg (by rw [decide_eq_true_eq]; exact hlt)], ?_⟩)
          show a = b
          apply List.ext_getElem?
          intro j
          by_cases hj : j < s.toNat
          · exact h2 j hj
          · rw [List.getElem?_eq_none (by omega), List.getElem?_eq_none (by omega)]) fuel 0 ⟨by omega, by omega, fun j hj => by simp at hj⟩ (lt_fuel (by simp; omega))
    rw [hr]
    simp only [Option.bind_some]
    cases r with
    | inl r =>
      obtain ⟨rfl, hne⟩ := hR
      exact ⟨false, rfl, ⟨fun h => (by cases h), fun h => absurd h hne⟩⟩
    | inr u => exact ⟨true, rfl, ⟨fun _ => hR, fun _ => rfl⟩⟩
  · rw [if_pos (by simp; omega)]
    exact ⟨false, rfl, ⟨fun h => (by cases h), fun h => absurd (congrArg List.length h) hlen⟩⟩
theorem refSameRep_m (a b : GR05Reply) (hl : a.List.length ≤ 1000000) : ∃ r, m23_r05_SameReply a b = some r ∧ (r = true ↔ rp a = rp b) := by
  obtain ⟨q, hq, hq2⟩ := kvs_m a.List b.List hl
  unfold m23_r05_SameReply
  rw [hq]
  simp only [Option.bind_some]
  obtain ⟨k, s, c, n, f, v, l⟩ := a
  obtain ⟨k', s', c', n', f', v', l'⟩ := b
  simp only at hq2 ⊢
  by_cases h1 : k = k'
  · by_cases h2 : s = s'
    · by_cases h3 : c = c'
      · by_cases h4 : n = n'
        · by_cases h5 : f = f'
          · by_cases h6 : v = v'
            · subst h1 h2 h3 h4 h5 h6
              exact ⟨q, by simp, by rw [hq2]; simp [rp]⟩
            · exact ⟨false, by simp [h1, h2, h3, h4, h5, h6], by simp [rp, h6]⟩
          · exact ⟨false, by simp [h1, h2, h3, h4, h5], by simp [rp, h5]⟩
        · exact ⟨false, by simp [h1, h2, h3, h4], by simp [rp, h4]⟩
      · exact ⟨false, by simp [h1, h2, h3], by simp [rp, h3]⟩
    · exact ⟨false, by simp [h1, h2], by simp [rp, h2]⟩
  · exact ⟨false, by simp [h1], by simp [rp, h1]⟩
end Go.Proofs.YtlpanhfojeaamaaDoor.Abs
