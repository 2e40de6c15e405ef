/-
  Requests and replies that may be (stage 5), ported.
-/
import Derived.Test.YtlpanhfojeaamaaDoorT16
import Derived.Test.YtlpanhfojeaamaaDoorAbsC
namespace Go.Proofs.YtlpanhfojeaamaaDoor.Abs
def okKind (k : Int) : Bool := decide (1 ≤ k) && decide (k ≤ 11)
theorem isKind_m (k : Int) : m57_msg_isKind k = some (okKind k) := by
  unfold m57_msg_isKind okKind
  by_cases h : 1 ≤ k
  · rw [if_pos (decide_eq_true h), decide_eq_true h]; rfl
  · rw [if_neg (by rw [decide_eq_true_eq]; exact h), decide_eq_false h]; rfl
def zparts : GMsgParts := ⟨false, false, false, false, false, false⟩
def parts (k : Int) : GMsgParts := if okKind k then (tab0[k.toNat]?).getD zparts else zparts
theorem partsOf_m (k : Int) : m56_msg_partsOf k = some (parts k) := by
  unfold m56_msg_partsOf parts
  rw [isKind_m]
  simp only [Option.bind_some]
  cases h : okKind k with
  | false => rfl
  | true =>
    simp only [okKind, Bool.and_eq_true, decide_eq_true_eq] at h
    rw [if_neg (by simp), if_pos rfl]
    have hl : k.toNat < tab0.length := by show k.toNat < 12; omega
    unfold idx
    rw [if_pos (by omega), List.getElem?_eq_getElem hl]
    rfl

def within (a n : Int) : Bool := decide (0 ≤ a) && decide (a ≤ n)
theorem within_m (a n : Int) : m58_msg_within a n = some (within a n) := by
  unfold m58_msg_within within
  by_cases h : 0 ≤ a
  · rw [if_pos (decide_eq_true h), decide_eq_true h]; rfl
  · rw [if_neg (by rw [decide_eq_true_eq]; exact h), decide_eq_false h]; rfl
def saneNum (b : Bool) (a n : Int) : Bool := if b then within a n else decide (a = 0)
theorem saneNum_m (b : Bool) (a n : Int) : m59_msg_saneNum b a n = some (saneNum b a n) := by
  unfold m59_msg_saneNum saneNum
  rw [within_m]
  cases b <;> rfl
def saneBytes (b : Bool) (x : List UInt8) (lo hi : Int) : Bool := if b then decide (lo ≤ (x.length : Int)) && decide ((x.length : Int) ≤ hi) else decide ((x.length : Int) = 0)
theorem saneBytes_m (b : Bool) (x : List UInt8) (lo hi : Int) : m60_msg_saneBytes b x lo hi = some (saneBytes b x lo hi) := by
  unfold m60_msg_saneBytes saneBytes
  cases b
  · rfl
  · by_cases h : lo ≤ (x.length : Int)
    · rw [decide_eq_true h]; rfl
    · rw [decide_eq_false h]; rfl
def saneRng (b : Bool) (r : GApiRange) : Bool := if b then decide ((r.Lo.length : Int) ≤ 16) && saneBytes (!r.Open) r.Hi 0 16 else decide ((r.Lo.length : Int) = 0) && (decide ((r.Hi.length : Int) = 0) && !r.Open)
theorem saneRng_m (b : Bool) (r : GApiRange) : m61_msg_saneRng b r = some (saneRng b r) := by
  unfold m61_msg_saneRng saneRng
  rw [saneBytes_m]
  cases b
  · by_cases h : (r.Lo.length : Int) = 0
    · rw [decide_eq_true h]
      by_cases h2 : (r.Hi.length : Int) = 0
      · rw [decide_eq_true h2]; rfl
      · rw [decide_eq_false h2]; rfl
    · rw [decide_eq_false h]; rfl
  · by_cases h : (r.Lo.length : Int) ≤ 16
    · rw [decide_eq_true h]; rfl
    · rw [decide_eq_false h]; rfl
def saneReq (g : GMsgReq) : Bool :=
  okKind g.Kind && (within g.Seq 4294967295 && (saneNum (parts g.Kind).token_ g.Token 1099511627776 && (saneNum (parts g.Kind).attempt_ g.Attempt 65535 && (((parts g.Kind).ro_ || !g.RO) && (saneBytes (parts g.Kind).key_ g.Key 1 16 && (saneBytes (parts g.Kind).val_ g.Val 0 32 && saneRng (parts g.Kind).rng_ g.Rng))))))
theorem saneReq_m (g : GMsgReq) : m32_msg_SaneReq g = some (saneReq g) := by
  unfold m32_msg_SaneReq saneReq
  simp only [partsOf_m, isKind_m, within_m, saneNum_m, saneBytes_m, saneRng_m, Option.bind_some]
  cases okKind g.Kind
  · rfl
  cases within g.Seq 4294967295
  · rfl
  cases saneNum (parts g.Kind).token_ g.Token 1099511627776
  · rfl
  cases saneNum (parts g.Kind).attempt_ g.Attempt 65535
  · rfl
  cases (parts g.Kind).ro_ <;> cases g.RO <;> cases saneBytes (parts g.Kind).key_ g.Key 1 16 <;> cases saneBytes (parts g.Kind).val_ g.Val 0 32 <;> rfl

def okRep (k : Int) : Bool := decide (k = 0) || okKind k
def okV (x : GApiKV) : Bool := saneBytes true x.Key 1 16 && decide ((x.Val.length : Int) ≤ 32)
def saneRep1 (g : GMsgReply) : Bool := okRep g.Kind && (within g.Seq 4294967295 && (within g.Code 255 && (within g.N 1099511627776 && (saneBytes g.Found g.Val 0 32 && decide ((g.List.length : Int) ≤ 8)))))
def saneRep (g : GMsgReply) : Bool := g.List.all okV && saneRep1 g
theorem saneRep1_m (g : GMsgReply) : m38_msg_SaneReply_k1 g () = some (saneRep1 g) := by
  unfold m38_msg_SaneReply_k1 saneRep1 okRep
  simp only [isKind_m, within_m, saneBytes_m, Option.bind_some]
  by_cases h : g.Kind = 0
  · rw [decide_eq_true h]
    cases within g.Seq 4294967295 <;> cases within g.Code 255 <;> cases within g.N 1099511627776 <;> cases saneBytes g.Found g.Val 0 32 <;> rfl
  · rw [decide_eq_false h]
    cases okKind g.Kind <;> cases within g.Seq 4294967295 <;> cases within g.Code 255 <;> cases within g.N 1099511627776 <;> cases saneBytes g.Found g.Val 0 32 <;> rfl
theorem saneRep_m (g : GMsgReply) (hl : g.List.length ≤ 1000000) : m38_msg_SaneReply g = some (saneRep g) := by
  obtain ⟨b, hb, hR⟩ := iter_inv (f := m38_msg_SaneReply_s11 g) (P := fun s => 0 ≤ s ∧ s ≤ (g.List.length : Int) ∧ ∀ j, j < s.toNat → ∀ x, g.List[j]? = some x → okV x = true) (μ := fun s => g.List.length - s.toNat)
    (R := fun r => match r with | .inl r => r = false ∧ g.List.all okV = false | .inr _ => g.List.all okV = true)
    (fun s hs => by
      obtain ⟨h0, h1, h2⟩ := hs
      unfold m38_msg_SaneReply_s11
      by_cases hlt : s < (g.List.length : Int)
      · obtain ⟨x, hx, hx'⟩ := idx_get h0 hlt
        rw [if_pos (decide_eq_true hlt), hx]
        simp only [Option.bind_some, saneBytes_m]
        have hbad : okV x = false → g.List.all okV = false := fun h => by
          rw [List.all_eq_false]
          exact ⟨x, List.mem_of_getElem? hx', by simp [h]⟩
        cases h3 : saneBytes true x.Key 1 16 with
        | false => exact .inr (.inr ⟨false, rfl, rfl, hbad (by simp [okV, h3])⟩)
        | true =>
          by_cases h4 : (32 : Int) < (x.Val.length : Int)
          · refine .inr (.inr ⟨false, ?_, rfl, hbad (by simp [okV]; omega)⟩)
            rw [if_neg (by simp), if_pos (decide_eq_true h4)]
          · refine .inl ⟨s + 1, ?_, ⟨by omega, by omega, fun j hj y hy => ?_⟩, by omega⟩
            · rw [if_neg (by simp), if_neg (by rw [decide_eq_true_eq]; exact h4), wI_id (by omega) (by omega)]
            · by_cases hj' : j < s.toNat
              · exact h2 j hj' y hy
              · have : j = s.toNat := by omega
                subst this
                rw [hx'] at hy
                cases hy
                simp only [okV, h3, Bool.true_and, decide_eq_true_eq]
                omega
      · refine .inr (.inl ⟨(), by rw [if_neg (by rw [decide_eq_true_eq]; exact hlt)], ?_⟩)
        show g.List.all okV = true
        rw [List.all_eq_true]
        intro x hx
        obtain ⟨j, hj, hjx⟩ := List.getElem_of_mem hx
        exact h2 j (by omega) x (by rw [List.getElem?_eq_getElem hj, hjx])) fuel 0 ⟨by omega, by omega, fun j hj => by simp at hj⟩ (lt_fuel (by simp; omega))
  unfold m38_msg_SaneReply
  rw [hb]
  simp only [Option.bind_some]
  unfold saneRep
  cases b with
  | inl r => obtain ⟨rfl, h⟩ := hR; rw [h]; rfl
  | inr u =>
    have h : g.List.all okV = true := hR
    simp only [h, Bool.true_and]
    exact saneRep1_m g
end Go.Proofs.YtlpanhfojeaamaaDoor.Abs
