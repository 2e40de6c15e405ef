/-
  What the library's functions compute.
-/
import Derived.Test.YtlnpkincpgbmcaaDoorFr17
namespace Go.Proofs.YtlnpkincpgbmcaaDoor.Abs



def dead4 (e : Int) : Bool := decide (e = 4) || decide (e = 5)
/-- May a stream be? -/
def saneS (b : List UInt8) (d : Int) : Bool := if dead4 d then decide (b.length = 0) else if d ≠ 0 then false else decide ((opn b).1 = 2)
theorem deadly_m (e : Int) : m47_stream_deadly e = some (dead4 e) := by
  unfold m47_stream_deadly dead4
  by_cases h : e = 4
  · rw [if_pos (decide_eq_true h), decide_eq_true h]; rfl
  · rw [if_neg (by simpa using h), decide_eq_false h, Bool.false_or]
theorem rd0 (b : List UInt8) : (rdS b 0).2.2 = (opn b).1 := by
  have := rdS_at b 0 (Nat.zero_le _)
  rw [show ((0 : Nat) : Int) = 0 from rfl, List.drop_zero] at this
  rw [this]
  by_cases h : (opn b).1 = 0
  · rw [if_pos h, h]
  · rw [if_neg h]
theorem len0 (b : List UInt8) : decide ((b.length : Int) = 0) = decide (b.length = 0) := by
  by_cases h : b.length = 0
  · rw [decide_eq_true h, decide_eq_true (by omega)]
  · rw [decide_eq_false h, decide_eq_false (by omega)]
theorem opn_len0 {b : List UInt8} (h : b.length = 0) : (opn b).1 = 2 := by
  rw [List.eq_nil_of_length_eq_zero h]; rfl
theorem Sane_m (s : GStreamStream) (h : s.Buf.length ≤ 100000000) : m40_stream_Sane s = some (saneS s.Buf s.Dead) := by
  unfold m40_stream_Sane saneS
  rw [deadly_m]
  simp only [Option.bind_some]
  cases hd : dead4 s.Dead with
  | true => rw [if_pos rfl, if_pos rfl, len0]
  | false =>
    simp only [Bool.false_eq_true, if_false]
    by_cases h0 : s.Dead = 0
    · rw [if_neg (by simp [h0]), if_neg (by simp [h0]), Read_m _ _ h]
      simp only [Option.bind_some]
      rw [rd0, len0]
      by_cases hb : s.Buf.length = 0
      · rw [if_pos (decide_eq_true hb), decide_eq_true (opn_len0 hb)]
      · rw [if_neg (by simpa using hb)]
    · rw [if_pos (by simpa using h0), if_pos h0]
/-- What a stream is behind frames that were read: what is left, or why it is dead. -/
def left (r : List UInt8) (e : Int) : List UInt8 := if dead4 e then [] else r
def err4 (e : Int) : Int := if dead4 e then e else 0
theorem allS_cut {b r : List UInt8} {l : List (List UInt8)} {e : Int} (h : AllS b l r e) : b.drop (l.flatMap fr).length = r ∧ (l.flatMap fr).length ≤ b.length := by
  constructor
  · conv => lhs; arg 2; rw [h.1]
    exact List.drop_left
  · rw [h.1, List.length_append]; omega
theorem stpR_vals {r : List UInt8} {e : Int} (h : stpR r e) : (e = 0 ∧ r = []) ∨ (e = 2 ∧ opn r = (2, [])) ∨ (dead4 e = true ∧ opn r = (e, []) ∧ e ≠ 0 ∧ e ≠ 2) := by
  rcases h with ⟨h1, h2⟩ | ⟨h1, h2, h3⟩
  · exact .inl ⟨h2, h1⟩
  · have h4 : (opn r).1 = e := by rw [h3]
    rcases opn_fst r with h | h | h | h
    · exact absurd (h4.symm.trans h) h2
    · have : e = 2 := h4.symm.trans h.1
      subst this; exact .inr (.inl ⟨rfl, h3⟩)
    · have : e = 4 := h4.symm.trans h.1
      subst this; exact .inr (.inr ⟨rfl, h3, by decide, by decide⟩)
    · have : e = 5 := h4.symm.trans h.1
      subst this; exact .inr (.inr ⟨rfl, h3, by decide, by decide⟩)
theorem sane_left {b r : List UInt8} {l : List (List UInt8)} {e : Int} (h : AllS b l r e) : saneS (left r e) (err4 e) = true := by
  unfold saneS left err4
  rcases stpR_vals h.2.2 with ⟨rfl, rfl⟩ | ⟨rfl, h1⟩ | ⟨h1, h2, _⟩
  · rfl
  · simp [dead4, h1]
  · simp [h1]
/-- More bytes behind. -/
theorem allS_more {b r : List UInt8} {l : List (List UInt8)} {e : Int} (h : AllS b l r e) (hd : dead4 e = true) (c : List UInt8) : AllS (b ++ c) l (r ++ c) e := by
  rcases stpR_vals h.2.2 with ⟨rfl, _⟩ | ⟨rfl, _⟩ | ⟨_, h2, h3, h4⟩
  · cases hd
  · cases hd
  · refine ⟨by rw [h.1, List.append_assoc], h.2.1, .inr ⟨fun hc => ?_, h3, ?_⟩⟩
    · have : r = [] := (List.append_eq_nil_iff.1 hc).1
      rw [this] at h2
      exact h4 (congrArg Prod.fst h2).symm
    · rw [opn_bad_app (e := e) (by rw [h2]) h4, h2]
theorem allS_lens {b r : List UInt8} {l : List (List UInt8)} {e : Int} (h : AllS b l r e) : l.length ≤ b.length ∧ r.length ≤ b.length := by
  have h1 := congrArg List.length h.1
  rw [List.length_append] at h1
  have h2 : l.length ≤ (l.flatMap fr).length := by
    clear h h1
    induction l with
    | nil => simp
    | cons p l ih => rw [List.flatMap_cons, List.length_append, fr_len, List.length_cons]; omega
  omega
theorem allS_app {b c r r' : List UInt8} {l l' : List (List UInt8)} {e e' : Int} (h : AllS b l r e) (h' : AllS (r ++ c) l' r' e') : AllS (b ++ c) (l ++ l') r' e' :=
  ⟨by rw [h.1, List.append_assoc, h'.1, List.flatMap_append, List.append_assoc], fun p hp => (List.mem_append.1 hp).elim (h.2.1 p) (h'.2.1 p), h'.2.2⟩
theorem left_len (r : List UInt8) (e : Int) : (left r e).length ≤ r.length := by unfold left; split <;> simp

/-- What comes out of pieces is what comes out of them all. -/
def wantsS (b : List UInt8) : Int := if b.length < 6 then 6 - (b.length : Int) else 6 + (hd2 b : Int) - (b.length : Int)
theorem hd2_lt' {b : List UInt8} : hd2 b < 65536 := hd2_lt
theorem Same_m (a b : GR04Stream) : m32_r04_Same a b = some (decide (a.Buf = b.Buf ∧ a.Dead = b.Dead)) := by
  unfold m32_r04_Same
  by_cases h : a.Buf = b.Buf
  · rw [if_pos (by simpa using h)]
    congr 1
    by_cases hd : a.Dead = b.Dead <;> simp [h, hd]
  · rw [if_neg (by simpa using h), decide_eq_false (fun hc => h hc.1)]
theorem Same_refl (a b : GR04Stream) (h : a.Buf = b.Buf) (h2 : a.Dead = b.Dead) : m32_r04_Same a b = some true := by rw [Same_m, decide_eq_true ⟨h, h2⟩]
end Go.Proofs.YtlnpkincpgbmcaaDoor.Abs
