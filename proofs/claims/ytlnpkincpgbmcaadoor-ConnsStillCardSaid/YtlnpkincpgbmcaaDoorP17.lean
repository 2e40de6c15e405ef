/-
  What the library's functions compute.
-/
import Derived.Test.YtlnpkincpgbmcaaDoorS17
namespace Go.Proofs.YtlnpkincpgbmcaaDoor.Abs


def saneSeqM (s : Int) : Bool := decide (0 ≤ s) && decide (s ≤ 4294967295)
def saneM (b : Int) (u : BitVec 64) : Bool := decide (0 ≤ b) && (decide (b ≤ 4294967296) && (!u.getLsbD 0 && decide (u >>> (4294967296 - b).toNat = 0#64)))
theorem digit_eq (u : BitVec 64) (n : Nat) : decide ((((u >>> n) &&& 1#64).toNat : Int) = 1) = u.getLsbD n := by
  have : ((((u >>> n) &&& 1#64).toNat : Int) = 1) ↔ u.getLsbD n = true := by
    rw [BitVec.toNat_and, BitVec.toNat_ushiftRight, show (1#64).toNat = 1 from rfl, Nat.and_one_is_mod, BitVec.getLsbD, Nat.testBit, Nat.one_and_eq_mod_two]
    have : (u.toNat >>> n) % 2 = 0 ∨ (u.toNat >>> n) % 2 = 1 := by omega
    rcases this with h | h <;> simp [h]
  cases h : u.getLsbD n with
  | true => exact decide_eq_true (this.2 h)
  | false => exact decide_eq_false (fun e => by rw [this.1 e] at h; cases h)
theorem u64_eq0 (x : BitVec 64) : ((x.toNat : Int) = 0) ↔ x = 0#64 := by
  rw [show (0 : Int) = ((0#64).toNat : Int) from rfl, Int.natCast_inj, BitVec.toNat_inj]
theorem saneM_iff (b : Int) (u : BitVec 64) : saneM b u = true ↔ 0 ≤ b ∧ b ≤ 4294967296 ∧ u.getLsbD 0 = false ∧ u >>> (4294967296 - b).toNat = 0#64 := by
  simp [saneM]
theorem saneSeqM_iff (s : Int) : saneSeqM s = true ↔ 0 ≤ s ∧ s ≤ 4294967295 := by simp [saneSeqM]

/-- How many digits from the lowest on are 1. -/
def tone (u : BitVec 64) : Nat := ((List.range 65).find? fun k => !u.getLsbD k).getD 0
theorem tone_of {u : BitVec 64} {k : Nat} (h1 : ∀ j, j < k → u.getLsbD j = true) (h2 : u.getLsbD k = false) : tone u = k := by
  have hk : k ≤ 64 := by
    apply Classical.byContradiction
    intro hn
    have := h1 64 (by omega)
    rw [BitVec.getLsbD_of_ge _ _ (Nat.le_refl _)] at this
    cases this
  have : (List.range 65).find? (fun k => !u.getLsbD k) = some k := by
    rw [List.find?_range_eq_some]
    exact ⟨by simp [h2], by simp; omega, fun j hj => by simp [h1 j hj]⟩
  unfold tone
  rw [this]; rfl
theorem tone_spec (u : BitVec 64) : (∀ j, j < tone u → u.getLsbD j = true) ∧ u.getLsbD (tone u) = false ∧ tone u ≤ 64 := by
  have : ∃ k, (∀ j, j < k → u.getLsbD j = true) ∧ u.getLsbD k = false ∧ k ≤ 64 := by
    have key : ∀ n, (∃ k, k ≤ n ∧ (∀ j, j < k → u.getLsbD j = true) ∧ u.getLsbD k = false) ∨ ∀ j, j ≤ n → u.getLsbD j = true := by
      intro n
      induction n with
      | zero =>
        cases h : u.getLsbD 0 with
        | false => exact .inl ⟨0, Nat.le_refl _, fun j hj => absurd hj (Nat.not_lt_zero _), h⟩
        | true => exact .inr (fun j hj => by have : j = 0 := by omega
                                             rw [this]; exact h)
      | succ n ih =>
        rcases ih with ⟨k, hk, h⟩ | ih
        · exact .inl ⟨k, by omega, h⟩
        · cases h : u.getLsbD (n + 1) with
          | false => exact .inl ⟨n + 1, Nat.le_refl _, fun j hj => ih j (by omega), h⟩
          | true => exact .inr (fun j hj => by
              by_cases e : j = n + 1
              · rw [e]; exact h
              · exact ih j (by omega))
    rcases key 64 with ⟨k, hk, h1, h2⟩ | h
    · exact ⟨k, h1, h2, hk⟩
    · have := h 64 (Nat.le_refl _)
      rw [BitVec.getLsbD_of_ge _ _ (Nat.le_refl _)] at this
      cases this
  obtain ⟨k, h1, h2, hk⟩ := this
  rw [tone_of h1 h2]
  exact ⟨h1, h2, hk⟩

def seenM (b : Int) (u : BitVec 64) (s : Int) : Bool := saneM b u && (saneSeqM s && (decide (s < b) || (decide (s - b < 64) && u.getLsbD (s - b).toNat)))
def acceptM (b : Int) (u : BitVec 64) (s : Int) : (Int × BitVec 64) × Int :=
  if saneM b u = false ∨ saneSeqM s = false then ((0, 0#64), 1)
  else if seenM b u s = true then ((0, 0#64), 7)
  else if s - b ≥ 64 then ((0, 0#64), 8)
  else ((b + tone (u ||| (1#64 <<< (s - b).toNat)), (u ||| (1#64 <<< (s - b).toNat)) >>> tone (u ||| (1#64 <<< (s - b).toNat))), 0)
theorem seen_ge {b : Int} {u : BitVec 64} {s : Int} (h1 : saneM b u = true) (h2 : saneSeqM s = true) (h : seenM b u s = false) : b ≤ s := by
  unfold seenM at h
  rw [h1, h2, Bool.true_and, Bool.true_and, Bool.or_eq_false_iff] at h
  have := of_decide_eq_false h.1
  omega
theorem accept_arg {b : Int} {u : BitVec 64} {s : Int} (h : saneM b u = false ∨ saneSeqM s = false) : acceptM b u s = ((0, 0#64), 1) := if_pos h
theorem accept_seen {b : Int} {u : BitVec 64} {s : Int} (h1 : saneM b u = true) (h2 : saneSeqM s = true) (h : seenM b u s = true) : acceptM b u s = ((0, 0#64), 7) := by
  unfold acceptM
  rw [if_neg (by rw [h1, h2]; simp), if_pos h]
theorem accept_far {b : Int} {u : BitVec 64} {s : Int} (h1 : saneM b u = true) (h2 : saneSeqM s = true) (h : seenM b u s = false) (h3 : 64 ≤ s - b) : acceptM b u s = ((0, 0#64), 8) := by
  unfold acceptM
  rw [if_neg (by rw [h1, h2]; simp), if_neg (by rw [h]; simp), if_pos h3]
theorem accept_ok {b : Int} {u : BitVec 64} {s : Int} (h1 : saneM b u = true) (h2 : saneSeqM s = true) (h : seenM b u s = false) (h3 : ¬ 64 ≤ s - b) :
    acceptM b u s = ((b + tone (u ||| (1#64 <<< (s - b).toNat)), (u ||| (1#64 <<< (s - b).toNat)) >>> tone (u ||| (1#64 <<< (s - b).toNat))), 0) := by
  unfold acceptM
  rw [if_neg (by rw [h1, h2]; simp), if_neg (by rw [h]; simp), if_neg h3]

theorem bit_or (u : BitVec 64) {n : Nat} (hn : n < 64) (j : Nat) : (u ||| (1#64 <<< n)).getLsbD j = (u.getLsbD j || decide (j = n)) := by
  rw [BitVec.getLsbD_or, BitVec.getLsbD_shiftLeft, BitVec.getLsbD_one]
  congr 1
  by_cases h : j = n
  · subst h; simp [hn]
  · by_cases h1 : j < n
    · simp [h1, h]
    · have : ¬ j - n = 0 := by omega
      simp [h, this]

theorem accept_spec {b : Int} {u : BitVec 64} {s : Int} (h1 : saneM b u = true) (h : (acceptM b u s).2 = 0) :
    saneM (acceptM b u s).1.1 (acceptM b u s).1.2 = true ∧ seenM b u s = false ∧ ∀ y, seenM (acceptM b u s).1.1 (acceptM b u s).1.2 y = (decide (y = s) || seenM b u y) := by
  have h2 : saneSeqM s = true := by
    cases hh : saneSeqM s with
    | true => rfl
    | false => rw [accept_arg (.inr hh)] at h; exact absurd h (by decide)
  have h3 : seenM b u s = false := by
    cases hh : seenM b u s with
    | false => rfl
    | true => rw [accept_seen h1 h2 hh] at h; exact absurd h (by decide)
  have h4 : ¬ 64 ≤ s - b := fun hh => by rw [accept_far h1 h2 h3 hh] at h; exact absurd h (by decide)
  rw [accept_ok h1 h2 h3 h4]
  refine ⟨?_, h3, ?_⟩
  all_goals
    have hge := seen_ge h1 h2 h3
    obtain ⟨g1, g2, g3, g4⟩ := (saneM_iff b u).1 h1
    obtain ⟨q1, q2⟩ := (saneSeqM_iff s).1 h2
    obtain ⟨n, hn⟩ : ∃ n : Nat, n = (s - b).toNat := ⟨_, rfl⟩
    rw [← hn]
    have hn64 : n < 64 := by omega
    have hbit := bit_or u hn64
    generalize u ||| (1#64 <<< n) = u1 at *
    obtain ⟨t1, t2, t3⟩ := tone_spec u1
    generalize tone u1 = k at *
    have hu : ∀ j, (4294967296 - b).toNat ≤ j → u.getLsbD j = false := by
      intro j hj
      have : (u >>> (4294967296 - b).toNat).getLsbD (j - (4294967296 - b).toNat) = false := by rw [g4]; simp
      rw [BitVec.getLsbD_ushiftRight] at this
      rwa [show (4294967296 - b).toNat + (j - (4294967296 - b).toNat) = j by omega] at this
    have hu1 : ∀ j, (4294967296 - b).toNat ≤ j → u1.getLsbD j = false := by
      intro j hj
      rw [hbit, hu j hj, decide_eq_false (by omega)]; rfl
    have hk : k ≤ (4294967296 - b).toNat := by
      apply Classical.byContradiction
      intro hh
      have e1 := t1 (4294967296 - b).toNat (by omega)
      rw [hu1 _ (Nat.le_refl _)] at e1
      cases e1
    have hs' : saneM (b + (k : Int)) (u1 >>> k) = true := by
      rw [saneM_iff]
      refine ⟨by omega, by omega, by rw [BitVec.getLsbD_ushiftRight]; exact t2, ?_⟩
      apply BitVec.eq_of_getLsbD_eq
      intro i hi
      rw [BitVec.getLsbD_ushiftRight, BitVec.getLsbD_ushiftRight, hu1 _ (by omega)]
      simp
  · exact hs'
  · intro y
    dsimp only
    cases hy : saneSeqM y with
    | false =>
      have : ¬ y = s := fun e => by rw [e, h2] at hy; cases hy
      simp [seenM, hy, this]
    | true =>
      unfold seenM
      rw [hs', h1, hy, Bool.true_and, Bool.true_and, Bool.true_and, Bool.true_and]
      by_cases hyb : y < b
      · rw [decide_eq_true hyb, decide_eq_true (show y < b + (k : Int) by omega)]; simp
      · obtain ⟨j, hj⟩ : ∃ j : Nat, j = (y - b).toNat := ⟨_, rfl⟩
        have hL : (decide (y < b + (k : Int)) || (decide (y - (b + (k : Int)) < 64) && (u1 >>> k).getLsbD (y - (b + (k : Int))).toNat)) = u1.getLsbD j := by
          by_cases hjk : j < k
          · rw [t1 j hjk, decide_eq_true (by omega)]; rfl
          · rw [decide_eq_false (by omega), Bool.false_or, BitVec.getLsbD_ushiftRight, show k + (y - (b + (k : Int))).toNat = j by omega]
            by_cases h64 : y - (b + (k : Int)) < 64
            · rw [decide_eq_true h64, Bool.true_and]
            · rw [decide_eq_false h64, Bool.false_and, BitVec.getLsbD_of_ge _ _ (by omega)]
        rw [hL, hbit, decide_eq_false hyb, Bool.false_or, ← hj, Bool.or_comm]
        congr 1
        · by_cases e : j = n
          · rw [decide_eq_true e, decide_eq_true (by omega)]
          · rw [decide_eq_false e, decide_eq_false (by omega)]
        · by_cases h64 : y - b < 64
          · rw [decide_eq_true h64, Bool.true_and]
          · rw [decide_eq_false h64, Bool.false_and, BitVec.getLsbD_of_ge _ _ (by omega)]

theorem accept7 {b : Int} {u : BitVec 64} {s : Int} (h1 : saneM b u = true) : (seenM b u s == decide ((acceptM b u s).2 = 7)) = true := by
  cases h2 : saneSeqM s with
  | false => rw [accept_arg (.inr h2)]; simp [seenM, h2]
  | true =>
    cases h3 : seenM b u s with
    | true => rw [accept_seen h1 h2 h3]; rfl
    | false =>
      by_cases h4 : 64 ≤ s - b
      · rw [accept_far h1 h2 h3 h4]; rfl
      · rw [accept_ok h1 h2 h3 h4]; rfl

/-- A number that is not seen, and near enough, is accepted. -/
theorem accept_zero {b : Int} {u : BitVec 64} {s : Int} (h1 : saneM b u = true) (h2 : saneSeqM s = true) (h3 : seenM b u s = false) (h4 : s - b < 64) : (acceptM b u s).2 = 0 ∧ b ≤ (acceptM b u s).1.1 := by
  rw [accept_ok h1 h2 h3 (by omega)]
  exact ⟨rfl, by dsimp only; omega⟩


def okKind (k : Int) : Bool := decide (1 ≤ k) && decide (k ≤ 11)
theorem isKind_m (k : Int) : m65_msg_isKind k = some (okKind k) := by
  unfold m65_msg_isKind okKind
  by_cases h : 1 ≤ k
  · rw [if_pos (decide_eq_true h), decide_eq_true h]; rfl
  · rw [if_neg (by rw [decide_eq_true_eq]; exact h), decide_eq_false h]; rfl
def zparts : GMsgParts := ⟨false, false, false, false, false, false⟩
def parts (k : Int) : GMsgParts := if okKind k then (tab0[k.toNat]?).getD zparts else zparts
theorem partsOf_m (k : Int) : m64_msg_partsOf k = some (parts k) := by
  unfold m64_msg_partsOf parts
  rw [isKind_m]
  simp only [Option.bind_some]
  cases h : okKind k with
  | false => rfl
  | true =>
    simp only [okKind, Bool.and_eq_true, decide_eq_true_eq] at h
    rw [if_neg (by simp), if_pos rfl]
    have hl : k.toNat < tab0.length := by show k.toNat < 12; omega
    unfold idx
    rw [if_pos (by omega), List.getElem?_eq_getElem hl]
    rfl

def within (a n : Int) : Bool := decide (0 ≤ a) && decide (a ≤ n)
theorem within_m (a n : Int) : m66_msg_within a n = some (within a n) := by
  unfold m66_msg_within within
  by_cases h : 0 ≤ a
  · rw [if_pos (decide_eq_true h), decide_eq_true h]; rfl
  · rw [if_neg (by rw [decide_eq_true_eq]; exact h), decide_eq_false h]; rfl
def saneNum (b : Bool) (a n : Int) : Bool := if b then within a n else decide (a = 0)
theorem saneNum_m (b : Bool) (a n : Int) : m67_msg_saneNum b a n = some (saneNum b a n) := by
  unfold m67_msg_saneNum saneNum
  rw [within_m]
  cases b <;> rfl
def saneBytes (b : Bool) (x : List UInt8) (lo hi : Int) : Bool := if b then decide (lo ≤ (x.length : Int)) && decide ((x.length : Int) ≤ hi) else decide ((x.length : Int) = 0)
theorem saneBytes_m (b : Bool) (x : List UInt8) (lo hi : Int) : m68_msg_saneBytes b x lo hi = some (saneBytes b x lo hi) := by
  unfold m68_msg_saneBytes saneBytes
  cases b
  · rfl
  · by_cases h : lo ≤ (x.length : Int)
    · rw [decide_eq_true h]; rfl
    · rw [decide_eq_false h]; rfl
def saneRng (b : Bool) (r : GApiRange) : Bool := if b then decide ((r.Lo.length : Int) ≤ 16) && saneBytes (!r.Open) r.Hi 0 16 else decide ((r.Lo.length : Int) = 0) && (decide ((r.Hi.length : Int) = 0) && !r.Open)
theorem saneRng_m (b : Bool) (r : GApiRange) : m69_msg_saneRng b r = some (saneRng b r) := by
  unfold m69_msg_saneRng saneRng
  rw [saneBytes_m]
  cases b
  · by_cases h : (r.Lo.length : Int) = 0
    · rw [decide_eq_true h]
      by_cases h2 : (r.Hi.length : Int) = 0
      · rw [decide_eq_true h2]; rfl
      · rw [decide_eq_false h2]; rfl
    · rw [decide_eq_false h]; rfl
  · by_cases h : (r.Lo.length : Int) ≤ 16
    · rw [decide_eq_true h]; rfl
    · rw [decide_eq_false h]; rfl
def saneReq (g : GMsgReq) : Bool :=
  okKind g.Kind && (within g.Seq 4294967295 && (saneNum (parts g.Kind).token_ g.Token 1099511627776 && (saneNum (parts g.Kind).attempt_ g.Attempt 65535 && (((parts g.Kind).ro_ || !g.RO) && (saneBytes (parts g.Kind).key_ g.Key 1 16 && (saneBytes (parts g.Kind).val_ g.Val 0 32 && saneRng (parts g.Kind).rng_ g.Rng))))))
theorem saneReq_m (g : GMsgReq) : m55_msg_SaneReq g = some (saneReq g) := by
  unfold m55_msg_SaneReq saneReq
  simp only [partsOf_m, isKind_m, within_m, saneNum_m, saneBytes_m, saneRng_m, Option.bind_some]
  cases okKind g.Kind
  · rfl
  cases within g.Seq 4294967295
  · rfl
  cases saneNum (parts g.Kind).token_ g.Token 1099511627776
  · rfl
  cases saneNum (parts g.Kind).attempt_ g.Attempt 65535
  · rfl
  cases (parts g.Kind).ro_ <;> cases g.RO <;> cases saneBytes (parts g.Kind).key_ g.Key 1 16 <;> cases saneBytes (parts g.Kind).val_ g.Val 0 32 <;> rfl

def okRep (k : Int) : Bool := decide (k = 0) || okKind k
def okV (x : GApiKV) : Bool := saneBytes true x.Key 1 16 && decide ((x.Val.length : Int) ≤ 32)
def saneRep1 (g : GMsgReply) : Bool := okRep g.Kind && (within g.Seq 4294967295 && (within g.Code 255 && (within g.N 1099511627776 && (saneBytes g.Found g.Val 0 32 && decide ((g.List.length : Int) ≤ 8)))))
def saneRep (g : GMsgReply) : Bool := g.List.all okV && saneRep1 g
theorem saneRep1_m (g : GMsgReply) : m56_msg_SaneReply_k1 g () = some (saneRep1 g) := by
  unfold m56_msg_SaneReply_k1 saneRep1 okRep
  simp only [isKind_m, within_m, saneBytes_m, Option.bind_some]
  by_cases h : g.Kind = 0
  · rw [decide_eq_true h]
    cases within g.Seq 4294967295 <;> cases within g.Code 255 <;> cases within g.N 1099511627776 <;> cases saneBytes g.Found g.Val 0 32 <;> rfl
  · rw [decide_eq_false h]
    cases okKind g.Kind <;> cases within g.Seq 4294967295 <;> cases within g.Code 255 <;> cases within g.N 1099511627776 <;> cases saneBytes g.Found g.Val 0 32 <;> rfl
theorem saneRep_m (g : GMsgReply) (hl : g.List.length ≤ 1000000) : m56_msg_SaneReply g = some (saneRep g) := by
  obtain ⟨b, hb, hR⟩ := iter_inv (f := m56_msg_SaneReply_s11 g) (P := fun s => 0 ≤ s ∧ s ≤ (g.List.length : Int) ∧ ∀ j, j < s.toNat → ∀ x, g.List[j]? = some x → okV x = true) (μ := fun s => g.List.length - s.toNat)
    (R := fun r => match r with | .inl r => r = false ∧ g.List.all okV = false | .inr _ => g.List.all okV = true)
    (fun s hs => by
      obtain ⟨h0, h1, h2⟩ := hs
      unfold m56_msg_SaneReply_s11
      by_cases hlt : s < (g.List.length : Int)
      · obtain ⟨x, hx, hx'⟩ := idx_get h0 hlt
        rw [if_pos (decide_eq_true hlt), hx]
        simp only [Option.bind_some, saneBytes_m]
        have hbad : okV x = false → g.List.all okV = false := fun h => by
          rw [List.all_eq_false]
          exact ⟨x, List.mem_of_getElem? hx', by simp [h]⟩
        cases h3 : saneBytes true x.Key 1 16 with
        | false => exact .inr (.inr ⟨false, rfl, rfl, hbad (by simp [okV, h3])⟩)
        | true =>
          by_cases h4 : (32 : Int) < (x.Val.length : Int)
          · refine .inr (.inr ⟨false, ?_, rfl, hbad (by simp [okV]; omega)⟩)
            rw [if_neg (by simp), if_pos (decide_eq_true h4)]
          · refine .inl ⟨s + 1, ?_, ⟨by omega, by omega, fun j hj y hy => ?_⟩, by omega⟩
            · rw [if_neg (by simp), if_neg (by rw [decide_eq_true_eq]; exact h4), wI_id (by omega) (by omega)]
            · by_cases hj' : j < s.toNat
              · exact h2 j hj' y hy
              · have : j = s.toNat := by omega
                subst this
                rw [hx'] at hy
                cases hy
                simp only [okV, h3, Bool.true_and, decide_eq_true_eq]
                omega
      · refine .inr (.inl ⟨(), by rw [if_neg (by rw [decide_eq_true_eq]; exact hlt)], ?_⟩)
        show g.List.all okV = true
        rw [List.all_eq_true]
        intro x hx
        obtain ⟨j, hj, hjx⟩ := List.getElem_of_mem hx
        exact h2 j (by omega) x (by rw [List.getElem?_eq_getElem hj, hjx])) fuel 0 ⟨by omega, by omega, fun j hj => by simp at hj⟩ (lt_fuel (by simp; omega))
  unfold m56_msg_SaneReply
  rw [hb]
  simp only [Option.bind_some]
  unfold saneRep
  cases b with
  | inl r => obtain ⟨rfl, h⟩ := hR; rw [h]; rfl
  | inr u =>
    have h : g.List.all okV = true := hR
    simp only [h, Bool.true_and]
    exact saneRep1_m g



theorem digit_m {u : BitVec 64} {i : Int} (h : 0 ≤ i) : m70_seqs_digit u i = some (u.getLsbD i.toNat) := by
  unfold m70_seqs_digit
  rw [if_pos h, digit_eq]
theorem saneSeq_m (s : Int) : m71_seqs_saneSeq s = some (saneSeqM s) := by
  unfold m71_seqs_saneSeq saneSeqM
  by_cases h : 0 ≤ s
  · rw [if_pos (decide_eq_true h), decide_eq_true h]; rfl
  · rw [if_neg (by rw [decide_eq_true_eq]; exact h), decide_eq_false h]; rfl
theorem sane_m (b : Int) (u : BitVec 64) : m57_seqs_Sane (GSeqsWindow.mk b u) = some (saneM b u) := by
  unfold m57_seqs_Sane saneM
  dsimp only
  by_cases h0 : b < 0
  · rw [if_pos (decide_eq_true h0), decide_eq_false (by omega)]; rfl
  rw [if_neg (by rw [decide_eq_true_eq]; exact h0), decide_eq_true (show 0 ≤ b from by omega)]
  by_cases h1 : 4294967296 < b
  · rw [if_pos (decide_eq_true h1), decide_eq_false (by omega)]; rfl
  rw [if_neg (by rw [decide_eq_true_eq]; exact h1), decide_eq_true (show b ≤ 4294967296 from by omega), digit_m (by decide)]
  simp only [Option.bind_some, Bool.true_and]
  rw [show (0 : Int).toNat = 0 from rfl]
  cases hd : u.getLsbD 0
  · rw [if_neg (by simp)]
    unfold m57_seqs_Sane_k1
    dsimp only
    rw [wI_id (by omega) (by omega), if_pos (by omega)]
    by_cases hz : u >>> (4294967296 - b).toNat = 0#64
    · rw [decide_eq_true hz, decide_eq_true (by rw [hz]; rfl)]; rfl
    · rw [decide_eq_false hz, decide_eq_false (fun h => hz ((u64_eq0 _).1 h))]; rfl
  · rw [if_pos rfl]; rfl
theorem sane_m' (w : GSeqsWindow) : m57_seqs_Sane w = some (saneM w.Base w.Bits) := sane_m w.Base w.Bits
theorem seen_m (b : Int) (u : BitVec 64) (s : Int) : m58_seqs_Seen (GSeqsWindow.mk b u) s = some (seenM b u s) := by
  unfold m58_seqs_Seen seenM
  rw [sane_m, saneSeq_m]
  simp only [Option.bind_some]
  cases hs : saneM b u
  · rfl
  cases hq : saneSeqM s
  · rfl
  obtain ⟨g1, g2, g3, g4⟩ := (saneM_iff b u).1 hs
  obtain ⟨q1, q2⟩ := (saneSeqM_iff s).1 hq
  simp only [Bool.not_true, Bool.false_eq_true, if_false, Bool.true_and]
  unfold m58_seqs_Seen_k1
  dsimp only
  by_cases h : s < b
  · rw [if_pos (decide_eq_true h), decide_eq_true h]; rfl
  rw [if_neg (by rw [decide_eq_true_eq]; exact h), decide_eq_false h, wI_id (by omega) (by omega)]
  by_cases h2 : s - b < 64
  · rw [if_pos (decide_eq_true h2), digit_m (by omega), decide_eq_true h2]; rfl
  · rw [if_neg (by rw [decide_eq_true_eq]; exact h2), decide_eq_false h2]; rfl
theorem shr_shr (u : BitVec 64) (k : Nat) : (u >>> k) >>> (1 : Int).toNat = u >>> (k + 1) := by
  apply BitVec.eq_of_getLsbD_eq
  intro i _
  rw [BitVec.getLsbD_ushiftRight, BitVec.getLsbD_ushiftRight, BitVec.getLsbD_ushiftRight]
  congr 1
  show k + (1 + i) = k + 1 + i
  omega


abbrev mkr (u : GMsgReq) : GMsgReq := GMsgReq.mk u.Kind u.Seq u.Token u.Attempt u.RO u.Key u.Val (GApiRange.mk u.Rng.Lo u.Rng.Hi u.Rng.Open)
theorem mkr_eq (u : GMsgReq) : mkr u = u := by cases u; rfl
abbrev mkp (p : GPipePipe) : GPipePipe := GPipePipe.mk (GSeqsWindow.mk p.Win.Base p.Win.Bits) p.Next p.Wait p.Past
theorem mkp_eq (p : GPipePipe) : mkp p = p := by cases p; rfl

/-! Who waits -/
def hasW (l : List GMsgReq) (s : Int) : Bool := l.any fun r => decide (r.Seq = s)
/-- Where a number waits. -/
def posFrom (i : Nat) (s : Int) : List GMsgReq → Int
  | [] => -1
  | r :: l => if r.Seq = s then (i : Int) else posFrom (i + 1) s l
def posW (l : List GMsgReq) (s : Int) : Int := posFrom 0 s l
theorem posFrom_spec (s : Int) : ∀ (l : List GMsgReq) (i : Nat), (hasW l s = false ∧ posFrom i s l = -1) ∨ (hasW l s = true ∧ ∃ j x, posFrom i s l = ((i + j : Nat) : Int) ∧ l[j]? = some x ∧ x.Seq = s)
  | [], i => .inl ⟨rfl, rfl⟩
  | r :: l, i => by
    unfold posFrom hasW
    rw [List.any_cons]
    by_cases h : r.Seq = s
    · rw [if_pos h, decide_eq_true h]
      exact .inr ⟨rfl, 0, r, by rfl, rfl, h⟩
    · rw [if_neg h, decide_eq_false h, Bool.false_or]
      rcases posFrom_spec s l (i + 1) with ⟨h1, h2⟩ | ⟨h1, j, x, h2, h3, h4⟩
      · exact .inl ⟨h1, h2⟩
      · exact .inr ⟨h1, j + 1, x, by rw [h2]; omega, h3, h4⟩
theorem posW_neg {l : List GMsgReq} {s : Int} (h : hasW l s = false) : posW l s = -1 := by
  rcases posFrom_spec s l 0 with ⟨_, h2⟩ | ⟨h1, _⟩
  · exact h2
  · rw [h] at h1; cases h1
theorem posW_pos {l : List GMsgReq} {s : Int} (h : hasW l s = true) : ∃ (j : Nat) (x : GMsgReq), posW l s = (j : Int) ∧ l[j]? = some x ∧ x.Seq = s := by
  rcases posFrom_spec s l 0 with ⟨h1, _⟩ | ⟨_, j, x, h2, h3, h4⟩
  · rw [h] at h1; cases h1
  · exact ⟨j, x, by rw [show posW l s = _ from h2, Nat.zero_add], h3, h4⟩
theorem posW_nonneg (l : List GMsgReq) (s : Int) : decide (0 ≤ posW l s) = hasW l s := by
  cases h : hasW l s
  · rw [posW_neg h]; rfl
  · obtain ⟨j, x, e, _⟩ := posW_pos h
    rw [e]; exact decide_eq_true (by omega)
theorem waiting_m (p : GPipePipe) (s : Int) (hl : p.Wait.length ≤ 1000000) : m59_pipe_waiting p s = some (posW p.Wait s) := by
  unfold m59_pipe_waiting
  obtain ⟨b, hb, hR⟩ := iter_inv (f := m59_pipe_waiting_s2 p s) (P := fun t => ∃ i : Nat, i ≤ p.Wait.length ∧ t = (i : Int) ∧ posW p.Wait s = posFrom i s (p.Wait.drop i)) (μ := fun t => p.Wait.length - t.toNat) (R := fun r => match r with | .inl r => r = posW p.Wait s | .inr _ => posW p.Wait s = -1)
    (fun t ht => by
      obtain ⟨i, hi, rfl, he⟩ := ht
      unfold m59_pipe_waiting_s2
      rcases Nat.lt_or_ge i p.Wait.length with hlt | hge
      · rw [if_pos (decide_eq_true (by omega)), idx_nat, List.getElem?_eq_getElem hlt]
        simp only [Option.bind_some]
        rw [List.drop_eq_getElem_cons hlt, posFrom] at he
        by_cases h : (p.Wait[i]).Seq = s
        · rw [if_pos (decide_eq_true h)]
          rw [if_pos h] at he
          exact .inr (.inr ⟨_, rfl, he.symm⟩)
        · rw [if_neg (by rw [decide_eq_true_eq]; exact h), wI_id (by omega) (by omega)]
          rw [if_neg h] at he
          exact .inl ⟨_, rfl, ⟨i + 1, by omega, rfl, he⟩, by omega⟩
      · rw [if_neg (by rw [decide_eq_true_eq]; omega)]
        rw [List.drop_eq_nil_of_le hge] at he
        exact .inr (.inl ⟨(), rfl, he⟩)) fuel 0 ⟨0, Nat.zero_le _, rfl, rfl⟩ (lt_fuel (by omega))
  rw [hb]
  cases b with
  | inl r => rw [show r = _ from hR]; rfl
  | inr u => rw [show posW p.Wait s = -1 from hR]; rfl

/-! Those that wait -/
def okW (N : Int) : Int → List GMsgReq → Bool
  | _, [] => true
  | f, r :: l => saneReq r && (!decide (r.Seq < f) && (!decide (N + 8 ≤ r.Seq) && okW N (r.Seq + 1) l))
theorem sane_seq {r : GMsgReq} (h : saneReq r = true) : 0 ≤ r.Seq ∧ r.Seq ≤ 4294967295 := by
  unfold saneReq at h
  simp only [Bool.and_eq_true] at h
  simpa [within] using h.2.1
theorem saneWait_m (p : GPipePipe) (h0 : 0 ≤ p.Next) (h1 : p.Next ≤ 4294967296) (hl : p.Wait.length ≤ 1000000) : m49_pipe_saneWait p = some (okW p.Next p.Next p.Wait && decide ((p.Wait.length : Int) ≤ 8)) := by
  unfold m49_pipe_saneWait
  obtain ⟨b, hb, hR⟩ := iter_inv (f := m49_pipe_saneWait_s2 p) (P := fun t => ∃ i : Nat, i ≤ p.Wait.length ∧ t.2 = (i : Int) ∧ okW p.Next p.Next p.Wait = okW p.Next t.1 (p.Wait.drop i)) (μ := fun t => p.Wait.length - t.2.toNat) (R := fun r => match r with | .inl r => r = false ∧ okW p.Next p.Next p.Wait = false | .inr _ => okW p.Next p.Next p.Wait = true)
    (fun t ht => by
      obtain ⟨fr, ii⟩ := t
      obtain ⟨i, hi, he1, he⟩ := ht
      dsimp only at he1 he
      subst he1
      unfold m49_pipe_saneWait_s2
      rcases Nat.lt_or_ge i p.Wait.length with hlt | hge
      · rw [if_pos (decide_eq_true (by omega)), idx_nat, List.getElem?_eq_getElem hlt]
        simp only [Option.bind_some]
        rw [show m55_msg_SaneReq _ = some (saneReq (mkr p.Wait[i])) from saneReq_m _, mkr_eq]
        simp only [Option.bind_some]
        rw [List.drop_eq_getElem_cons hlt, okW] at he
        cases hs : saneReq p.Wait[i]
        · rw [hs] at he
          exact .inr (.inr ⟨false, rfl, rfl, he⟩)
        rw [hs, Bool.true_and] at he
        have hq := sane_seq hs
        by_cases h2 : (p.Wait[i]).Seq < fr
        · rw [if_neg (by simp), if_pos (decide_eq_true h2)]
          rw [decide_eq_true h2] at he
          exact .inr (.inr ⟨false, rfl, rfl, he⟩)
        rw [if_neg (by simp), if_neg (by rw [decide_eq_true_eq]; exact h2), wI_id (by omega) (by omega)]
        rw [decide_eq_false h2, Bool.not_false, Bool.true_and] at he
        by_cases h3 : p.Next + 8 ≤ (p.Wait[i]).Seq
        · rw [if_pos (decide_eq_true h3)]
          rw [decide_eq_true h3] at he
          exact .inr (.inr ⟨false, rfl, rfl, he⟩)
        rw [if_neg (by rw [decide_eq_true_eq]; exact h3)]
        rw [decide_eq_false h3, Bool.not_false, Bool.true_and] at he
        refine .inl ⟨((p.Wait[i]).Seq + 1, (i : Int) + 1), ?_, ⟨i + 1, by omega, rfl, he⟩, by dsimp only; omega⟩
        unfold m49_pipe_saneWait_k4
        rw [wI_id (by omega) (by omega), wI_id (by omega) (by omega)]
      · rw [if_neg (by rw [decide_eq_true_eq]; omega)]
        rw [List.drop_eq_nil_of_le hge] at he
        exact .inr (.inl ⟨(), rfl, he⟩)) fuel (p.Next, 0) ⟨0, Nat.zero_le _, rfl, rfl⟩ (lt_fuel (by dsimp only; omega))
  rw [hb]
  cases b with
  | inl r => obtain ⟨rfl, h⟩ := hR; rw [h]; rfl
  | inr u => rw [show okW p.Next p.Next p.Wait = true from hR]; rfl

/-! Those that passed -/
def okPa : Int → List GMsgReply → Bool
  | _, [] => true
  | s, r :: l => saneRep r && (decide (r.Seq = s) && okPa (s + 1) l)
theorem sanePast_m (p : GPipePipe) (h0 : 0 ≤ p.Next) (h1 : p.Next ≤ 4294967296) (hl : p.Past.length ≤ 1000000) (hv : ∀ x ∈ p.Past, x.List.length ≤ 1000000) : m50_pipe_sanePast p = some (okPa (p.Next - p.Past.length) p.Past && decide ((p.Past.length : Int) ≤ 8)) := by
  unfold m50_pipe_sanePast
  obtain ⟨b, hb, hR⟩ := iter_inv (f := m50_pipe_sanePast_s2 p) (P := fun t => ∃ i : Nat, i ≤ p.Past.length ∧ t = (i : Int) ∧ okPa (p.Next - p.Past.length) p.Past = okPa (p.Next - p.Past.length + i) (p.Past.drop i)) (μ := fun t => p.Past.length - t.toNat) (R := fun r => match r with | .inl r => r = false ∧ okPa (p.Next - p.Past.length) p.Past = false | .inr _ => okPa (p.Next - p.Past.length) p.Past = true)
    (fun t ht => by
      obtain ⟨i, hi, rfl, he⟩ := ht
      unfold m50_pipe_sanePast_s2
      rcases Nat.lt_or_ge i p.Past.length with hlt | hge
      · rw [if_pos (decide_eq_true (by omega)), idx_nat, List.getElem?_eq_getElem hlt]
        simp only [Option.bind_some]
        rw [saneRep_m _ (hv _ (List.getElem_mem hlt))]
        simp only [Option.bind_some]
        rw [List.drop_eq_getElem_cons hlt, okPa] at he
        cases hs : saneRep p.Past[i]
        · rw [hs] at he
          exact .inr (.inr ⟨false, rfl, rfl, he⟩)
        rw [hs, Bool.true_and] at he
        rw [if_neg (by simp), wI_id (n := p.Next - _) (by omega) (by omega), wI_id (by omega) (by omega)]
        by_cases h2 : (p.Past[i]).Seq = p.Next - p.Past.length + i
        · rw [decide_eq_true h2, Bool.not_true, if_neg (by simp), wI_id (by omega) (by omega)]
          rw [decide_eq_true h2, Bool.true_and] at he
          exact .inl ⟨_, rfl, ⟨i + 1, by omega, rfl, by rw [he]; congr 1; omega⟩, by omega⟩
        · rw [decide_eq_false h2, Bool.not_false, if_pos rfl]
          rw [decide_eq_false h2] at he
          exact .inr (.inr ⟨false, rfl, rfl, he⟩)
      · rw [if_neg (by rw [decide_eq_true_eq]; omega)]
        rw [List.drop_eq_nil_of_le hge] at he
        exact .inr (.inl ⟨(), rfl, he⟩)) fuel 0 ⟨0, Nat.zero_le _, rfl, by simp⟩ (lt_fuel (by omega))
  rw [hb]
  cases b with
  | inl r => obtain ⟨rfl, h⟩ := hR; rw [h]; rfl
  | inr u => rw [show okPa (p.Next - p.Past.length) p.Past = true from hR]; rfl

/-! The window -/
def WinOk (p : GPipePipe) : Prop := ∀ s : Int, p.Next ≤ s → s < p.Next + 64 → s ≤ 4294967295 → seenM p.Win.Base p.Win.Bits s = hasW p.Wait s
theorem saneWin_m (p : GPipePipe) (h0 : 0 ≤ p.Next) (h1 : p.Next ≤ 4294967296) (hl : p.Wait.length ≤ 1000000) : ∃ b, m51_pipe_saneWin p = some b ∧ (b = true ↔ saneM p.Win.Base p.Win.Bits = true ∧ p.Next ≤ p.Win.Base ∧ p.Win.Base ≤ p.Next + 8 ∧ WinOk p) := by
  unfold m51_pipe_saneWin
  rw [sane_m]
  simp only [Option.bind_some]
  cases hs : saneM p.Win.Base p.Win.Bits
  · exact ⟨false, rfl, by simp⟩
  rw [if_neg (by simp)]
  by_cases h2 : p.Win.Base < p.Next
  · exact ⟨false, by rw [if_pos (decide_eq_true h2)], by simp; omega⟩
  rw [if_neg (by rw [decide_eq_true_eq]; exact h2), wI_id (by omega) (by omega)]
  by_cases h3 : p.Next + 8 < p.Win.Base
  · exact ⟨false, by rw [if_pos (decide_eq_true h3)], by simp; omega⟩
  rw [if_neg (by rw [decide_eq_true_eq]; exact h3)]
  unfold m51_pipe_saneWin_k1
  obtain ⟨b, hb, hR⟩ := iter_inv (f := m51_pipe_saneWin_s3 p) (P := fun t => p.Next ≤ t ∧ t ≤ p.Next + 64 ∧ ∀ s : Int, p.Next ≤ s → s < t → s ≤ 4294967295 → seenM p.Win.Base p.Win.Bits s = hasW p.Wait s) (μ := fun t => (p.Next + 64 - t).toNat) (R := fun r => match r with | .inl r => r = false ∧ ¬ WinOk p | .inr _ => WinOk p)
    (fun t ht => by
      obtain ⟨g1, g2, g3⟩ := ht
      unfold m51_pipe_saneWin_s3
      rw [wI_id (by omega) (by omega)]
      by_cases h4 : t < p.Next + 64
      · rw [if_pos (decide_eq_true h4)]
        by_cases h5 : t ≤ 4294967295
        · rw [if_pos (decide_eq_true h5)]
          unfold m51_pipe_saneWin_k4
          rw [seen_m, waiting_m _ _ hl]
          simp only [Option.bind_some]
          rw [posW_nonneg]
          by_cases h6 : seenM p.Win.Base p.Win.Bits t = hasW p.Wait t
          · rw [if_neg (by rw [h6]; simp), wI_id (by omega) (by omega)]
            refine .inl ⟨_, rfl, ⟨by omega, by omega, fun s a1 a2 a3 => ?_⟩, by omega⟩
            by_cases h7 : s = t
            · rw [h7]; exact h6
            · exact g3 s a1 (by omega) a3
          · rw [if_pos (by simpa using h6)]
            exact .inr (.inr ⟨_, rfl, rfl, fun h => h6 (h t g1 h4 h5)⟩)
        · rw [if_neg (by rw [decide_eq_true_eq]; exact h5)]
          exact .inr (.inl ⟨(), rfl, fun s a1 a2 a3 => g3 s a1 (by omega) a3⟩)
      · rw [if_neg (by rw [decide_eq_true_eq]; exact h4)]
        exact .inr (.inl ⟨(), rfl, fun s a1 a2 a3 => g3 s a1 (by omega) a3⟩)) fuel p.Next ⟨by omega, by omega, fun s a1 a2 => by omega⟩ (lt_fuel (by omega))
  rw [hb]
  cases b with
  | inl r => obtain ⟨rfl, h⟩ := hR; exact ⟨false, rfl, ⟨fun h' => (by cases h'), fun h' => absurd h'.2.2.2 h⟩⟩
  | inr u => exact ⟨true, rfl, ⟨fun _ => ⟨rfl, by omega, by omega, hR⟩, fun _ => rfl⟩⟩

structure SaneP (p : GPipePipe) : Prop where
  n0 : 0 ≤ p.Next
  n1 : p.Next ≤ 4294967296
  w : okW p.Next p.Next p.Wait = true
  w8 : (p.Wait.length : Int) ≤ 8
  pa : okPa (p.Next - p.Past.length) p.Past = true
  p8 : (p.Past.length : Int) ≤ 8
  s : saneM p.Win.Base p.Win.Bits = true
  b0 : p.Next ≤ p.Win.Base
  b8 : p.Win.Base ≤ p.Next + 8
  e : WinOk p
/-- Few enough to be looked at. -/
structure FewP (p : GPipePipe) : Prop where
  w : p.Wait.length ≤ 1000000
  pl : p.Past.length ≤ 1000000
  v : ∀ x ∈ p.Past, x.List.length ≤ 1000000
open Classical in
noncomputable def saneB (p : GPipePipe) : Bool := decide (SaneP p)
theorem saneB_true {p : GPipePipe} : saneB p = true ↔ SaneP p := by unfold saneB; simp
theorem saneB_false {p : GPipePipe} : saneB p = false ↔ ¬ SaneP p := by unfold saneB; simp
theorem saneP_m (p : GPipePipe) (hf : FewP p) : m41_pipe_Sane p = some (saneB p) := by
  have hno : ¬ SaneP p → (some false : Option Bool) = some (saneB p) := fun h => by rw [saneB_false.2 h]
  unfold m41_pipe_Sane
  rw [show (GPipePipe.mk (GSeqsWindow.mk p.Win.Base p.Win.Bits) p.Next p.Wait p.Past) = p from mkp_eq p]
  by_cases h0 : 0 ≤ p.Next
  · rw [if_pos (decide_eq_true h0)]
    by_cases h1 : p.Next ≤ 4294967296
    · rw [if_pos (decide_eq_true h1), saneWait_m p h0 h1 hf.w, sanePast_m p h0 h1 hf.pl hf.v]
      simp only [Option.bind_some]
      obtain ⟨b, hb, hiff⟩ := saneWin_m p h0 h1 hf.w
      rw [hb]
      by_cases hw : (okW p.Next p.Next p.Wait && decide ((p.Wait.length : Int) ≤ 8)) = true
      · rw [if_pos hw]
        by_cases hp : (okPa (p.Next - p.Past.length) p.Past && decide ((p.Past.length : Int) ≤ 8)) = true
        · rw [if_pos hp]
          simp only [Bool.and_eq_true, decide_eq_true_eq] at hw hp
          simp only [Option.bind_some]
          cases b with
          | true =>
            obtain ⟨a1, a2, a3, a4⟩ := hiff.1 rfl
            rw [saneB_true.2 ⟨h0, h1, hw.1, hw.2, hp.1, hp.2, a1, a2, a3, a4⟩]
          | false => exact hno fun h => by have := hiff.2 ⟨h.s, h.b0, h.b8, h.e⟩; cases this
        · rw [if_neg hp]
          exact hno fun h => hp (by rw [h.pa, decide_eq_true h.p8]; rfl)
      · rw [if_neg hw]
        exact hno fun h => hw (by rw [h.w, decide_eq_true h.w8]; rfl)
    · rw [if_neg (by rw [decide_eq_true_eq]; exact h1)]
      exact hno fun h => h1 h.n1
  · rw [if_neg (by rw [decide_eq_true_eq]; exact h0)]
    exact hno fun h => h0 h.n0


def rq (a : GR05Req) : GMsgReq := GMsgReq.mk a.Kind a.Seq a.Token a.Attempt a.RO a.Key a.Val (GApiRange.mk a.Rng.Lo a.Rng.Hi a.Rng.Open)
def rp (a : GR05Reply) : GMsgReply := GMsgReply.mk a.Kind a.Seq a.Code a.N a.Found a.Val a.List
theorem kv_eq {x y : GApiKV} (h1 : x.Key = y.Key) (h2 : x.Val = y.Val) : x = y := by
  cases x; cases y; simp_all
theorem refSame_m (a b : GR05Req) : ∃ r, m45_r05_SameReq a b = some r ∧ (r = true ↔ rq a = rq b) := by
  obtain ⟨k, s, t, at_, ro, ke, va, lo, hi, op⟩ := a
  obtain ⟨k', s', t', at', ro', ke', va', lo', hi', op'⟩ := b
  unfold m45_r05_SameReq
  by_cases h1 : k = k'
  · by_cases h2 : s = s'
    · by_cases h3 : t = t'
      · by_cases h4 : at_ = at'
        · by_cases h5 : ro = ro'
          · by_cases h6 : ke = ke'
            · by_cases h7 : va = va'
              · by_cases h9 : lo = lo'
                · by_cases h10 : hi = hi'
                  · by_cases h8 : op = op'
                    · subst h1 h2 h3 h4 h5 h6 h7 h8 h9 h10
                      exact ⟨true, by simp, by simp⟩
                    · exact ⟨false, by simp [h1, h2, h3, h4, h5, h6, h7, h8, h9, h10], by simp [rq, h8]⟩
                  · exact ⟨false, by simp [h1, h2, h3, h4, h5, h6, h7, h9, h10], by simp [rq, h10]⟩
                · exact ⟨false, by simp [h1, h2, h3, h4, h5, h6, h7, h9], by simp [rq, h9]⟩
              · exact ⟨false, by simp [h1, h2, h3, h4, h5, h6, h7], by simp [rq, h7]⟩
            · exact ⟨false, by simp [h1, h2, h3, h4, h5, h6], by simp [rq, h6]⟩
          · exact ⟨false, by simp [h1, h2, h3, h4, h5], by simp [rq, h5]⟩
        · exact ⟨false, by simp [h1, h2, h3, h4], by simp [rq, h4]⟩
      · exact ⟨false, by simp [h1, h2, h3], by simp [rq, h3]⟩
    · exact ⟨false, by simp [h1, h2], by simp [rq, h2]⟩
  · exact ⟨false, by simp [h1], by simp [rq, h1]⟩

theorem kvs_m (a b : List GApiKV) (hl : a.length ≤ 1000000) : ∃ r, m52_r05_KVs a b = some r ∧ (r = true ↔ a = b) := by
  unfold m52_r05_KVs m52_r05_KVs_k1
  by_cases hlen : a.length = b.length
  · rw [if_neg (by simp [hlen])]
    obtain ⟨r, hr, hR⟩ := iter_inv (f := m52_r05_KVs_s2 a b) (P := fun s => 0 ≤ s ∧ s ≤ (a.length : Int) ∧ ∀ j, j < s.toNat → a[j]? = b[j]?) (μ := fun s => a.length - s.toNat)
      (R := fun r => match r with | .inl r => r = false ∧ a ≠ b | .inr _ => a = b)
      (fun s hs => by
        obtain ⟨h0, h1, h2⟩ := hs
        unfold m52_r05_KVs_s2
        by_cases hlt : s < (a.length : Int)
        · obtain ⟨x, hx, hx'⟩ := idx_get h0 hlt
          obtain ⟨y, hy, hy'⟩ := idx_get (xs := b) h0 (by omega)
          rw [if_pos (decide_eq_true hlt), hx, hy]
          simp only [Option.bind_some]
          have hbad : x ≠ y → a ≠ b := fun hne he => by
            rw [he, hy'] at hx'
            cases hx'
            exact hne rfl
          by_cases h3 : x.Key = y.Key
          · by_cases h4 : x.Val = y.Val
            · refine .inl ⟨s + 1, ?_, ⟨by omega, by omega, fun j hj => ?_⟩, by omega⟩
              · rw [if_neg (by simp [h3]), if_neg (by simp [h4]), wI_id (by omega) (by omega)]
              · by_cases hj' : j < s.toNat
                · exact h2 j hj'
                · have : j = s.toNat := by omega
                  subst this
                  rw [hx', hy', kv_eq h3 h4]
            · exact .inr (.inr ⟨false, by rw [if_neg (by simp [h3]), if_pos (by simp [h4])], rfl, hbad (fun e => h4 (by rw [e]))⟩)
          · exact .inr (.inr ⟨false, by rw [if_pos (by simp [h3])], rfl, hbad (fun e => h3 (by rw [e]))⟩)
        · refine .inr (.inl ⟨(), by rw [if_neg (by rw [decide_eq_true_eq]; exact hlt)], ?_⟩)
          show a = b
          apply List.ext_getElem?
          intro j
          by_cases hj : j < s.toNat
          · exact h2 j hj
          · rw [List.getElem?_eq_none (by omega), List.getElem?_eq_none (by omega)]) fuel 0 ⟨by omega, by omega, fun j hj => by simp at hj⟩ (lt_fuel (by simp; omega))
    rw [hr]
    simp only [Option.bind_some]
    cases r with
    | inl r =>
      obtain ⟨rfl, hne⟩ := hR
      exact ⟨false, rfl, ⟨fun h => (by cases h), fun h => absurd h hne⟩⟩
    | inr u => exact ⟨true, rfl, ⟨fun _ => hR, fun _ => rfl⟩⟩
  · rw [if_pos (by simp; omega)]
    exact ⟨false, rfl, ⟨fun h => (by cases h), fun h => absurd (congrArg List.length h) hlen⟩⟩
theorem refSameRep_m (a b : GR05Reply) (hl : a.List.length ≤ 1000000) : ∃ r, m46_r05_SameReply a b = some r ∧ (r = true ↔ rp a = rp b) := by
  obtain ⟨q, hq, hq2⟩ := kvs_m a.List b.List hl
  unfold m46_r05_SameReply
  rw [hq]
  simp only [Option.bind_some]
  obtain ⟨k, s, c, n, f, v, l⟩ := a
  obtain ⟨k', s', c', n', f', v', l'⟩ := b
  simp only at hq2 ⊢
  by_cases h1 : k = k'
  · by_cases h2 : s = s'
    · by_cases h3 : c = c'
      · by_cases h4 : n = n'
        · by_cases h5 : f = f'
          · by_cases h6 : v = v'
            · subst h1 h2 h3 h4 h5 h6
              exact ⟨q, by simp, by rw [hq2]; simp [rp]⟩
            · exact ⟨false, by simp [h1, h2, h3, h4, h5, h6], by simp [rp, h6]⟩
          · exact ⟨false, by simp [h1, h2, h3, h4, h5], by simp [rp, h5]⟩
        · exact ⟨false, by simp [h1, h2, h3, h4], by simp [rp, h4]⟩
      · exact ⟨false, by simp [h1, h2, h3], by simp [rp, h3]⟩
    · exact ⟨false, by simp [h1, h2], by simp [rp, h2]⟩
  · exact ⟨false, by simp [h1], by simp [rp, h1]⟩



def qr (a : GMsgReq) : GR05Req := GR05Req.mk a.Kind a.Seq a.Token a.Attempt a.RO a.Key a.Val (GApiRange.mk a.Rng.Lo a.Rng.Hi a.Rng.Open)
def pr (a : GMsgReply) : GR05Reply := GR05Reply.mk a.Kind a.Seq a.Code a.N a.Found a.Val a.List
theorem qr_rq (a : GR05Req) : qr (rq a) = a := by cases a; rfl
theorem rq_qr (a : GMsgReq) : rq (qr a) = a := by cases a; rfl
theorem pr_rp (a : GR05Reply) : pr (rp a) = a := by cases a; rfl
theorem rp_pr (a : GMsgReply) : rp (pr a) = a := by cases a; rfl
def ou (a : GR16Pipe) : GPipePipe := GPipePipe.mk (GSeqsWindow.mk a.Win.Base a.Win.Bits) a.Next (a.Wait.map rq) (a.Past.map rp)
def th (p : GPipePipe) : GR16Pipe := GR16Pipe.mk (GR15Window.mk p.Win.Base p.Win.Bits) p.Next (p.Wait.map qr) (p.Past.map pr)
theorem th_ou (a : GR16Pipe) : th (ou a) = a := by
  obtain ⟨⟨b, u⟩, n, w, p⟩ := a
  simp only [th, ou, List.map_map]
  rw [show qr ∘ rq = id from funext qr_rq, show pr ∘ rp = id from funext pr_rp, List.map_id, List.map_id]

theorem map_loop {α β : Type} {f : Int × List β → Option (LB (Int × List β) (List β))} (g : α → β) (xs : List α) (hl : xs.length ≤ 1000000)
    (h1 : ∀ i (h : i < xs.length) acc, acc.length ≤ 1000000 → f ((i : Int), acc) = some (.cont (wI ((i : Int) + 1), acc ++ [g xs[i]]))) (h2 : ∀ acc, f ((xs.length : Int), acc) = some (.brk acc)) : iterB f fuel (0, []) = some (xs.map g) := by
  obtain ⟨v, hv, rfl⟩ := iterB_inv (f := f) (P := fun s => ∃ i : Nat, i ≤ xs.length ∧ s = ((i : Int), (xs.take i).map g)) (μ := fun s => xs.length - s.1.toNat) (R := fun v => v = xs.map g) (by
    rintro _ ⟨i, hi, rfl⟩
    rcases Nat.lt_or_ge i xs.length with hlt | hge
    · left
      refine ⟨_, h1 i hlt _ (by rw [List.length_map, List.length_take]; omega), ⟨i + 1, by omega, ?_⟩, ?_⟩
      · rw [wI_id (by omega) (by omega), List.take_succ_eq_append_getElem hlt, List.map_append]; rfl
      · rw [wI_id (by omega) (by omega)]; dsimp only; omega
    · right
      have : i = xs.length := by omega
      subst this
      exact ⟨_, h2 _, by rw [List.take_length]⟩) fuel (0, []) ⟨0, Nat.zero_le _, rfl⟩ (lt_fuel (by dsimp only; omega))
  exact hv
theorem refSame_self (a : GR05Req) : m45_r05_SameReq a a = some true := by
  obtain ⟨r, h, h2⟩ := refSame_m a a
  rw [h, h2.2 rfl]
theorem refSameRep_self (a : GR05Reply) (hl : a.List.length ≤ 1000000) : m46_r05_SameReply a a = some true := by
  obtain ⟨r, h, h2⟩ := refSameRep_m a a hl
  rw [h, h2.2 rfl]
structure FewR (a : GR16Pipe) : Prop where
  w : a.Wait.length ≤ 1000000
  pl : a.Past.length ≤ 1000000
  v : ∀ x ∈ a.Past, x.List.length ≤ 1000000
theorem same_self (a : GR16Pipe) (hf : FewR a) : m33_r16_Same a a = some true := by
  have hw := hf.w
  have hp := hf.pl
  unfold m33_r16_Same
  simp only [decide_true, Bool.and_self, Bool.not_true, Bool.false_eq_true, if_false]
  unfold m33_r16_Same_k1
  obtain ⟨b, hb, hR⟩ := iter_inv (f := m33_r16_Same_s9 a a) (P := fun t => ∃ i : Nat, i ≤ a.Wait.length ∧ t = (i : Int)) (μ := fun t => a.Wait.length - t.toNat) (R := fun v => v = .inr ()) (by
    rintro _ ⟨i, hi, rfl⟩
    unfold m33_r16_Same_s9
    rcases Nat.lt_or_ge i a.Wait.length with hlt | hge
    · rw [if_pos (decide_eq_true (by omega)), idx_nat, List.getElem?_eq_getElem hlt]
      simp only [Option.bind_some]
      rw [refSame_self]
      simp only [Option.bind_some]
      rw [if_neg (by simp), wI_id (by omega) (by omega)]
      exact .inl ⟨_, rfl, ⟨i + 1, by omega, rfl⟩, by omega⟩
    · rw [if_neg (by rw [decide_eq_true_eq]; omega)]
      exact .inr (.inl ⟨(), rfl, rfl⟩)) fuel 0 ⟨0, Nat.zero_le _, rfl⟩ (lt_fuel (by omega))
  subst hR
  rw [hb]
  show m33_r16_Same_k2 a a () = some true
  unfold m33_r16_Same_k2
  obtain ⟨b, hb, hR⟩ := iter_inv (f := m33_r16_Same_s4 a a) (P := fun t => ∃ i : Nat, i ≤ a.Past.length ∧ t = (i : Int)) (μ := fun t => a.Past.length - t.toNat) (R := fun v => v = .inr ()) (by
    rintro _ ⟨i, hi, rfl⟩
    unfold m33_r16_Same_s4
    rcases Nat.lt_or_ge i a.Past.length with hlt | hge
    · rw [if_pos (decide_eq_true (by omega)), idx_nat, List.getElem?_eq_getElem hlt]
      simp only [Option.bind_some]
      rw [refSameRep_self _ (hf.v _ (List.getElem_mem hlt))]
      simp only [Option.bind_some]
      rw [if_neg (by simp), wI_id (by omega) (by omega)]
      exact .inl ⟨_, rfl, ⟨i + 1, by omega, rfl⟩, by omega⟩
    · rw [if_neg (by rw [decide_eq_true_eq]; omega)]
      exact .inr (.inl ⟨(), rfl, rfl⟩)) fuel 0 ⟨0, Nat.zero_le _, rfl⟩ (lt_fuel (by omega))
  subst hR
  rw [hb]
  rfl

/-! Few -/
theorem fewReply_m (a : GR05Reply) : ∃ b, m44_r05_FewReply a = some b ∧ (b = true → a.List.length ≤ 20) := by
  unfold m44_r05_FewReply
  by_cases h1 : (100 : Int) < (a.Val.length : Int)
  · exact ⟨false, by rw [if_pos (decide_eq_true h1)], by simp⟩
  rw [if_neg (by rw [decide_eq_true_eq]; exact h1)]
  by_cases h2 : (20 : Int) < (a.List.length : Int)
  · exact ⟨false, by rw [if_pos (decide_eq_true h2)], by simp⟩
  rw [if_neg (by rw [decide_eq_true_eq]; exact h2)]
  unfold m44_r05_FewReply_k1
  obtain ⟨b, hb, _⟩ := iter_inv (f := m44_r05_FewReply_s3 a) (P := fun s => ∃ i : Nat, i ≤ a.List.length ∧ s = (i : Int)) (μ := fun s => a.List.length - s.toNat) (R := fun _ => True)
    (fun s hs => by
      obtain ⟨i, hi, rfl⟩ := hs
      unfold m44_r05_FewReply_s3
      by_cases h0 : i < a.List.length
      · rw [if_pos (by rw [decide_eq_true_eq]; omega), idx_nat, List.getElem?_eq_getElem h0]
        simp only [Option.bind_some]
        by_cases h3 : (100 : Int) < ((a.List[i]).Key.length : Int)
        · exact .inr (.inr ⟨_, by rw [if_pos (decide_eq_true h3)], trivial⟩)
        · rw [if_neg (by rw [decide_eq_true_eq]; exact h3)]
          by_cases h4 : (100 : Int) < ((a.List[i]).Val.length : Int)
          · exact .inr (.inr ⟨_, by rw [if_pos (decide_eq_true h4)], trivial⟩)
          · exact .inl ⟨((i + 1 : Nat) : Int), by rw [if_neg (by rw [decide_eq_true_eq]; exact h4), wI_id (by omega) (by omega)]; rfl, ⟨i + 1, by omega, rfl⟩, by omega⟩
      · exact .inr (.inl ⟨(), by rw [if_neg (by rw [decide_eq_true_eq]; omega)], trivial⟩)) fuel 0 ⟨0, by omega, rfl⟩ (lt_fuel (by omega))
  rw [hb]
  cases b with
  | inl r => exact ⟨r, rfl, fun _ => by omega⟩
  | inr r => exact ⟨true, rfl, fun _ => by omega⟩
theorem few_m (a : GR05Req) : ∃ b, m43_r05_Few a = some b := by
  unfold m43_r05_Few
  split
  · split
    · split
      · exact ⟨_, rfl⟩
      · exact ⟨_, rfl⟩
    · exact ⟨_, rfl⟩
  · exact ⟨_, rfl⟩
theorem fewPipe_m (a : GR16Pipe) : ∃ b, m28_r16_Few a = some b ∧ (b = true → a.Wait.length ≤ 12 ∧ a.Past.length ≤ 12 ∧ ∀ x ∈ a.Past, x.List.length ≤ 20) := by
  unfold m28_r16_Few
  by_cases h1 : (12 : Int) < (a.Wait.length : Int)
  · exact ⟨false, by rw [if_pos (decide_eq_true h1)], by simp⟩
  rw [if_neg (by rw [decide_eq_true_eq]; exact h1)]
  by_cases h2 : (12 : Int) < (a.Past.length : Int)
  · exact ⟨false, by rw [if_pos (decide_eq_true h2)], by simp⟩
  rw [if_neg (by rw [decide_eq_true_eq]; exact h2)]
  unfold m28_r16_Few_k1
  obtain ⟨b, hb, _⟩ := iter_inv (f := m28_r16_Few_s8 a) (P := fun s => ∃ i : Nat, i ≤ a.Wait.length ∧ s = (i : Int)) (μ := fun s => a.Wait.length - s.toNat) (R := fun v => v = .inl false ∨ v = .inr ())
    (fun s hs => by
      obtain ⟨i, hi, rfl⟩ := hs
      unfold m28_r16_Few_s8
      by_cases h0 : i < a.Wait.length
      · rw [if_pos (by rw [decide_eq_true_eq]; omega), idx_nat, List.getElem?_eq_getElem h0]
        simp only [Option.bind_some]
        obtain ⟨q, hq⟩ := few_m (GR05Req.mk (a.Wait[i]).Kind (a.Wait[i]).Seq (a.Wait[i]).Token (a.Wait[i]).Attempt (a.Wait[i]).RO (a.Wait[i]).Key (a.Wait[i]).Val (GApiRange.mk (a.Wait[i]).Rng.Lo (a.Wait[i]).Rng.Hi (a.Wait[i]).Rng.Open))
        rw [hq]
        cases q
        · exact .inr (.inr ⟨false, rfl, .inl rfl⟩)
        · exact .inl ⟨((i + 1 : Nat) : Int), by simp only [Option.bind_some]; rw [if_neg (by simp), wI_id (by omega) (by omega)]; rfl, ⟨i + 1, by omega, rfl⟩, by omega⟩
      · exact .inr (.inl ⟨(), by rw [if_neg (by rw [decide_eq_true_eq]; omega)], .inr rfl⟩)) fuel 0 ⟨0, by omega, rfl⟩ (lt_fuel (by omega))
  rw [hb]
  rename_i hR
  rcases hR with rfl | rfl
  · exact ⟨false, rfl, by simp⟩
  simp only [Option.bind_some]
  unfold m28_r16_Few_k2
  obtain ⟨b, hb, hR⟩ := iter_inv (f := m28_r16_Few_s4 a) (P := fun s => ∃ i : Nat, i ≤ a.Past.length ∧ s = (i : Int) ∧ ∀ j x, j < i → a.Past[j]? = some x → x.List.length ≤ 20) (μ := fun s => a.Past.length - s.toNat) (R := fun v => v = .inl false ∨ (v = .inr () ∧ ∀ x ∈ a.Past, x.List.length ≤ 20))
    (fun s hs => by
      obtain ⟨i, hi, rfl, hlow⟩ := hs
      unfold m28_r16_Few_s4
      by_cases h0 : i < a.Past.length
      · rw [if_pos (by rw [decide_eq_true_eq]; omega), idx_nat, List.getElem?_eq_getElem h0]
        simp only [Option.bind_some]
        obtain ⟨q, hq, hq2⟩ := fewReply_m a.Past[i]
        rw [hq]
        cases q
        · exact .inr (.inr ⟨false, rfl, .inl rfl⟩)
        · refine .inl ⟨((i + 1 : Nat) : Int), by simp only [Option.bind_some]; rw [if_neg (by simp), wI_id (by omega) (by omega)]; rfl, ⟨i + 1, by omega, rfl, fun j x hj hx => ?_⟩, by omega⟩
          by_cases e : j = i
          · subst e
            rw [List.getElem?_eq_getElem h0] at hx
            cases hx
            exact hq2 rfl
          · exact hlow j x (by omega) hx
      · refine .inr (.inl ⟨(), by rw [if_neg (by rw [decide_eq_true_eq]; omega)], .inr ⟨rfl, fun x hx => ?_⟩⟩)
        obtain ⟨j, hj, e⟩ := List.getElem_of_mem hx
        exact hlow j x (by omega) (by rw [List.getElem?_eq_getElem hj, e])) fuel 0 ⟨0, by omega, rfl, fun j x hj => by omega⟩ (lt_fuel (by omega))
  rw [hb]
  rcases hR with rfl | ⟨rfl, h⟩
  · exact ⟨false, rfl, by simp⟩
  · exact ⟨true, rfl, fun _ => ⟨by omega, by omega, h⟩⟩

end Go.Proofs.YtlnpkincpgbmcaaDoor.Abs
