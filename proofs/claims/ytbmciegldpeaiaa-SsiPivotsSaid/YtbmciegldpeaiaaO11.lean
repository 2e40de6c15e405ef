/-
  One thing that is done, and all of them; who comes ahead of whom.
-/
import Derived.Test.YtbmciegldpeaiaaN11
namespace Go.Proofs.Ytbmciegldpeaiaa.Abs


def K10 (K : Keys) : Prop := KS K ∧ K.length ≤ 10
abbrev T6 := (List GSsiTx) × (List GReadsRead) × Int × (List Int) × (List GR11Tx) × (List GR10Read)
def tup (w : WL11) : T6 := (w.c.Txs, w.c.Reads.L, w.now, w.begun, w.did, w.read)
structure Bd (w : WL11) (n : Nat) : Prop where
  now : w.now ≤ n
  beg : w.begun.length ≤ n
  did : w.did.length ≤ n
  read : w.read.length ≤ n
theorem Bd.up {w : WL11} {n m : Nat} (h : Bd w n) (hm : n ≤ m) : Bd w m := ⟨by have := h.now; omega, Nat.le_trans h.beg hm, Nat.le_trans h.did hm, Nat.le_trans h.read hm⟩

theorem SaneT.to {x : GSsiTx} (h : SaneT x K10) : SaneT x KS ∧ x.Keys.length ≤ 10 := by
  refine ⟨⟨h.id, h.beg, ?_⟩, ?_⟩
  · rcases h.st with e | ⟨a, b, c, d, e⟩
    · exact .inl e
    · exact .inr ⟨a, b, c, d.1, e⟩
  · rcases h.st with ⟨_, _, e⟩ | ⟨a, b, c, d, e⟩
    · rw [e]; decide
    · exact d.2
theorem Inv.sc {w : WL11} (h : Inv K10 w) : SC w.c := by
  refine ⟨h.gr, h.ri, h.len, fun x hx => (h.each x hx).to.1, h.ids, fun x hx y hy h1 h2 he => ?_, fun x hx => (h.each x hx).to.2⟩
  obtain ⟨d, hd, a1, a2, a3, a4⟩ := h.don x hx h1
  obtain ⟨d', hd', b1, b2, b3, b4⟩ := h.don y hy h2
  have : d = d' := pw_eq h.didE hd hd' (by omega) (by omega)
  rw [← a1, ← b1, this]

/-- One that is let go. -/
theorem inv_abort {w : WL11} (h : Inv K10 w) (id : Int) : ∃ c, m15_ssi_Abort w.c id = some c ∧ Inv K10 { w with c := c } ∧ (∀ x ∈ c.Txs, x ∈ w.c.Txs ∧ ¬ (x.ID = id ∧ x.State = 1)) := by
  rcases abort_m h.sc id with ⟨h1, e⟩ | ⟨⟨a, ha, e1, h1⟩, e⟩
  · exact ⟨_, e, h, fun x hx => ⟨hx, fun hc => h1 x hx hc.1 hc.2⟩⟩
  · refine ⟨_, e, inv_less h _ _ (List.filter_sublist ..) (fun r hr => ?_) (fun r hr x hx hp e => ?_) (fun x hx hp hs => ?_), fun x hx => ?_⟩
    · obtain ⟨hr1, hr2⟩ := onlyV_mem.1 hr
      obtain ⟨x, hx, e⟩ := h.ri r hr1
      exact ⟨x, hx, by rw [e, hr2]; rfl, e⟩
    · rw [e] at hp
      exact onlyV_mem.2 ⟨hr, by simpa using hp⟩
    · have : x.ID = id := by simpa using hp
      rw [h.one hx ha (this.trans e1.symm), h1] at hs; cases hs
    · obtain ⟨h1, h2⟩ := List.mem_filter.1 hx
      refine ⟨h1, fun hc => ?_⟩
      simp [hc.1] at h2
theorem inv_clean {w : WL11} (h : Inv K10 w) : ∃ c, m16_ssi_Clean w.c = some c ∧ Inv K10 { w with c := c } ∧ c = ⟨w.c.Txs.filter (fun x => !goneV w.c.Txs x), ⟨onlyV w.c.Reads.L ((w.c.Txs.filter (goneV w.c.Txs)).map (·.ID)) false⟩⟩ := by
  have hm : ∀ x ∈ w.c.Txs, (x.ID ∈ (w.c.Txs.filter (goneV w.c.Txs)).map (·.ID)) ↔ goneV w.c.Txs x = true := fun x hx => by
    rw [List.mem_map]
    constructor
    · rintro ⟨y, hy, e⟩
      obtain ⟨h1, h2⟩ := List.mem_filter.1 hy
      rw [← h.one h1 hx e]; exact h2
    · intro hg; exact ⟨x, List.mem_filter.2 ⟨hx, hg⟩, rfl⟩
  have hf : w.c.Txs.filter (fun x => !decide (x.ID ∈ (w.c.Txs.filter (goneV w.c.Txs)).map (·.ID))) = w.c.Txs.filter (fun x => !goneV w.c.Txs x) := by
    refine List.filter_congr fun x hx => ?_
    congr 1
    cases hg : goneV w.c.Txs x with
    | true => exact decide_eq_true ((hm x hx).2 hg)
    | false => exact decide_eq_false fun hc => by have := (hm x hx).1 hc; rw [hg] at this; cases this
  refine ⟨_, clean_m h.sc, ?_, by rw [hf]⟩
  rw [hf]
  refine inv_less h _ _ (List.filter_sublist ..) (fun r hr => ?_) (fun r hr x hx hp e => ?_) (fun x hx hp hs a ha hpa h1 => ?_)
  · obtain ⟨hr1, hr2⟩ := onlyV_mem.1 hr
    obtain ⟨x, hx, e⟩ := h.ri r hr1
    refine ⟨x, hx, ?_, e⟩
    have hn : ¬ (x.ID ∈ (w.c.Txs.filter (goneV w.c.Txs)).map (·.ID)) := by rw [e]; exact of_decide_eq_false hr2
    cases hg : goneV w.c.Txs x with
    | true => exact absurd ((hm x hx).2 hg) hn
    | false => rfl
  · refine onlyV_mem.2 ⟨hr, decide_eq_false fun hc => ?_⟩
    rw [← e] at hc
    rw [(hm x hx).1 hc] at hp; cases hp
  · have hg : goneV w.c.Txs x = true := by simpa using hp
    exact (goneV_iff.1 hg).2 a ha h1

theorem do_k {w : WL11} (h : Inv K10 w) {n : Nat} (hb : Bd w n) (hn : n < 1000) (o : GL11Act) (hK : o.Keys.length ≤ 10) (id : Int) (h0 : 0 ≤ id) :
    ∃ w', m11_l11_world_dos_k1 o w.c.Txs w.c.Reads.L w.now w.begun w.did w.read id = some (tup w') ∧ Inv K10 w' ∧ Bd w' (n + 1) := by
  have hc : (⟨w.c.Txs, ⟨w.c.Reads.L⟩⟩ : GSsiCert) = w.c := rfl
  have hup := hb.up (Nat.le_succ n)
  have b1 := hb.now
  have b2 := hb.beg
  have b3 := hb.did
  have b4 := hb.read
  have hsame : ∃ w', (some (w.c.Txs, w.c.Reads.L, w.now, w.begun, w.did, w.read) : Option T6) = some (tup w') ∧ Inv K10 w' ∧ Bd w' (n + 1) := ⟨w, rfl, h, hup⟩
  have habort : ∃ w', ((m15_ssi_Abort w.c id).bind fun v => (some (v.Txs, v.Reads.L, w.now, w.begun, w.did, w.read) : Option T6)) = some (tup w') ∧ Inv K10 w' ∧ Bd w' (n + 1) := by
    obtain ⟨c, e, hi, _⟩ := inv_abort h id
    exact ⟨{ w with c := c }, by rw [e]; rfl, hi, ⟨hup.now, hup.beg, hup.did, hup.read⟩⟩
  unfold m11_l11_world_dos_k1
  rw [hc]
  by_cases g1 : o.What ≤ 1
  · rw [if_pos (decide_eq_true g1)]
    rcases begin_m h.sc (w.begun.length : Int) w.now o.RO (Int.natCast_nonneg _) h.now0 (by show w.now ≤ 1099511627776; omega) with ⟨_, e⟩ | ⟨_, ⟨_, e⟩ | ⟨hl, e⟩⟩
    · rw [e, Option.bind_some, if_neg (by show ¬ decide ((7 : Int) = 0) = true; decide)]
      exact hsame
    · rw [e, Option.bind_some, if_neg (by show ¬ decide ((8 : Int) = 0) = true; decide)]
      exact hsame
    · rw [e, Option.bind_some, if_pos (by show decide ((0 : Int) = 0) = true; rfl), if_pos (by simp; omega)]
      exact ⟨_, rfl, inv_begin h o.RO (by show w.now ≤ 1099511627776; omega) hl, ⟨hup.now, by simp; omega, hup.did, hup.read⟩⟩
  rw [if_neg (by rw [decide_eq_true_eq]; exact g1)]
  by_cases g2 : o.What ≤ 4
  · rw [if_pos (decide_eq_true g2), show (⟨o.Rng.Lo, o.Rng.Hi, o.Rng.Open⟩ : GApiRange) = o.Rng from rfl]
    rcases read_m h.sc id o.Rng with ⟨_, e⟩ | ⟨a, ha, e1, h1, ⟨x, hx, e⟩ | ⟨_, e⟩ | ⟨rs, hg, r1, r2, r3, r4, r5, e⟩⟩
    · rw [e, Option.bind_some, if_neg (by show ¬ decide ((7 : Int) = 0) = true; decide), if_neg (by show ¬ decide ((7 : Int) = 10) = true; decide)]
      exact hsame
    · rw [e, Option.bind_some, if_neg (by rw [decide_eq_true_eq]; show ¬ x = 0; omega), if_neg (by rw [decide_eq_true_eq]; show ¬ x = 10; omega)]
      exact hsame
    · rw [e, Option.bind_some, if_neg (by show ¬ decide ((10 : Int) = 0) = true; decide), if_pos (by show decide ((10 : Int) = 10) = true; rfl)]
      exact habort
    · rw [e, Option.bind_some, if_pos (by show decide ((0 : Int) = 0) = true; rfl), if_pos (by simp; omega)]
      subst e1
      exact ⟨_, rfl, inv_read h ha h1 o.Rng rs hg r1 r2 r3 r5, ⟨hup.now, hup.beg, hup.did, by simp; omega⟩⟩
  rw [if_neg (by rw [decide_eq_true_eq]; exact g2)]
  by_cases g3 : o.What ≤ 7
  · rw [if_pos (decide_eq_true g3), wI_id (by have := h.now0; omega) (by omega)]
    rcases commit_m h.sc id (w.now + 1) o.Keys hK with ⟨_, e⟩ | ⟨a, ha, e1, h1, ⟨_, e⟩ | ⟨hm, ⟨_, e⟩ | ⟨hcf, ⟨_, e⟩ | ⟨hno, hpv, e⟩⟩⟩⟩
    · rw [e, Option.bind_some, if_neg (by show ¬ decide ((7 : Int) = 0) = true; decide), if_neg (by show ¬ decide ((7 : Int) = 10) = true; decide), if_neg (by show ¬ decide ((7 : Int) = 9) = true; decide)]
      exact hsame
    · rw [e, Option.bind_some, if_neg (by show ¬ decide ((1 : Int) = 0) = true; decide), if_neg (by show ¬ decide ((1 : Int) = 10) = true; decide), if_neg (by show ¬ decide ((1 : Int) = 9) = true; decide)]
      exact hsame
    · rw [e, Option.bind_some, if_neg (by show ¬ decide ((9 : Int) = 0) = true; decide), if_neg (by show ¬ decide ((9 : Int) = 10) = true; decide), if_pos (by show decide ((9 : Int) = 9) = true; rfl)]
      exact habort
    · rw [e, Option.bind_some, if_neg (by show ¬ decide ((10 : Int) = 0) = true; decide), if_pos (by show decide ((10 : Int) = 10) = true; rfl)]
      exact habort
    · have hid := h.act a ha
      rw [e1] at hid
      have hlt := (idx_ltm hid).2.1
      rw [e, Option.bind_some, if_pos (by show decide ((0 : Int) = 0) = true; rfl), if_pos (decide_eq_true hlt), hid, Option.bind_some, if_pos (by simp; omega)]
      refine ⟨_, rfl, inv_done h ha h1 o.Keys ⟨hm.1, hm.2.1⟩ ⟨hm.2.2.1, hK⟩ hm.2.2.2.1 hcf hno hpv ⟨id, a.Begin, w.now + 1, 0, false, false, false, o.Keys⟩ ⟨e1.symm, rfl, rfl, rfl⟩, ⟨by show w.now + 1 ≤ ((n + 1 : Nat) : Int); omega, hup.beg, by simp; omega, hup.read⟩⟩
  rw [if_neg (by rw [decide_eq_true_eq]; exact g3)]
  by_cases g4 : o.What = 8
  · rw [if_pos (decide_eq_true g4)]
    exact habort
  rw [if_neg (by rw [decide_eq_true_eq]; exact g4)]
  by_cases g5 : o.What = 9
  · rw [if_pos (decide_eq_true g5)]
    obtain ⟨c, e, hi, _⟩ := inv_clean h
    exact ⟨{ w with c := c }, by rw [e]; rfl, hi, ⟨hup.now, hup.beg, hup.did, hup.read⟩⟩
  rw [if_neg (by rw [decide_eq_true_eq]; exact g5)]
  exact hsame

theorem idOf (N : Int) (l : List Int) (h0 : 0 < l.length) : ∃ k : Nat, (wI ((BitVec.ofInt 64 N &&& BitVec.ofInt 64 65535).toNat : Int)).tmod (l.length : Int) = (k : Int) ∧ k < l.length := by
  have hlt : (BitVec.ofInt 64 N &&& BitVec.ofInt 64 65535).toNat ≤ 65535 := by
    rw [BitVec.toNat_and]
    exact Nat.le_trans Nat.and_le_right (by decide)
  generalize (BitVec.ofInt 64 N &&& BitVec.ofInt 64 65535).toNat = m at hlt
  rw [wI_id (by omega) (by omega)]
  exact ⟨m % l.length, (Int.ofNat_tmod m l.length).symm ▸ rfl, Nat.mod_lt _ h0⟩

theorem do_m {w : WL11} (h : Inv K10 w) {n : Nat} (hb : Bd w n) (hn : n < 1000) (o : GL11Act) (hK : o.Keys.length ≤ 10) :
    ∃ w', m11_l11_world_dos o w.c.Txs w.c.Reads.L w.now w.begun w.did w.read = some (tup w') ∧ Inv K10 w' ∧ Bd w' (n + 1) := by
  unfold m11_l11_world_dos
  by_cases h0 : (0 : Int) < w.begun.length
  · rw [if_pos (decide_eq_true h0), if_pos (by omega)]
    obtain ⟨k, e, _⟩ := idOf o.N w.begun (by omega)
    rw [e]
    exact do_k h hb hn o hK _ (Int.natCast_nonneg _)
  · rw [if_neg (by rw [decide_eq_true_eq]; exact h0)]
    exact do_k h hb hn o hK _ (Int.le_refl _)

def wN : WL11 := ⟨⟨[], ⟨[]⟩⟩, 0, [], [], []⟩
theorem runL {a0 : List GL11Act} (hl : a0.length ≤ 60) (hk : ∀ o ∈ a0, o.Keys.length ≤ 10) (f : Int × T6 → Option (LB (Int × T6) T6))
    (hf : ∀ (i : Nat) o w v, a0[i]? = some o → m11_l11_world_dos o w.c.Txs w.c.Reads.L w.now w.begun w.did w.read = some (tup v) → f ((i : Int), tup w) = some (.cont (((i + 1 : Nat) : Int), tup v))) (hend : ∀ w, f ((a0.length : Int), tup w) = some (.brk (tup w))) :
    ∃ w, iterB f fuel (0, tup wN) = some (tup w) ∧ Inv K10 w ∧ Bd w 60 := by
  obtain ⟨v, hv, w, rfl, hw⟩ := iterB_inv (f := f) (P := fun s => ∃ (i : Nat) (w : WL11), i ≤ a0.length ∧ s = ((i : Int), tup w) ∧ Inv K10 w ∧ Bd w i) (μ := fun s => a0.length - s.1.toNat) (R := fun v => ∃ w, v = tup w ∧ Inv K10 w ∧ Bd w 60) (by
    rintro _ ⟨i, w, hi, rfl, h, hb⟩
    rcases Nat.lt_or_ge i a0.length with hlt | hge
    · left
      have hx := List.getElem?_eq_getElem hlt
      obtain ⟨w', e, h', hb'⟩ := do_m h hb (by omega) a0[i] (hk _ (List.getElem_mem _))
      exact ⟨_, hf i _ w w' hx e, ⟨i + 1, w', hlt, rfl, h', hb'⟩, by simp only [Int.toNat_natCast]; omega⟩
    · have e : i = a0.length := by omega
      subst e
      exact .inr ⟨_, hend w, w, rfl, h, hb.up hl⟩) fuel (0, tup wN) ⟨0, wN, Nat.zero_le _, rfl, inv_nil, ⟨Int.le_refl _, Nat.le_refl _, Nat.le_refl _, Nat.le_refl _⟩⟩ (lt_fuel (by show a0.length - 0 ≤ _; omega))
  exact ⟨w, hv, hw⟩

theorem small_m (a0 : List GL11Act) : ∃ v, m10_l11_small a0 = some v ∧ (v = true → a0.length ≤ 60 ∧ ∀ o ∈ a0, o.Keys.length ≤ 10) := by
  unfold m10_l11_small
  by_cases h60 : (60 : Int) < a0.length
  · rw [if_pos (decide_eq_true h60)]
    exact ⟨false, rfl, fun e => by cases e⟩
  rw [if_neg (by rw [decide_eq_true_eq]; exact h60)]
  obtain ⟨v, hv, hr⟩ := iter_inv (f := m10_l11_small_s2 a0) (P := fun s => ∃ i : Nat, i ≤ a0.length ∧ s = (i : Int) ∧ ∀ o ∈ a0.take i, o.Keys.length ≤ 10) (μ := fun s => a0.length - s.toNat) (R := fun v => match v with | .inl r => r = false | .inr _ => ∀ o ∈ a0, o.Keys.length ≤ 10) (by
    rintro _ ⟨i, hi, rfl, hk⟩
    unfold m10_l11_small_s2
    rcases Nat.lt_or_ge i a0.length with hlt | hge
    · have hx := List.getElem?_eq_getElem hlt
      rw [if_pos (decide_eq_true (by omega)), idx_nat, hx, Option.bind_some]
      obtain ⟨v, hv, _⟩ := short_m ⟨a0[i].Rng.Lo, a0[i].Rng.Hi, a0[i].Rng.Open⟩
      rw [hv, Option.bind_some]
      cases v with
      | false => exact .inr (.inr ⟨false, rfl, rfl⟩)
      | true =>
      rw [if_neg (by decide), Option.bind_some]
      by_cases h10 : (10 : Int) < a0[i].Keys.length
      · rw [if_pos (decide_eq_true h10)]
        exact .inr (.inr ⟨false, rfl, rfl⟩)
      · rw [if_neg (by rw [decide_eq_true_eq]; exact h10)]
        unfold m10_l11_small_k3
        rw [allR a0[i].Keys (fun k => !decide (50 < (k.length : Int))) false (m10_l11_small_s5 a0 (i : Int)) (by omega) (fun j k hk' => by
          have hjl := (List.getElem?_eq_some_iff.1 hk').1
          unfold m10_l11_small_s5
          rw [idx_nat, hx, Option.bind_some, if_pos (decide_eq_true (by omega)), Option.bind_some, idx_nat, hk', Option.bind_some, wI_id (by omega) (by omega)]
          cases decide (50 < (k.length : Int)) <;> rfl) (by
          unfold m10_l11_small_s5
          rw [idx_nat, hx, Option.bind_some, if_neg (by rw [decide_eq_true_eq]; omega)]), Option.bind_some]
        split
        · rename_i hq
          split at hq
          · cases hq
          · cases hq; exact .inr (.inr ⟨_, rfl, rfl⟩)
        · unfold m10_l11_small_k4
          refine .inl ⟨_, rfl, ⟨i + 1, hlt, by rw [wI_id (by omega) (by omega)]; rfl, fun o ho => ?_⟩, by rw [wI_id (by omega) (by omega)]; omega⟩
          rw [List.take_succ_eq_append_getElem hlt, List.mem_append, List.mem_singleton] at ho
          rcases ho with ho | ho
          · exact hk o ho
          · rw [ho]; omega
    · have e : i = a0.length := by omega
      subst e
      rw [if_neg (by rw [decide_eq_true_eq]; omega)]
      exact .inr (.inl ⟨_, rfl, by rw [List.take_length] at hk; exact hk⟩)) fuel 0 ⟨0, Nat.zero_le _, rfl, by simp⟩ (lt_fuel (by show a0.length - 0 ≤ _; omega))
  rw [hv, Option.bind_some]
  cases v with
  | inl r =>
    have hr : r = false := hr
    exact ⟨r, rfl, fun e => by rw [hr] at e; cases e⟩
  | inr u => exact ⟨true, rfl, fun _ => ⟨by omega, hr⟩⟩

theorem meets_m (r : GApiRange) (K : Keys) (hl : K.length ≤ 1000000) (hk : ∀ k ∈ K, k.length ≤ 1000000) : m14_l11_meets r K = some (metV r K) := by
  unfold m14_l11_meets
  rw [scanR K (hasV r) (fun _ => true) (m14_l11_meets_s2 r K) (by omega) (fun i k hk' => by
    have hlt := (List.getElem?_eq_some_iff.1 hk').1
    unfold m14_l11_meets_s2
    rw [if_pos (decide_eq_true (by omega)), idx_nat, hk', Option.bind_some, show (⟨r.Lo, r.Hi, r.Open⟩ : GApiRange) = r from rfl, rhas_m _ _ (by have := hk k (List.mem_of_getElem? hk'); omega), Option.bind_some, wI_id (by omega) (by omega)]
    cases hasV r k <;> rfl) (by
    unfold m14_l11_meets_s2
    rw [if_neg (by rw [decide_eq_true_eq]; omega)]), Option.bind_some]
  unfold metV
  cases hf : K.find? (hasV r) with
  | none =>
    rw [show K.any (hasV r) = false from List.any_eq_false.2 fun k hk => by have := List.find?_eq_none.1 hf k hk; simpa using this]; rfl
  | some k => rw [List.any_eq_true.2 ⟨k, List.mem_of_find?_eq_some hf, by have := List.find?_some hf; exact this⟩]

/-- One comes ahead of another one. -/
def Ahead (rd : List GR10Read) (a b : GR11Tx) : Prop :=
  (∃ k, k ∈ a.Keys ∧ k ∈ b.Keys) ∧ a.End < b.End ∨ a.End ≤ b.Begin ∧ Rd rd b.ID a.Keys ∨ a.Begin < b.End ∧ Rd rd a.ID b.Keys

theorem least {S : List GR11Tx} (h : S ≠ []) : ∃ x ∈ S, ∀ y ∈ S, x.End ≤ y.End := by
  induction S with
  | nil => exact absurd rfl h
  | cons a S ih =>
    by_cases hS : S = []
    · subst hS
      exact ⟨a, by simp, fun y hy => by rw [List.mem_singleton.1 hy]; exact Int.le_refl _⟩
    · obtain ⟨x, hx, hm⟩ := ih hS
      by_cases hc : a.End ≤ x.End
      · refine ⟨a, by simp, fun y hy => ?_⟩
        rcases List.mem_cons.1 hy with e | hy
        · rw [e]; exact Int.le_refl _
        · have := hm y hy; omega
      · refine ⟨x, by simp [hx], fun y hy => ?_⟩
        rcases List.mem_cons.1 hy with e | hy
        · rw [e]; omega
        · exact hm y hy
/-- Of some that were done there is one that none of the others comes ahead of. -/
theorem Inv.first {saneK : Keys → Prop} {w : WL11} (h : Inv saneK w) {S : List GR11Tx} (hS : ∀ x ∈ S, x ∈ w.did) (hne : S ≠ []) : ∃ x ∈ S, ∀ y ∈ S, y.ID ≠ x.ID → ¬ Ahead w.read y x := by
  obtain ⟨T, hT, hmin⟩ := least hne
  by_cases hP : ∃ P ∈ S, P.ID ≠ T.ID ∧ Ahead w.read P T
  · obtain ⟨P, hPS, hne1, hA⟩ := hP
    have hT0 := h.did0 T (hS T hT)
    have hPm := hmin P hPS
    have hRR : RR w.read P T := by
      rcases hA with ⟨_, e⟩ | ⟨e, _⟩ | ⟨e, hr⟩
      · omega
      · have := hT0.2.2.1; omega
      · exact ⟨hne1, by have := hT0.2.2.1; omega, e, hr⟩
    refine ⟨P, hPS, fun Q hQ hne2 hB => ?_⟩
    have hQm := hmin Q hQ
    have hPT := hRR.2.2.1
    rcases hB with ⟨e1, e2⟩ | ⟨e, _⟩ | ⟨e, hr⟩
    · have := h.ww Q (hS Q hQ) P (hS P hPS) e2 e1; omega
    · omega
    · by_cases hc : P.Begin < Q.End
      · exact h.nop Q (hS Q hQ) P (hS P hPS) T (hS T hT) ⟨hne2, hc, e, hr⟩ hRR
      · omega
  · exact ⟨T, hT, fun y hy h1 h2 => hP ⟨y, hy, h1, h2⟩⟩
end Go.Proofs.Ytbmciegldpeaiaa.Abs
