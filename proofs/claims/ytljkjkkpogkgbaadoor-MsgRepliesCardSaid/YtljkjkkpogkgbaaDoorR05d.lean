/-
  Replies: readers, writers.
-/
import Derived.Test.YtljkjkkpogkgbaaDoorR05c
namespace Go.Proofs.YtljkjkkpogkgbaaDoor.Abs

theorem RS.congr {α : Type} {R : Rdr α} {enc enc' : α → List UInt8} {V : α → Prop} (h : RS R enc V) (he : ∀ x, V x → enc x = enc' x) : RS R enc' V := by
  constructor
  intro e p d hp hd
  obtain ⟨v, e', p', r, l, k, s, c, t⟩ := h.run e p d hp hd
  refine ⟨v, e', p', r, l, k, fun h0 => ?_, fun h0 u r' hu hr => c h0 u r' hu (by rw [he u hu]; exact hr), fun h0 u x hu hx hne => t h0 u x hu (by rw [he u hu]; exact hx) hne⟩
  obtain ⟨a, b⟩ := s h0
  exact ⟨a, by rw [← he v a]; exact b⟩
theorem RS.fn {α : Type} {R R' : Rdr α} {enc : α → List UInt8} {V : α → Prop} (h : RS R enc V) (he : ∀ e p d, R e p d = R' e p d) : RS R' enc V := by
  constructor
  intro e p d hp hd
  obtain ⟨v, e', p', r, rest⟩ := h.run e p d hp hd
  exact ⟨v, e', p', by rw [← he]; exact r, rest⟩

/-- Where something is not so. -/
def RB (b : Bool) : Rdr Unit := fun e p _ => some ((), (if b then e else if e = 0 then 3 else e), p)
theorem RB_rs (b : Bool) : RS (RB b) (fun _ => []) (fun _ => b = true) := by
  constructor
  intro e p d hp hd
  refine ⟨(), _, p, rfl, hp, fun he => ?_, fun he => ?_, fun he u r hu hr => ⟨rfl, ?_, ?_⟩, fun he u x hu hx hne => ?_⟩
  · cases b with
    | true => rfl
    | false => simp [he]
  · cases b with
    | true => exact ⟨rfl, by simp⟩
    | false =>
      simp only [Bool.false_eq_true, if_false] at he
      split at he
      · cases he
      · contradiction
  · rw [if_pos hu]; exact he
  · exact (by simpa using hr : d.drop p = r).symm
  · exact absurd (List.append_eq_nil_iff.1 hx.symm).2 hne

/-- So many, one behind the other. -/
def RN {α : Type} (R : Rdr α) : Nat → Rdr (List α)
  | 0 => fun e p _ => some ([], e, p)
  | k + 1 => fun e p d => (R e p d).bind fun x => (RN R k x.2.1 x.2.2 d).bind fun y => some (x.1 :: y.1, y.2.1, y.2.2)
theorem RN_rs {α : Type} (z : α) {R : Rdr α} {enc : α → List UInt8} {V : α → Prop} (h : RS R enc V) : ∀ k, RS (RN R k) (fun l => l.flatMap enc) (fun l => l.length = k ∧ ∀ x ∈ l, V x)
  | 0 => by
    constructor
    intro e p d hp hd
    refine ⟨[], e, p, rfl, hp, fun _ => rfl, fun _ => ⟨⟨rfl, fun x hx => by simp at hx⟩, by simp⟩, fun he u r hu hr => ⟨?_, he, ?_⟩, fun he u x hu hx hne => ?_⟩
    · exact (List.length_eq_zero_iff.1 hu.1).symm
    · rw [List.length_eq_zero_iff.1 hu.1] at hr
      exact (by simpa using hr : d.drop p = r).symm
    · have hx : u.flatMap enc = d.drop p ++ x := hx
      rw [List.length_eq_zero_iff.1 hu.1] at hx
      exact absurd (List.append_eq_nil_iff.1 hx.symm).2 hne
  | k + 1 => by
    have h2 := RS.map (RS.seq h fun _ => RN_rs z h k) (fun x => x.1 :: x.2) (fun l => (l.headD z, l.tail)) (V' := fun l => l.length = k + 1 ∧ ∀ x ∈ l, V x)
      (fun x hx => ⟨rfl, by simp [hx.2.1], fun y hy => by
        rcases List.mem_cons.1 hy with rfl | hy
        · exact hx.1
        · exact hx.2.2 y hy⟩)
      (fun l hl => by
        cases l with
        | nil => simp at hl
        | cons a l => exact ⟨⟨hl.2 a (List.mem_cons_self ..), by simpa using hl.1, fun x hx => hl.2 x (List.mem_cons_of_mem _ hx)⟩, rfl⟩)
    refine RS.fn (RS.congr h2 fun l hl => ?_) fun e p d => ?_
    · cases l with
      | nil => simp at hl
      | cons a l => rfl
    · simp only [RN, Rdr.seq, Option.bind_assoc, Option.bind_some]

def RV : Rdr GApiKV := fun e p d => ((RL 16).seq (fun _ => RL 32) e p d).bind fun x => some (⟨x.1.1, x.1.2⟩, x.2.1, x.2.2)
def eV (x : GApiKV) : List UInt8 := ls2 x.Key ++ ls2 x.Val
def VV (x : GApiKV) : Prop := x.Key.length ≤ 16 ∧ x.Val.length ≤ 32
theorem RV_rs : RS RV eV VV := RS.map (RS.seq (RL_rs (n := 16) (by decide)) fun _ => RL_rs (n := 32) (by decide)) (fun x => (⟨x.1, x.2⟩ : GApiKV)) (fun y => (y.Key, y.Val)) (fun _ hx => ⟨rfl, hx⟩) (fun _ hy => ⟨hy, rfl⟩)

def RC (a : Int) : Rdr (List GApiKV) := fun e p d => if 8 < a then some ([], (if e = 0 then 5 else e), p) else RN RV a.toNat e p d
def VC (a : Int) (l : List GApiKV) : Prop := a ≤ 8 ∧ l.length = a.toNat ∧ ∀ x ∈ l, VV x
theorem RC_rs (a : Int) : RS (RC a) (fun l => l.flatMap eV) (VC a) := by
  by_cases ha : 8 < a
  · constructor
    intro e p d hp hd
    refine ⟨[], _, p, by unfold RC; rw [if_pos ha], hp, fun he => by rw [if_neg he], fun he => ?_, fun he u r hu hr => absurd hu.1 (by omega), fun he u x hu hx hne => absurd hu.1 (by omega)⟩
    split at he
    · cases he
    · contradiction
  · have h := RN_rs (⟨[], []⟩ : GApiKV) RV_rs a.toNat
    constructor
    intro e p d hp hd
    obtain ⟨v, e', p', r, l, k, s, c, t⟩ := h.run e p d hp hd
    refine ⟨v, e', p', by unfold RC; rw [if_neg ha]; exact r, l, k, fun h0 => ?_, fun h0 u r' hu hr => c h0 u r' hu.2 hr, fun h0 u x hu hx hne => t h0 u x hu.2 hx hne⟩
    obtain ⟨a1, b1⟩ := s h0
    exact ⟨⟨by omega, a1⟩, b1⟩

def eVs (l : List GApiKV) : List UInt8 := eU 1 (l.length : Int) ++ l.flatMap eV
def VVs (l : List GApiKV) : Prop := l.length ≤ 8 ∧ ∀ x ∈ l, VV x
def RVs : Rdr (List GApiKV) := fun e p d => ((RU 1).seq RC e p d).bind fun x => some (x.1.2, x.2.1, x.2.2)
theorem RVs_rs : RS RVs eVs VVs :=
  RS.map (RS.seq (RU_rs (n := 1) (by decide) (by decide)) RC_rs) (fun x => x.2) (fun l => ((l.length : Int), l))
    (fun x hx => by
      obtain ⟨h1, h2, h3, h4⟩ := hx
      have hx0 : 0 ≤ x.1 := by
        unfold VU at h1
        have : (BitVec.ofInt 64 x.1).toNat % 2 ^ (8 * 1) < 256 := Nat.mod_lt _ (by decide)
        rw [wI_id (by omega) (by omega)] at h1
        omega
      exact ⟨by rw [h3, Int.toNat_of_nonneg hx0], by show x.2.length ≤ 8; omega, h4⟩)
    (fun l hl => ⟨⟨VU_of (by show (0 : Int) ≤ (l.length : Int); omega) (by show (l.length : Int) < 2 ^ (8 * 1); have := hl.1; omega) (by show (l.length : Int) ≤ _; have := hl.1; omega), by show (l.length : Int) ≤ 8; have := hl.1; omega, (Int.toNat_natCast _).symm, hl.2⟩, rfl⟩)

theorem vloop (d : List UInt8) (hd : d.length ≤ 100000000) (v1 : (BitVec 64) × Int × Int) {k : Nat} (hk : wI (v1.1.toNat : Int) = k) (h8 : k ≤ 8) : ∀ (j n i : Nat) (e : Int) (p : Nat) (acc : List GApiKV), i + j = k → j < n → acc.length = i → p ≤ d.length →
    iterB (m67_msg_readLists_s4 d v1) n ((i : Int), e, (p : Int), acc) = (RN RV j e p d).bind fun y => some (y.2.1, y.2.2, acc ++ y.1)
  | 0, n, i, e, p, acc, hij, hn, ha, hp => by
    obtain ⟨m, rfl⟩ : ∃ m, n = m + 1 := ⟨n - 1, by omega⟩
    have hf : m67_msg_readLists_s4 d v1 ((i : Int), e, (p : Int), acc) = some (.brk (e, (p : Int), acc)) := by
      unfold m67_msg_readLists_s4
      rw [hk, if_neg (by rw [decide_eq_true_eq]; simp only; omega)]
    rw [iterB, hf]
    simp [RN]
  | j + 1, n, i, e, p, acc, hij, hn, ha, hp => by
    obtain ⟨m, rfl⟩ : ∃ m, n = m + 1 := ⟨n - 1, by omega⟩
    obtain ⟨x1, e1, p1, r1, l1, _⟩ := (RL_rs (n := 16) (by decide)).run e p d hp hd
    obtain ⟨x2, e2, p2, r2, l2, _⟩ := (RL_rs (n := 32) (by decide)).run e1 p1 d l1 hd
    have r1' : m66_enc_Reader_Lists 16 e p d = some (x1, e1, (p1 : Int)) := r1
    have r2' : m66_enc_Reader_Lists 32 e1 p1 d = some (x2, e2, (p2 : Int)) := r2
    have hf : m67_msg_readLists_s4 d v1 ((i : Int), e, (p : Int), acc) = some (.cont (((i + 1 : Nat) : Int), e2, (p2 : Int), acc ++ [(⟨x1, x2⟩ : GApiKV)])) := by
      unfold m67_msg_readLists_s4
      rw [hk, if_pos (by rw [decide_eq_true_eq]; simp only; omega)]
      simp only
      rw [r1']
      simp only [Option.bind_some]
      rw [r2']
      simp only [Option.bind_some]
      rw [if_pos (by simp [ha]; omega), wI_id (by omega) (by omega)]
      rfl
    rw [iterB, hf]
    simp only
    rw [vloop d hd v1 hk h8 j m (i + 1) e2 p2 (acc ++ [(⟨x1, x2⟩ : GApiKV)]) (by omega) (by omega) (by simp [ha]) l2]
    have rv : RV e p d = some (⟨x1, x2⟩, e2, (p2 : Int)) := by
      unfold RV Rdr.seq
      rw [r1]
      simp only [Option.bind_some]
      rw [r2]
      rfl
    simp only [RN, rv, Option.bind_some, Option.bind_assoc, List.append_assoc, List.singleton_append]
theorem readList_m (e : Int) (p : Nat) (d : List UInt8) (hp : p ≤ d.length) (hd : d.length ≤ 100000000) : m67_msg_readLists e p d = RVs e p d := by
  obtain ⟨x, e1, p1, r1, l1, k1, s1, _⟩ := (RU_rs (n := 1) (by decide) (by decide)).run e p d hp hd
  unfold m67_msg_readLists RVs Rdr.seq m48_enc_Reader_Fails m67_msg_readLists_k3
  rw [r1]
  unfold RU at r1
  cases hu : m46_enc_Reader_Us (1 : Nat) e p d with
  | none => rw [hu] at r1; cases r1
  | some w =>
    rw [hu] at r1
    simp only [Option.bind_some, Option.some.injEq, Prod.mk.injEq] at r1
    obtain ⟨hv, he1, hpp⟩ := r1
    simp only [Option.bind_some]
    unfold RC
    rw [hv, he1, hpp]
    by_cases h8 : 8 < x
    · rw [if_pos (decide_eq_true h8), if_pos h8]
      by_cases h0 : e1 = 0
      · simp [h0]
      · simp [h0]
    · rw [if_neg (by rw [decide_eq_true_eq]; exact h8), if_neg h8]
      have hx0 : 0 ≤ x := by
        by_cases h0 : e1 = 0
        · have h1 := (s1 h0).1
          unfold VU at h1
          have : (BitVec.ofInt 64 x).toNat % 2 ^ (8 * 1) < 256 := Nat.mod_lt _ (by decide)
          rw [wI_id (by omega) (by omega)] at h1
          omega
        · obtain ⟨v', e', p', hu', _, _, hlt, hz⟩ := U_any 1 e p d hp hd
          rw [show (1 : Int) = ((1 : Nat) : Int) from rfl, hu] at hu'
          cases hu'
          rw [← hv, hz (by rw [← he1] at h0; exact h0)]
          show (0 : Int) ≤ wI ((0#64).toNat : Int)
          decide
      have := vloop d hd w (k := x.toNat) (by rw [hv, Int.toNat_of_nonneg hx0]) (by omega) x.toNat fuel 0 e1 p1 [] (by omega) (lt_fuel (by omega)) rfl l1
      rw [show ((0 : Nat) : Int) = 0 from rfl] at this
      rw [this]
      simp only [Option.bind_assoc, Option.bind_some, List.nil_append]
end Go.Proofs.YtljkjkkpogkgbaaDoor.Abs
