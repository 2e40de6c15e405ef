/-
  The document's own windows: the same answers.
-/
import Derived.Test.YtaffjoloefhodaaQ8
import Derived.Laws.StructEq
import Derived.StillTactics
namespace Go.Proofs.Ytaffjoloefhodaa.Abs
open Go.RowKit Go.Proofs
set_option maxRecDepth 100000

theorem opv_eq2 {P : Program} {c : Ctx} {st : AS} {t yt ty : TypeId} {k0 k1 : IntKind} {a b a' b' : Int} {x y : Operand} (he : ∀ (w : World) (a b c d : Int), (Op.equalIn 10000 t (.agg #[.int k0 a, .int k1 b]) (.agg #[.int k0 c, .int k1 d])).run P w = .ok (a == c && b == d) w) (hm : P.eqGuardType P.depth t = false)
    (hx : opnd st x = .s (.agg [.i k0 a, .i k1 b])) (hy : opnd st y = .s (.agg [.i k0 a', .i k1 b'])) : OpV P c st (.binOp .eql t x y yt) ty (.s (.one (.b (a == a' && b == b')))) := by
  intro ac w S H r
  have h1 := opnd_rel r x
  rw [hx] at h1
  have h2 := opnd_rel r y
  rw [hy] at h2
  have two : ∀ {p q : Int} {v : Value}, SVR (GRep w S st.m H) (.agg [.i k0 p, .i k1 q]) v → v = .agg #[.int k0 p, .int k1 q] := by
    intro p q v h
    obtain ⟨⟨l⟩, rfl, hl, hr⟩ := h
    match l, hl, hr with
    | [u, v], _, hr =>
      have e1 : u = .int k0 p := rep_i (w := w) (S := S) (hr 0 (.i k0 p) u rfl rfl)
      have e2 : v = .int k1 q := rep_i (w := w) (S := S) (hr 1 (.i k1 q) v rfl rfl)
      rw [e1, e2]
  have e1 := two h1
  have e2 := two h2
  refine ⟨.bool (a == a' && b == b'), avr_rep (.b _), fun _ _ _ _ => ?_⟩
  simp only [execOp, e1, e2, Sem.run_bind, run_eqGuard_agg w _ _ _ _ _ _ hm, Result.andThen_ok, run_eql_struct, he, Sem.run_pure]

theorem eq24 (a b c d : Int) (w : World) : (Op.equalIn 10000 24 (.agg #[.int .i64 a, .int .u64 b]) (.agg #[.int .i64 c, .int .u64 d])).run Try.prog w = .ok (a == c && b == d) w := by
  have u3 := Try.underlying3
  have a3 := Try.isAgg3
  have z3 := Try.sizeOf3
  have u22 := Try.underlying22
  have a22 := Try.isAgg22
  have z22 := Try.sizeOf22
  have hS : Try.prog.underlying 24 = some (.struct (Try.prog.fieldsOf 24)) := by kernel_rfl
  rw [show (10000 : Nat) = 9999 + 1 from rfl, run_equalIn_agg w 9999 24 _ _ hS (by kernel_rfl)]
  simp only [Program.fieldsOf, Try.underlying24]
  go_simp
  by_cases h1 : a = c <;> by_cases h2 : b = d <;> simp [h1, h2]

theorem quo2 (u : BitVec 64) : (u.toNat : Int).tdiv 2 = ((u >>> 1).toNat : Int) := by
  rw [BitVec.toNat_ushiftRight, Nat.shiftRight_eq_div_pow, Int.tdiv_eq_ediv_of_nonneg (Int.natCast_nonneg _)]
  rfl
theorem rem2 (u : BitVec 64) : decide ((u.toNat : Int).tmod 2 = 1) = u.getLsbD 0 := by
  rw [Int.tmod_eq_emod_of_nonneg (Int.natCast_nonneg _), BitVec.getLsbD, Nat.testBit_zero]
  congr 1
  apply propext
  omega
theorem sane_ref {b : Int} {u : BitVec 64} (h1 : 0 ≤ b ∧ b ≤ 4294967296) (h2 : u.getLsbD 0 = false) : saneM b u = true ↔ ∀ k : Nat, k < 64 → u.getLsbD k = true → b + (k : Int) < 4294967296 := by
  rw [saneM_iff]
  constructor
  · intro h k hk hb
    apply Classical.byContradiction
    intro hn
    have : (u >>> (4294967296 - b).toNat).getLsbD (k - (4294967296 - b).toNat) = false := by rw [h.2.2.2]; simp
    rw [BitVec.getLsbD_ushiftRight, show (4294967296 - b).toNat + (k - (4294967296 - b).toNat) = k by omega, hb] at this
    cases this
  · intro h
    refine ⟨h1.1, h1.2, h2, ?_⟩
    apply BitVec.eq_of_getLsbD_eq
    intro i hi
    rw [BitVec.getLsbD_ushiftRight]
    cases hh : u.getLsbD ((4294967296 - b).toNat + i) with
    | false => simp
    | true =>
      have hlt : (4294967296 - b).toNat + i < 64 := by
        apply Classical.byContradiction
        intro hn
        rw [BitVec.getLsbD_of_ge _ _ (by omega)] at hh
        cases hh
      have := h _ hlt hh
      omega
theorem add_or (u : BitVec 64) {n : Nat} (hn : n < 64) (h : u.getLsbD n = false) : u + (1#64 <<< n) = u ||| (1#64 <<< n) := by
  apply BitVec.add_eq_or_of_and_eq_zero
  apply BitVec.eq_of_getLsbD_eq
  intro i hi
  rw [BitVec.getLsbD_and, BitVec.getLsbD_shiftLeft, BitVec.getLsbD_one]
  by_cases e : i = n
  · subst e; rw [h]; simp
  · by_cases h1 : i < n
    · simp [h1]
    · have : ¬ i - n = 0 := by omega
      simp [this]

theorem wrap_u64 {x : Int} (h1 : 0 ≤ x) (h2 : x ≤ 18446744073709551615) : IntKind.u64.wrap x = x := wrap_un rfl h1 (by show x < 18446744073709551616; omega)
theorem opv_quo2 {P : Program} {c : Ctx} {st : AS} {u : BitVec 64} {x y : Operand} {xt yt ty : TypeId} (hx : opnd st x = .s (.one (.i .u64 (u.toNat : Int)))) (hy : opnd st y = .s (.one (.i .u64 2))) : OpV P c st (.binOp .quo xt x y yt) ty (.s (.one (.i .u64 ((u >>> 1).toNat : Int)))) := by
  have h := opv_quo (P := P) (c := c) (xt := xt) (yt := yt) (ty := ty) hx hy (by decide) (by rw [quo2]; exact wrap_bv (k := .u64) rfl (u >>> 1))
  rwa [quo2] at h
theorem opv_rem2 {P : Program} {c : Ctx} {st : AS} {u : BitVec 64} {x y : Operand} {xt yt ty : TypeId} (hx : opnd st x = .s (.one (.i .u64 (u.toNat : Int)))) (hy : opnd st y = .s (.one (.i .u64 2))) : OpV P c st (.binOp .rem xt x y yt) ty (.s (.one (.i .u64 ((u.toNat : Int).tmod 2)))) :=
  opv_rem hx hy (by decide)
theorem shl_mul2 (j : Nat) : (1#64 <<< j) * 2#64 = 1#64 <<< (j + 1) := by
  apply BitVec.eq_of_toNat_eq
  have e : (2 : Nat) ^ (j + 1) = 2 ^ j * 2 := Nat.pow_succ ..
  rw [BitVec.toNat_mul, BitVec.toNat_shiftLeft, BitVec.toNat_shiftLeft, Nat.shiftLeft_eq, Nat.shiftLeft_eq, e]
  show 1 * 2 ^ j % 18446744073709551616 * 2 % 18446744073709551616 = 1 * (2 ^ j * 2) % 18446744073709551616
  omega
theorem sane_no1 {b : Int} {u : BitVec 64} (h : ¬ (0 ≤ b ∧ b ≤ 4294967296)) : saneM b u = false := by
  cases hh : saneM b u with
  | false => rfl
  | true => have := (saneM_iff b u).1 hh; exact absurd ⟨this.1, this.2.1⟩ h
theorem sane_no2 {b : Int} {u : BitVec 64} (h : u.getLsbD 0 = true) : saneM b u = false := by
  cases hh : saneM b u with
  | false => rfl
  | true => have := ((saneM_iff b u).1 hh).2.2.1; rw [h] at this; cases this
theorem sane_no3 {b : Int} {u : BitVec 64} {k : Nat} (hk : k < 64) (h : u.getLsbD k = true) (h1 : 4294967296 ≤ b + (k : Int)) : saneM b u = false := by
  cases hh : saneM b u with
  | false => rfl
  | true =>
    have g := (saneM_iff b u).1 hh
    have := (sane_ref ⟨g.1, g.2.1⟩ g.2.2.1).1 hh k hk h
    omega
theorem take_one {b : Int} {u : BitVec 64} {m : Nat} {k : Nat} (h : ((unseenM b u k).take m).length < m) (hc : b + (k : Int) ≤ 4294967295 ∧ u.getLsbD k = false) : (unseenM b u (k + 1)).take m = (unseenM b u k).take m ++ [b + (k : Int)] := by
  have hl : (unseenM b u k).length < m := by rw [List.length_take] at h; omega
  rw [unseenM, if_pos hc, List.take_of_length_le (by simp; omega), List.take_of_length_le (by omega)]
theorem take_same {b : Int} {u : BitVec 64} {m : Nat} {k : Nat} (h : m ≤ ((unseenM b u k).take m).length ∨ ¬ (b + (k : Int) ≤ 4294967295 ∧ u.getLsbD k = false)) : (unseenM b u (k + 1)).take m = (unseenM b u k).take m := by
  by_cases hc : b + (k : Int) ≤ 4294967295 ∧ u.getLsbD k = false
  · rcases h with h | h
    · rw [unseenM, if_pos hc, List.take_append_of_le_length (by rw [List.length_take] at h; omega)]
    · exact absurd hc h
  · rw [unseenM, if_neg hc, List.append_nil]

theorem seen_no1 {b : Int} {u : BitVec 64} {s : Int} (h : saneM b u = false) : seenM b u s = false := by unfold seenM; rw [h]; rfl
theorem seen_no2 {b : Int} {u : BitVec 64} {s : Int} (h : ¬ (0 ≤ s ∧ s ≤ 4294967295)) : seenM b u s = false := by
  have : saneSeqM s = false := by
    cases hh : saneSeqM s with
    | false => rfl
    | true => exact absurd ((saneSeqM_iff s).1 hh) h
  unfold seenM; rw [this]; simp
theorem seen_lt {b : Int} {u : BitVec 64} {s : Int} (h1 : saneM b u = true) (h : 0 ≤ s ∧ s ≤ 4294967295) (h2 : s < b) : seenM b u s = true := by
  unfold seenM; rw [h1, (saneSeqM_iff s).2 h, decide_eq_true h2]; rfl
theorem seen_bit {b : Int} {u : BitVec 64} {s : Int} (h1 : saneM b u = true) (h : 0 ≤ s ∧ s ≤ 4294967295) (h2 : ¬ s < b) (h3 : s - b < 64) : seenM b u s = u.getLsbD (s - b).toNat := by
  unfold seenM; rw [h1, (saneSeqM_iff s).2 h, decide_eq_false h2, decide_eq_true h3]; rfl
theorem seen_far {b : Int} {u : BitVec 64} {s : Int} (h1 : saneM b u = true) (h : 0 ≤ s ∧ s ≤ 4294967295) (h2 : ¬ s < b) (h3 : ¬ s - b < 64) : seenM b u s = false := by
  unfold seenM; rw [h1, (saneSeqM_iff s).2 h, decide_eq_false h2, decide_eq_false h3]; rfl
theorem full_eq {b : Int} {u : BitVec 64} (h : saneM b u = true) : fullM b u = decide (b = 4294967296) := by
  have := (saneM_iff b u).1 h
  unfold fullM
  rw [h, Bool.true_and, decide_eq_decide]
  omega
theorem full_no {b : Int} {u : BitVec 64} (h : saneM b u = false) : fullM b u = false := by unfold fullM; rw [h]; rfl

theorem ref_end1 {b : Int} {u : BitVec 64} {most : Int} {i : Nat} (hp : 0 < i → saneM b u = true) (h : saneM b u = false) : missM b u most = (unseenM b u i).take most.toNat := by
  have : i = 0 := by
    apply Classical.byContradiction
    intro hn
    have := hp (by omega)
    rw [h] at this
    cases this
  subst this
  unfold missM
  rw [if_neg (by rw [h]; simp)]
  exact List.take_nil.symm
theorem ref_end2 {b : Int} {u : BitVec 64} {most : Int} {i : Nat} (h : i = 64) (hp : 0 < i → saneM b u = true) : missM b u most = (unseenM b u i).take most.toNat := by
  unfold missM
  rw [if_pos (hp (by omega)), h]

theorem sane_seq_no {s : Int} (h : ¬ (0 ≤ s ∧ s ≤ 4294967295)) : saneSeqM s = false := by
  cases hh : saneSeqM s with
  | false => rfl
  | true => exact absurd ((saneSeqM_iff s).1 hh) h
theorem miss_len (b : Int) (u : BitVec 64) (most : Int) : (missM b u most).length ≤ 64 := by
  have := unseen_len b u 64
  unfold missM
  split
  · rw [List.length_take]; omega
  · exact Nat.zero_le _

theorem fits_i64 {ls : List Lf} (h : Fits (.int .i64) ls) : ∃ n : Int, (-9223372036854775808 ≤ n ∧ n ≤ 9223372036854775807) ∧ ls = [.i .i64 n] := by
  obtain ⟨n, hn, rfl⟩ := h
  exact ⟨n, lit_i64 hn, rfl⟩
theorem fits_win {ls : List Lf} (h : Fits (.st (.pair (.int .i64) (.pair (.int .u64) .unit))) ls) : ∃ (b : Int) (u : BitVec 64), (-9223372036854775808 ≤ b ∧ b ≤ 9223372036854775807) ∧ ls = [.i .i64 b, .i .u64 (u.toNat : Int)] := by
  obtain ⟨x, y, ⟨b, hb, h1⟩, ⟨z, v, ⟨n, hn, h2⟩, h3, h4⟩, h5⟩ := h
  subst h1 h2 h4 h5
  have h3 : v = [] := h3
  subst h3
  have hn' : 0 ≤ n ∧ n ≤ 18446744073709551615 := by simpa [Lit.wf, IntKind.min, IntKind.max, IntKind.bits, IntKind.signed] using hn
  refine ⟨b, BitVec.ofNat 64 n.toNat, lit_i64 hb, ?_⟩
  have e : ((BitVec.ofNat 64 n.toNat).toNat : Int) = n := by
    rw [BitVec.toNat_ofNat]
    have : n.toNat % 18446744073709551616 = n.toNat := Nat.mod_eq_of_lt (by omega)
    show ((n.toNat % 18446744073709551616 : Nat) : Int) = n
    rw [this]
    omega
  rw [e]
  rfl
end Go.Proofs.Ytaffjoloefhodaa.Abs
