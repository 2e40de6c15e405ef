/-
  A walk over abstract states: its rules, part C.
-/
import Derived.Test.YtaffjoloefhodaaAbsB
import Derived.ProofKit
import Derived.Laws.Externs
import Derived.Lib.BytesEntry
/-
  Arithmetic that stays in range, digits of unsigned integers, strings' comparison.
-/
namespace Go.Proofs.Ytaffjoloefhodaa.Abs
open Go.RowKit

theorem wrap_i64 {x : Int} (h1 : -9223372036854775808 ≤ x) (h2 : x ≤ 9223372036854775807) : IntKind.i64.wrap x = x := by
  show (if (true && decide (x % 18446744073709551616 ≥ 9223372036854775808)) = true then x % 18446744073709551616 - 18446744073709551616 else x % 18446744073709551616) = x
  simp only [Bool.true_and, ge_iff_le, decide_eq_true_eq]
  by_cases h : 0 ≤ x
  · rw [if_neg (by omega)]; omega
  · rw [if_pos (by omega)]; omega

theorem wrap_un {k : IntKind} (hs : k.signed = false) {x : Int} (h1 : 0 ≤ x) (h2 : x < 2 ^ k.bits) : k.wrap x = x := by
  unfold IntKind.wrap
  simp only [hs, Bool.false_and, Bool.false_eq_true, if_false]
  exact Int.emod_eq_of_lt h1 h2

theorem wrap_bv {k : IntKind} (hs : k.signed = false) (a : BitVec k.bits) : k.wrap (a.toNat : Int) = (a.toNat : Int) :=
  wrap_un hs (Int.natCast_nonneg _) (by have := a.isLt; exact_mod_cast this)

theorem ofInt_bv {n : Nat} (a : BitVec n) : BitVec.ofInt n (a.toNat : Int) = a := by
  rw [BitVec.ofInt_natCast]
  simp

section
variable {P : Program} {c : Ctx} {st : AS} {k k2 : IntKind} {n m : Int} {x y : Operand} {xt yt ty : TypeId}

theorem opv_add_ok (hx : opnd st x = .s (.one (.i k n))) (hy : opnd st y = .s (.one (.i k m))) (h : k.wrap (n + m) = n + m) : OpV P c st (.binOp .add xt x y yt) ty (.s (.one (.i k (n + m)))) := by
  have := opv_add (P := P) (c := c) (xt := xt) (yt := yt) (ty := ty) hx hy
  rwa [h] at this
theorem opv_sub_ok (hx : opnd st x = .s (.one (.i k n))) (hy : opnd st y = .s (.one (.i k m))) (h : k.wrap (n - m) = n - m) : OpV P c st (.binOp .sub xt x y yt) ty (.s (.one (.i k (n - m)))) := by
  have := opv_sub (P := P) (c := c) (xt := xt) (yt := yt) (ty := ty) hx hy
  rwa [h] at this
theorem opv_mul_ok (hx : opnd st x = .s (.one (.i k n))) (hy : opnd st y = .s (.one (.i k m))) (h : k.wrap (n * m) = n * m) : OpV P c st (.binOp .mul xt x y yt) ty (.s (.one (.i k (n * m)))) := by
  have := opv_mul (P := P) (c := c) (xt := xt) (yt := yt) (ty := ty) hx hy
  rwa [h] at this

/-- A shift to the left. -/
theorem opv_shl (hx : opnd st x = .s (.one (.i k n))) (hy : opnd st y = .s (.one (.i k2 m))) (h0 : 0 ≤ m) : OpV P c st (.binOp .shl xt x y yt) ty (.s (.one (.i k (k.wrap (n * 2 ^ (min m.toNat k.bits)))))) :=
  opv_bin (u := .int k n) (u' := .int k2 m) (z := .int k (k.wrap (n * 2 ^ (min m.toNat k.bits)))) hx hy rfl rfl (fun w => by
    simp [eqGuard, binOp, Op.shift, show ¬ m < 0 by omega]) rfl rfl
theorem opv_shr (hx : opnd st x = .s (.one (.i k n))) (hy : opnd st y = .s (.one (.i k2 m))) (h0 : 0 ≤ m) : OpV P c st (.binOp .shr xt x y yt) ty (.s (.one (.i k (n.fdiv (2 ^ (min m.toNat k.bits)))))) :=
  opv_bin (u := .int k n) (u' := .int k2 m) (z := .int k (n.fdiv (2 ^ (min m.toNat k.bits)))) hx hy rfl rfl (fun w => by
    simp [eqGuard, binOp, Op.shift, show ¬ m < 0 by omega]) rfl rfl
theorem opv_and (hx : opnd st x = .s (.one (.i k n))) (hy : opnd st y = .s (.one (.i k m))) : OpV P c st (.binOp .and xt x y yt) ty (.s (.one (.i k (k.wrap ((BitVec.ofInt k.bits n &&& BitVec.ofInt k.bits m).toNat : Int))))) :=
  opv_bin (u := .int k n) (u' := .int k m) (z := .int k (k.wrap ((BitVec.ofInt k.bits n &&& BitVec.ofInt k.bits m).toNat : Int))) hx hy rfl rfl (fun w => by
    simp [eqGuard, binOp, Op.intBits]) rfl rfl
theorem opv_or (hx : opnd st x = .s (.one (.i k n))) (hy : opnd st y = .s (.one (.i k m))) : OpV P c st (.binOp .or xt x y yt) ty (.s (.one (.i k (k.wrap ((BitVec.ofInt k.bits n ||| BitVec.ofInt k.bits m).toNat : Int))))) :=
  opv_bin (u := .int k n) (u' := .int k m) (z := .int k (k.wrap ((BitVec.ofInt k.bits n ||| BitVec.ofInt k.bits m).toNat : Int))) hx hy rfl rfl (fun w => by
    simp [eqGuard, binOp, Op.intBits]) rfl rfl
theorem opv_xor (hx : opnd st x = .s (.one (.i k n))) (hy : opnd st y = .s (.one (.i k m))) : OpV P c st (.binOp .xor xt x y yt) ty (.s (.one (.i k (k.wrap ((BitVec.ofInt k.bits n ^^^ BitVec.ofInt k.bits m).toNat : Int))))) :=
  opv_bin (u := .int k n) (u' := .int k m) (z := .int k (k.wrap ((BitVec.ofInt k.bits n ^^^ BitVec.ofInt k.bits m).toNat : Int))) hx hy rfl rfl (fun w => by
    simp [eqGuard, binOp, Op.intBits]) rfl rfl

theorem opv_quo (hx : opnd st x = .s (.one (.i k n))) (hy : opnd st y = .s (.one (.i k m))) (h0 : m ≠ 0) (h : k.wrap (n.tdiv m) = n.tdiv m) : OpV P c st (.binOp .quo xt x y yt) ty (.s (.one (.i k (n.tdiv m)))) :=
  opv_bin (u := .int k n) (u' := .int k m) (z := .int k (n.tdiv m)) hx hy rfl rfl (fun w => by
    simp [eqGuard, binOp, Op.intDiv, h0, h]) rfl rfl
theorem opv_rem (hx : opnd st x = .s (.one (.i k n))) (hy : opnd st y = .s (.one (.i k m))) (h0 : m ≠ 0) : OpV P c st (.binOp .rem xt x y yt) ty (.s (.one (.i k (n.tmod m)))) :=
  opv_bin (u := .int k n) (u' := .int k m) (z := .int k (n.tmod m)) hx hy rfl rfl (fun w => by
    simp [eqGuard, binOp, Op.intDiv, h0]) rfl rfl

/- Unsigned integers as rows of digits. -/
section un
variable {a b : BitVec k.bits}

theorem opv_and_u (hs : k.signed = false) (hx : opnd st x = .s (.one (.i k n))) (hn : n = (a.toNat : Int)) (hy : opnd st y = .s (.one (.i k m))) (hm : m = (b.toNat : Int)) : OpV P c st (.binOp .and xt x y yt) ty (.s (.one (.i k ((a &&& b).toNat : Int)))) := by
  have := opv_and (P := P) (c := c) (xt := xt) (yt := yt) (ty := ty) hx hy
  rwa [hn, hm, ofInt_bv, ofInt_bv, wrap_bv hs] at this
theorem opv_or_u (hs : k.signed = false) (hx : opnd st x = .s (.one (.i k n))) (hn : n = (a.toNat : Int)) (hy : opnd st y = .s (.one (.i k m))) (hm : m = (b.toNat : Int)) : OpV P c st (.binOp .or xt x y yt) ty (.s (.one (.i k ((a ||| b).toNat : Int)))) := by
  have := opv_or (P := P) (c := c) (xt := xt) (yt := yt) (ty := ty) hx hy
  rwa [hn, hm, ofInt_bv, ofInt_bv, wrap_bv hs] at this
theorem opv_xor_u (hs : k.signed = false) (hx : opnd st x = .s (.one (.i k n))) (hn : n = (a.toNat : Int)) (hy : opnd st y = .s (.one (.i k m))) (hm : m = (b.toNat : Int)) : OpV P c st (.binOp .xor xt x y yt) ty (.s (.one (.i k ((a ^^^ b).toNat : Int)))) := by
  have := opv_xor (P := P) (c := c) (xt := xt) (yt := yt) (ty := ty) hx hy
  rwa [hn, hm, ofInt_bv, ofInt_bv, wrap_bv hs] at this

theorem wrap_mod (hs : k.signed = false) (x : Int) : k.wrap x = x % (2 ^ k.bits) := by
  unfold IntKind.wrap
  simp only [hs, Bool.false_and, Bool.false_eq_true, if_false]

theorem opv_add_u (hs : k.signed = false) (hx : opnd st x = .s (.one (.i k n))) (hn : n = (a.toNat : Int)) (hy : opnd st y = .s (.one (.i k m))) (hm : m = (b.toNat : Int)) : OpV P c st (.binOp .add xt x y yt) ty (.s (.one (.i k ((a + b).toNat : Int)))) := by
  have := opv_add (P := P) (c := c) (xt := xt) (yt := yt) (ty := ty) hx hy
  have e : k.wrap ((a.toNat : Int) + (b.toNat : Int)) = ((a + b).toNat : Int) := by
    rw [wrap_mod hs, BitVec.toNat_add]; push_cast; rfl
  rwa [hn, hm, e] at this
theorem opv_mul_u (hs : k.signed = false) (hx : opnd st x = .s (.one (.i k n))) (hn : n = (a.toNat : Int)) (hy : opnd st y = .s (.one (.i k m))) (hm : m = (b.toNat : Int)) : OpV P c st (.binOp .mul xt x y yt) ty (.s (.one (.i k ((a * b).toNat : Int)))) := by
  have := opv_mul (P := P) (c := c) (xt := xt) (yt := yt) (ty := ty) hx hy
  have e : k.wrap ((a.toNat : Int) * (b.toNat : Int)) = ((a * b).toNat : Int) := by
    rw [wrap_mod hs, BitVec.toNat_mul]; push_cast; rfl
  rwa [hn, hm, e] at this

theorem opv_shr_u (hx : opnd st x = .s (.one (.i k n))) (hn : n = (a.toNat : Int)) (hy : opnd st y = .s (.one (.i k2 m))) (h0 : 0 ≤ m) : OpV P c st (.binOp .shr xt x y yt) ty (.s (.one (.i k ((a >>> m.toNat).toNat : Int)))) := by
  have := opv_shr (P := P) (c := c) (xt := xt) (yt := yt) (ty := ty) hx hy h0
  have e : (a.toNat : Int).fdiv (2 ^ (min m.toNat k.bits)) = ((a >>> m.toNat).toNat : Int) := by
    rw [BitVec.toNat_ushiftRight, Nat.shiftRight_eq_div_pow, Int.fdiv_eq_ediv_of_nonneg _ (Int.pow_nonneg (by decide))]
    have h2 : ((2 : Int) ^ (min m.toNat k.bits)) = ((2 ^ (min m.toNat k.bits) : Nat) : Int) := by push_cast; rfl
    rw [h2, ← Int.natCast_ediv]
    congr 1
    by_cases hle : m.toNat ≤ k.bits
    · rw [Nat.min_eq_left hle]
    · have hge : k.bits ≤ m.toNat := by omega
      rw [Nat.min_eq_right hge, Nat.div_eq_of_lt a.isLt, Nat.div_eq_of_lt (Nat.lt_of_lt_of_le a.isLt (Nat.pow_le_pow_right (by decide) hge))]
  rwa [hn, e] at this
theorem opv_shl_u (hs : k.signed = false) (hx : opnd st x = .s (.one (.i k n))) (hn : n = (a.toNat : Int)) (hy : opnd st y = .s (.one (.i k2 m))) (h0 : 0 ≤ m) : OpV P c st (.binOp .shl xt x y yt) ty (.s (.one (.i k ((a <<< m.toNat).toNat : Int)))) := by
  have := opv_shl (P := P) (c := c) (xt := xt) (yt := yt) (ty := ty) hx hy h0
  have e : k.wrap ((a.toNat : Int) * (2 ^ (min m.toNat k.bits))) = ((a <<< m.toNat).toNat : Int) := by
    rw [wrap_mod hs, BitVec.toNat_shiftLeft, Nat.shiftLeft_eq]
    have h2 : ((a.toNat : Int) * (2 : Int) ^ (min m.toNat k.bits)) % 2 ^ k.bits = ((a.toNat * 2 ^ (min m.toNat k.bits) % 2 ^ k.bits : Nat) : Int) := by push_cast; rfl
    rw [h2]
    congr 1
    by_cases hle : m.toNat ≤ k.bits
    · rw [Nat.min_eq_left hle]
    · have hge : k.bits ≤ m.toNat := by omega
      rw [Nat.min_eq_right hge, Nat.mul_mod_left]
      symm
      obtain ⟨d, hd⟩ := Nat.exists_eq_add_of_le hge
      rw [hd, Nat.pow_add, Nat.mul_comm (2 ^ k.bits), ← Nat.mul_assoc, Nat.mul_mod_left]
  rwa [hn, e] at this
end un

/-- An integer turned into another kind, where it fits. -/
theorem opv_conv_ok {src dst : TypeId} {kd : IntKind} (us : P.underlying src = some (.int k)) (ud : P.underlying dst = some (.int kd)) (hx : opnd st x = .s (.one (.i k n))) (h : kd.wrap n = n) : OpV P c st (.convert src dst x) ty (.s (.one (.i kd n))) := by
  have := opv_conv_int (P := P) (c := c) (ty := ty) us ud hx
  rwa [h] at this

theorem opv_seql {xt yt : TypeId} {p q : ByteArray} (hx : opnd st x = .s (.one (.s p))) (hy : opnd st y = .s (.one (.s q))) : OpV P c st (.binOp .eql xt x y yt) ty (.s (.one (.b (p.toList == q.toList)))) :=
  opv_bin (u := .string p) (u' := .string q) (z := .bool (p.toList == q.toList)) hx hy rfl rfl (fun w => by
    simp [eqGuard, binOp, Op.stringOp]) rfl rfl
theorem opv_sneq {xt yt : TypeId} {p q : ByteArray} (hx : opnd st x = .s (.one (.s p))) (hy : opnd st y = .s (.one (.s q))) : OpV P c st (.binOp .neq xt x y yt) ty (.s (.one (.b (!(p.toList == q.toList))))) :=
  opv_bin (u := .string p) (u' := .string q) (z := .bool (!(p.toList == q.toList))) hx hy rfl rfl (fun w => by
    simp [eqGuard, binOp, Op.stringOp]) rfl rfl

end
end Go.Proofs.Ytaffjoloefhodaa.Abs

/-
  The frame: what a row asks of a law, out of a contract of the law's function.
-/
namespace Go.Proofs.Ytaffjoloefhodaa.Abs
open Go.RowKit

/-- A law's argument's type: integers, truth values, strings, slices, structs (a row of parts). -/
inductive Sh where
  | int (k : IntKind)
  | bool
  | str
  | sl (e : Sh)
  | st (r : Sh)
  | unit
  | pair (a r : Sh)

def Sh.cells : Sh → Nat
  | .st r => r.cells
  | .unit => 0
  | .pair a r => a.cells + r.cells
  | _ => 1

/-- What leaves such an argument may be. -/
def Fits : Sh → List Lf → Prop
  | .int k, ls => ∃ n, (Lit.int k n).wf = true ∧ ls = [.i k n]
  | .bool, ls => ∃ b, ls = [.b b]
  | .str, ls => ∃ s : ByteArray, s.size ≤ maxLen ∧ ls = [.s s]
  | .sl e, ls => ∃ rows : List (List Lf), rows.length ≤ maxLen ∧ (∀ r ∈ rows, Fits e r) ∧ ls = [.sl rows.length rows.flatten]
  | .st r, ls => Fits r ls
  | .unit, ls => ls = []
  | .pair a r, ls => ∃ x y, Fits a x ∧ Fits r y ∧ ls = x ++ y

/-- Is a type of that make? (mode: a type, or fields from an offset on) -/
def okT (P : Program) : Sh → TypeId ⊕ (List Field × Nat) → Bool
  | .int k, .inl t => match P.underlying t with | some (.int k') => k' == k | _ => false
  | .bool, .inl t => match P.underlying t with | some .bool => true | _ => false
  | .str, .inl t => match P.underlying t with | some .string => true | _ => false
  | .sl e, .inl t => match P.underlying t with | some (.slice t') => okT P e (.inl t') && (P.cellsOf t' == e.cells && decide (0 < e.cells)) | _ => false
  | .st r, .inl t => match P.underlying t with | some (.struct fs) => okT P r (.inr (fs.toList, 0)) && P.cellsOf t == r.cells | _ => false
  | .unit, .inr ([], _) => true
  | .pair a r, .inr (f :: fs, off) => f.offset == off && (P.cellsOf f.type == a.cells && (okT P a (.inl f.type) && okT P r (.inr (fs, off + a.cells))))
  | _, _ => false

theorem mapM_range {α : Type} {f : Nat → Option α} : ∀ {n : Nat} {ys : List α}, (List.range n).mapM f = some ys → ys.length = n ∧ ∀ i, i < n → f i = ys[i]? := by
  intro n
  induction n with
  | zero => intro ys h; simp at h; subst h; exact ⟨rfl, fun i hi => absurd hi (Nat.not_lt_zero i)⟩
  | succ n ih =>
    intro ys h
    rw [List.range_succ, List.mapM_append] at h
    simp only [List.mapM_cons, List.mapM_nil, Option.pure_def, Option.bind_eq_bind] at h
    cases h1 : (List.range n).mapM f with
    | none => rw [h1] at h; simp at h
    | some xs =>
      rw [h1] at h
      cases h2 : f n with
      | none => rw [h2] at h; simp at h
      | some y =>
        rw [h2] at h
        simp at h
        subst h
        obtain ⟨hl, hi⟩ := ih h1
        refine ⟨by simp [hl], fun i hlt => ?_⟩
        by_cases hin : i < n
        · rw [hi i hin, List.getElem?_append_left (by omega)]
        · have : i = n := by omega
          subst this
          rw [h2, List.getElem?_append_right (by omega), hl]; simp

/-- All that there is stays. -/
def allS (w : World) : Stab := fun b _ => b < w.heap.size
theorem allS_in (w : World) : InH w (allS w) := fun _ _ h => h

theorem cell_lt {w : World} {a : Addr} {v : Value} (h : w.cell? a = some v) : a.block < w.heap.size ∧ a.spot = none := by
  unfold World.cell? at h
  split at h
  · rename_i c e f hb
    refine ⟨(Array.getElem?_eq_some_iff.1 hb).1, ?_⟩
    cases hs : a.spot with
    | none => rfl
    | some x => rw [hs] at h; simp at h
  · cases h

section
variable {H : Type} {enc : TypeId × Value → H} {P : Program} {w : World} {spare : Nat → Bool} {held : Bool} {base : Nat}

theorem cells_get {a : Addr} {n : Nat} {ys : List Value} (h : w.cells? base a n = some ys) : ys.length = n ∧ ∀ i, i < n → w.cell? (a.add i) = ys[i]? := by
  unfold World.cells? at h
  split at h
  · exact mapM_range h
  · cases h

/-- A row of leaves in the memory. -/
theorem rows_built {bk off sz : Nat} {Q : List Lf → Prop} : ∀ (n : Nat), (∀ i, i < n → ∃ r : List Lf, Q r ∧ r.length = sz ∧ ∀ j l, r[j]? = some l → ∃ v, w.cell? ⟨bk, off + (i * sz + j), none⟩ = some v ∧ Rep w (allS w) l v) →
    ∃ rows : List (List Lf), rows.length = n ∧ (∀ r ∈ rows, Q r) ∧ rows.flatten.length = n * sz ∧ ∀ j l, rows.flatten[j]? = some l → ∃ v, w.cell? ⟨bk, off + j, none⟩ = some v ∧ Rep w (allS w) l v
  | 0, _ => ⟨[], rfl, fun r h => by simp at h, by simp, fun j l h => by simp at h⟩
  | n + 1, h => by
    obtain ⟨rows, h1, h2, h3, h4⟩ := rows_built n (fun i hi => h i (Nat.lt_succ_of_lt hi))
    obtain ⟨r, q1, q2, q3⟩ := h n (Nat.lt_succ_self n)
    refine ⟨rows ++ [r], by simp [h1], fun x hx => ?_, ?_, fun j l hj => ?_⟩
    · rcases List.mem_append.1 hx with hx | hx
      · exact h2 x hx
      · simp at hx; subst hx; exact q1
    · rw [List.flatten_append, List.length_append, h3]; simp [q2, Nat.succ_mul]
    · rw [List.flatten_append] at hj
      by_cases hlt : j < n * sz
      · rw [List.getElem?_append_left (by omega)] at hj
        exact h4 j l hj
      · rw [List.getElem?_append_right (by omega), h3] at hj
        simp at hj
        obtain ⟨v, e1, e2⟩ := q3 (j - n * sz) l hj
        exact ⟨v, by rw [← e1]; congr 2; omega, e2⟩

theorem opened (sh : Sh) :
    (∀ (t : TypeId) (fuel : Nat) (cs : List Value) (x : DataW H × List MemPlace), okT P sh (.inl t) = true → DataW.trod enc P w base spare held fuel t cs = some x →
      ∃ ls, Fits sh ls ∧ ls.length = sh.cells ∧ LsR (Rep w (allS w)) ls cs) ∧
    (∀ (fs : List Field) (off fuel : Nat) (cs : List Value), okT P sh (.inr (fs, off)) = true → off + sh.cells = cs.length →
      (∀ f ∈ fs, ∃ x, DataW.trod enc P w base spare held fuel f.type ((cs.drop f.offset).take (P.cellsOf f.type)) = some x) →
      ∃ ls, Fits sh ls ∧ ls.length = sh.cells ∧ LsR (Rep w (allS w)) ls (cs.drop off)) := by
  have lsone : ∀ {l : Lf} {v : Value}, Rep w (allS w) l v → LsR (Rep w (allS w)) [l] [v] := fun {l v} h => ⟨rfl, fun j a b h1 h2 => by
    cases j with
    | zero => simp at h1 h2; subst h1; subst h2; exact h
    | succ j => simp at h1⟩
  induction sh with
  | int k =>
    refine ⟨fun t fuel cs x ht h => ?_, fun fs off fuel cs ht => by simp [okT] at ht⟩
    simp only [okT] at ht
    split at ht
    · rename_i k' hu
      have hk : k' = k := by simpa using ht
      subst hk
      obtain ⟨n, hcs, hx, hw⟩ := DataW.trod_int hu h
      subst hcs
      exact ⟨_, ⟨n, hw, rfl⟩, rfl, lsone (.i _ _)⟩
    · cases ht
  | bool =>
    refine ⟨fun t fuel cs x ht h => ?_, fun fs off fuel cs ht => by simp [okT] at ht⟩
    simp only [okT] at ht
    split at ht
    · rename_i hu
      obtain ⟨b, hcs, _⟩ := DataW.trod_bool hu h
      subst hcs
      exact ⟨_, ⟨b, rfl⟩, rfl, lsone (.b _)⟩
    · cases ht
  | str =>
    refine ⟨fun t fuel cs x ht h => ?_, fun fs off fuel cs ht => by simp [okT] at ht⟩
    simp only [okT] at ht
    split at ht
    · rename_i hu
      obtain ⟨b, hcs, _, hs⟩ := DataW.trod_string hu h
      subst hcs
      exact ⟨_, ⟨b, hs, rfl⟩, rfl, lsone (.s _)⟩
    · cases ht
  | sl e ih =>
    refine ⟨fun t fuel cs x ht h => ?_, fun fs off fuel cs ht => by simp [okT] at ht⟩
    simp only [okT] at ht
    split at ht
    · rename_i t' hu
      simp only [Bool.and_eq_true, beq_iff_eq, decide_eq_true_eq] at ht
      obtain ⟨hok, hcell, hpos⟩ := ht
      rcases DataW.trod_slice hu h with ⟨hcs, _⟩ | ⟨a, len, cap, elems, rest, fuel, rfl, hcs, _, _, hlc, hcm, hl, hi, _⟩
      · subst hcs
        exact ⟨[.sl 0 []], ⟨[], by simp, fun r hr => by simp at hr, rfl⟩, rfl, lsone (.sl0 _ _)⟩
      · subst hcs
        by_cases h0 : len = 0
        · subst h0
          exact ⟨[.sl 0 []], ⟨[], by simp, fun r hr => by simp at hr, rfl⟩, rfl, lsone (.sl0 _ _)⟩
        · have helem : ∀ i, i < len → ∃ ys, w.cells? base (a.add (i * P.cellsOf t')) (P.cellsOf t') = some ys ∧ ∃ x, DataW.trod enc P w base spare held fuel t' ys = some x := by
            intro i hlt
            have hx := hi i hlt
            have : elems[i]? = some (elems[i]'(by omega)) := List.getElem?_eq_getElem _
            rw [this] at hx
            cases hc : w.cells? base (a.add (i * P.cellsOf t')) (P.cellsOf t') with
            | none => rw [hc] at hx; simp at hx
            | some ys => rw [hc] at hx; exact ⟨ys, rfl, _, hx⟩
          have hspot : a.spot = none := by
            obtain ⟨ys, hc, _⟩ := helem 0 (by omega)
            obtain ⟨hyl, hyc⟩ := cells_get hc
            have hy := hyc 0 (by omega)
            rw [List.getElem?_eq_getElem (by omega)] at hy
            have := (cell_lt hy).2
            simpa [Addr.add] using this
          have hadd : ∀ n m, (a.add n).add m = ⟨a.block, a.off + (n + m), none⟩ := by
            intro n m
            obtain ⟨ab, ao, asp⟩ := a
            simp only at hspot
            subst hspot
            unfold Addr.add
            by_cases hn : n = 0 <;> by_cases hm : m = 0 <;> simp [hn, hm] <;> omega
          obtain ⟨rows, r1, r2, r3, r4⟩ := rows_built (w := w) (bk := a.block) (off := a.off) (sz := e.cells) (Q := Fits e) len (fun i hlt => by
            obtain ⟨ys, hc, x, hx⟩ := helem i hlt
            obtain ⟨ls, f1, f2, f3⟩ := ih.1 t' fuel ys x hok hx
            obtain ⟨hyl, hyc⟩ := cells_get hc
            refine ⟨ls, f1, f2, fun j l hj => ?_⟩
            obtain ⟨v, hv, hr⟩ := f3.get hj
            have hjl : j < ys.length := (List.getElem?_eq_some_iff.1 hv).1
            have := hyc j (by omega)
            rw [hadd, hv, hcell] at this
            exact ⟨v, this, hr⟩)
          refine ⟨[.sl rows.length rows.flatten], ⟨rows, by omega, r2, rfl⟩, rfl, lsone ?_⟩
          have ea : a = ⟨a.block, a.off, none⟩ := by
            obtain ⟨ab, ao, asp⟩ := a
            simp only at hspot
            subst hspot
            rfl
          rw [ea, r1]
          refine Rep.sl len rows.flatten a.block a.off cap (fun j => (w.cell? ⟨a.block, a.off + j, none⟩).getD undef) hlc hcm (fun j l hj => ?_) (fun j l hj => ?_)
          · obtain ⟨v, hv, _⟩ := r4 j l hj
            exact ⟨(cell_lt hv).1, by rw [hv]; rfl⟩
          · obtain ⟨v, hv, hr⟩ := r4 j l hj
            show Rep w (allS w) l ((w.cell? ⟨a.block, a.off + j, none⟩).getD undef)
            rw [hv]; exact hr
    · cases ht
  | st r ih =>
    refine ⟨fun t fuel cs x ht h => ?_, fun fs off fuel cs ht => by simp [okT] at ht⟩
    simp only [okT] at ht
    split at ht
    · rename_i fs hu
      simp only [Bool.and_eq_true, beq_iff_eq] at ht
      obtain ⟨xs, n, rfl, _, hlen, hxl, hi⟩ := DataW.trod_struct hu h
      obtain ⟨ls, f1, f2, f3⟩ := ih.2 fs.toList 0 n cs ht.1 (by omega) (fun f hf => by
        obtain ⟨i, hlt, rfl⟩ := List.mem_iff_getElem.1 hf
        have := hi i fs[i] (by simp)
        simp only [Array.getElem_toList] at this ⊢
        rw [this]
        exact ⟨xs[i]'(by simp at hlt; omega), List.getElem?_eq_getElem _⟩)
      exact ⟨ls, f1, f2, by simpa using f3⟩
    · cases ht
  | unit =>
    refine ⟨fun t fuel cs x ht => by simp [okT] at ht, fun fs off fuel cs ht hl h => ?_⟩
    refine ⟨[], rfl, rfl, ?_⟩
    rw [List.drop_of_length_le (by simp only [Sh.cells] at hl; omega)]
    exact ⟨rfl, fun j l v h1 => by simp at h1⟩
  | pair a r iha ihr =>
    refine ⟨fun t fuel cs x ht => by simp [okT] at ht, fun fs off fuel cs ht hl h => ?_⟩
    cases fs with
    | nil => simp [okT] at ht
    | cons f fs =>
      simp only [okT, Bool.and_eq_true, beq_iff_eq] at ht
      obtain ⟨h1, h2, h3, h4⟩ := ht
      simp only [Sh.cells] at hl
      obtain ⟨x, hx⟩ := h f (List.mem_cons_self ..)
      obtain ⟨l1, a1, a2, a3⟩ := iha.1 f.type fuel _ x h3 hx
      obtain ⟨l2, b1, b2, b3⟩ := ihr.2 fs (off + a.cells) fuel cs h4 (by omega) (fun g hg => h g (List.mem_cons_of_mem _ hg))
      rw [h1, h2] at a3
      refine ⟨l1 ++ l2, ⟨l1, l2, a1, b1, rfl⟩, by simp [Sh.cells, a2, b2], ?_⟩
      refine ⟨by rw [List.length_append, a2, b2, List.length_drop]; omega, fun j l v hj hv => ?_⟩
      by_cases hlt : j < l1.length
      · rw [List.getElem?_append_left hlt] at hj
        refine a3.2 j l v hj ?_
        rw [List.getElem?_take, if_pos (by omega)]
        exact hv
      · rw [List.getElem?_append_right (by omega)] at hj
        refine b3.2 (j - l1.length) l v hj ?_
        rw [← hv, List.getElem?_drop, List.getElem?_drop, a2]
        congr 1
        omega

/-- An argument as an abstract value. -/
def svOf : Sh → List Lf → SV
  | .st _, ls => .agg ls
  | _, [l] => .one l
  | _, ls => .agg ls

def isTop : Sh → Bool
  | .unit => false
  | .pair .. => false
  | _ => true

theorem opened_arg {sh : Sh} {t : TypeId} {v : Value} {d : DataW H} {ps : List MemPlace} {r : Reach} {b0 : Nat} (ht : okT P sh (.inl t) = true) (hval : Value.okWide P w r b0 t v) (h : DataW.Trod enc P w base spare held t v d ps) :
    ∃ ls, Fits sh ls ∧ SVR (Rep w (allS w)) (svOf sh ls) v := by
  obtain ⟨fuel, h⟩ := h
  obtain ⟨ls, f1, f2, f3⟩ := (opened sh).1 t fuel _ _ ht h
  refine ⟨ls, f1, ?_⟩
  have one : ∀ {l : Lf}, ls = [l] → (∀ cs, v ≠ .agg cs) → SVR (Rep w (allS w)) (.one l) v := by
    intro l hl hne
    subst hl
    have hc : v.cells = #[v] := by
      cases v <;> first | rfl | exact absurd rfl (hne _)
    rw [hc] at f3
    exact f3.2 0 l v rfl rfl
  cases sh with
  | int k =>
    simp only [okT] at ht
    split at ht
    · rename_i k' hu
      obtain ⟨n, rfl⟩ := WideShapes.okWide_int hu hval
      obtain ⟨m, _, rfl⟩ := f1
      exact one rfl (fun _ h => by cases h)
    · cases ht
  | bool =>
    simp only [okT] at ht
    split at ht
    · rename_i hu
      obtain ⟨n, rfl⟩ := WideShapes.okWide_bool hu hval
      obtain ⟨m, rfl⟩ := f1
      exact one rfl (fun _ h => by cases h)
    · cases ht
  | str =>
    simp only [okT] at ht
    split at ht
    · rename_i hu
      obtain ⟨n, rfl⟩ := WideShapes.okWide_string hu hval
      obtain ⟨m, _, rfl⟩ := f1
      exact one rfl (fun _ h => by cases h)
    · cases ht
  | sl e =>
    simp only [okT] at ht
    split at ht
    · rename_i t' hu
      obtain ⟨a, n, c, rfl⟩ := WideShapes.okWide_slice hu hval
      obtain ⟨rows, _, _, rfl⟩ := f1
      exact one rfl (fun _ h => by cases h)
    · cases ht
  | st r =>
    simp only [okT] at ht
    split at ht
    · rename_i fs hu
      obtain ⟨cs, rfl, _⟩ := WideShapes.okWide_struct hu hval
      exact ⟨cs, rfl, f3⟩
    · cases ht
  | unit => simp [okT] at ht
  | pair a r => simp [okT] at ht
end
end Go.Proofs.Ytaffjoloefhodaa.Abs

/-
  A row's contract out of the contract of the law's function.
-/
namespace Go.Proofs.Ytaffjoloefhodaa.Abs
open Go.RowKit

def FitsAll : List Sh → List SV → Prop
  | [], [] => True
  | sh :: shs, x :: xs => (∃ ls, Fits sh ls ∧ x = svOf sh ls) ∧ FitsAll shs xs
  | _, _ => False

/-- Are the parameters of those makes, and may they be read again? -/
def okParams (P : Program) : List Sh → List TypeId → Bool
  | [], [] => true
  | sh :: shs, t :: ts => okT P sh (.inl t) && (P.readableRec t && (decide (t < P.types.size) && okParams P shs ts))
  | _, _ => false

section
variable {H : Type} {enc : TypeId × Value → H} {P : Program} {W W' : World}

theorem open_all : ∀ {shs : List Sh} {ts : List TypeId} {vs : List Value} {ds : List (DataW H)} {ps : List MemPlace} {base : Nat}, okParams P shs ts = true → DataW.TrodAll enc P W 0 (fun _ => true) true ts vs ds ps →
    (∀ (j : Nat) t v, ts[j]? = some t → vs[j]? = some v → Value.okWide P W .any base t v) → ∃ xs, FitsAll shs xs ∧ SvsR (Rep W (allS W)) xs vs
  | [], [], [], [], _, _, _, _, _ => ⟨[], trivial, rfl, fun j x v h => by simp at h⟩
  | [], _ :: _, _, _, _, _, h, _, _ => by simp [okParams] at h
  | _ :: _, [], _, _, _, _, h, _, _ => by simp [okParams] at h
  | sh :: shs, t :: ts, v :: vs, d :: ds, ps, base, h, hd, hv => by
    simp only [okParams, Bool.and_eq_true] at h
    obtain ⟨p, q, h1, h2, _⟩ := hd
    obtain ⟨ls, f1, f2⟩ := opened_arg h.1 (hv 0 t v rfl rfl) h1
    obtain ⟨xs, g1, g2⟩ := open_all h.2.2.2 h2 (fun j t' v' e1 e2 => hv (j + 1) t' v' e1 e2)
    refine ⟨svOf sh ls :: xs, ⟨⟨ls, f1, rfl⟩, g1⟩, by simp [g2.1], fun j x u e1 e2 => ?_⟩
    cases j with
    | zero => simp at e1 e2; subst e1; subst e2; exact f2
    | succ j => exact g2.2 j x u e1 e2

theorem again_all (hl : laidOutB P = true) (hb : Below W.heap.size W W') : ∀ {shs : List Sh} {ts : List TypeId} {vs : List Value} {ds : List (DataW H)} {ps : List MemPlace}, okParams P shs ts = true → DataW.TrodAll enc P W 0 (fun _ => true) true ts vs ds ps → (∀ x ∈ ps, x.block < W.heap.size) →
    DataW.TrodAll enc P W' 0 (fun b => decide (b < W.heap.size)) true ts vs ds ps
  | [], [], [], [], _, _, h, _ => h
  | [], _ :: _, _, _, _, h, _, _ => by simp [okParams] at h
  | _ :: _, [], _, _, _, h, _, _ => by simp [okParams] at h
  | sh :: shs, t :: ts, v :: vs, d :: ds, ps, h, hd, hlt => by
    simp only [okParams, Bool.and_eq_true, decide_eq_true_eq] at h
    obtain ⟨p, q, h1, h2, rfl⟩ := hd
    exact ⟨p, q, Below.trod hl h.2.1 h.2.2.1 h1 hb (fun x hx => hlt x (List.mem_append_left _ hx)), again_all hl hb h.2.2.2 h2 (fun x hx => hlt x (List.mem_append_right _ hx)), rfl⟩

/-- The contract that the row asks for: the function gives true, and what came reads as it did. -/
theorem law_contract {f : FuncId} {fn : Func} {s : ChangeSpec} {apart fresh handsOn : Bool} {tb : TypeId} (hl : laidOutB P = true) (shs : List Sh) (hp : okParams P shs fn.params.toList = true) (hres : fn.resultTypes = #[tb]) (htb : P.underlying tb = some .bool)
    (hvars : s.vars = []) (hs : ∀ ds : List (DataW H), ds.length = fn.params.toList.length → s.fn H ds = { results := [.lit (.bool true)], args := ds })
    (hf : ∀ xs, FitsAll shs xs → CallsA P f xs (· = .s (.one (.b true))))
    (base : Nat) (args : Array Value) (ds gs : List (DataW H)) (before : List MemPlace)
    (hval : ∀ (j : Nat) t v, fn.params[j]? = some t → args[j]? = some v → Value.okWide P W .any base t v) (hW : DataW.Whole enc P fn.params.toList s.vars apart W args.toList ds gs before) :
    Calls P f args W fun e W' => ∃ v, e = .returned v ∧ s.post enc P fn apart fresh handsOn false W args v W' := by
  have hlt := hW.lt
  have hW' := hW
  obtain ⟨p, q, hA, hV, hpq, _, _⟩ := hW'
  obtain ⟨xs, h1, h2⟩ := open_all hp hA (fun j t v e1 e2 => hval j t v (by simpa using e1) (by simpa using e2))
  refine (hf xs h1 W (allS W) args (allS_in W) h2).mono ?_
  rintro e W' ⟨v, x, S', rfl, rfl, hext, _, hv⟩
  have hv : v = .bool true := rep_b hv
  subst hv
  have hlen : ds.length = fn.params.toList.length := by
    have : ∀ {ts : List TypeId} {vs : List Value} {ds : List (DataW H)} {ps : List MemPlace}, DataW.TrodAll enc P W 0 (fun _ => true) true ts vs ds ps → ds.length = ts.length := by
      intro ts
      induction ts with
      | nil => intro vs ds ps h; cases vs <;> cases ds <;> simp_all [DataW.TrodAll]
      | cons t ts ih =>
        intro vs ds ps h
        cases vs <;> cases ds <;> simp only [DataW.TrodAll] at h
        obtain ⟨p, q, _, h2, _⟩ := h
        simp [ih h2]
    exact this hA
  rw [hvars] at hV
  have hgs : gs = [] ∧ q = [] := by
    cases gs with
    | nil => exact ⟨rfl, hV⟩
    | cons g gs => exact hV.elim
  obtain ⟨rfl, rfl⟩ := hgs
  refine ⟨_, rfl, ds, [], before, [], p, [], hW, ?_, ?_, ?_, hext.below.frame _, fun h => by cases h⟩
  · rw [List.append_nil, hs ds hlen, hres]
    exact ⟨[], [], ⟨1, by simp [DataW.trod, Value.cells, htb]⟩, rfl, rfl⟩
  · rw [List.append_nil, hs ds hlen]
    exact again_all hl hext.below hp hA (fun x hx => hlt x (by rw [hpq]; exact List.mem_append_left _ hx))
  · rw [List.append_nil, hs ds hlen, hvars]
    rfl
end
end Go.Proofs.Ytaffjoloefhodaa.Abs

/-
  Regions that draw their order, and lay or write an own block besides.
-/
namespace Go.Proofs.Ytaffjoloefhodaa.Abs
open Go.RowKit

def okDrawB (ops : Array Oper) (i0 : Nat) : Bool :=
  (List.range ops.size).all fun i => match ops[i]? with
    | none => false
    | some o => (o.dst.isSome || decide (i = i0)) && o.after.all (fun e => !Region.binds .any e || decide (e.on < i)) && (List.range ops.size).all (fun j => match ops[j]? with
        | none => false
        | some p => (decide (i = j) || !(o.dst == p.dst)) && (match p.dst with
            | none => true
            | some d => !(o.looksAt ops).contains d || o.after.any (fun e => e.on == j && Region.binds .any e)))

structure DrawOkB (ops : Array Oper) (i0 : Nat) : Prop where
  dst : ∀ (i : Nat) (o : Oper), ops[i]? = some o → i ≠ i0 → ∃ d, o.dst = some d
  lt : ∀ (i : Nat) (o : Oper), ops[i]? = some o → ∀ e ∈ o.after, Region.binds .any e = true → e.on < i
  ne : ∀ (i : Nat) (o : Oper) (j : Nat) (p : Oper), ops[i]? = some o → ops[j]? = some p → i ≠ j → o.dst ≠ p.dst
  ed : ∀ (i : Nat) (o : Oper) (j : Nat) (p : Oper) (d : Tmp), ops[i]? = some o → ops[j]? = some p → p.dst = some d → d ∈ o.looksAt ops → ∃ e ∈ o.after, e.on = j ∧ Region.binds .any e = true

theorem drawOkB_of {ops : Array Oper} {i0 : Nat} (h : okDrawB ops i0 = true) : DrawOkB ops i0 := by
  have key : ∀ (i : Nat) (o : Oper), ops[i]? = some o → (o.dst.isSome || decide (i = i0)) = true ∧ o.after.all (fun e => !Region.binds .any e || decide (e.on < i)) = true ∧ ∀ (j : Nat) (p : Oper), ops[j]? = some p → (decide (i = j) || !(o.dst == p.dst)) = true ∧ (match p.dst with
            | none => true
            | some d => !(o.looksAt ops).contains d || o.after.any (fun e => e.on == j && Region.binds .any e)) = true := by
    intro i o hi
    have hil : i < ops.size := (Array.getElem?_eq_some_iff.1 hi).1
    have h1 := List.all_eq_true.1 h i (List.mem_range.2 hil)
    rw [hi] at h1
    simp only [Bool.and_eq_true] at h1
    refine ⟨h1.1.1, h1.1.2, fun j p hj => ?_⟩
    have hjl : j < ops.size := (Array.getElem?_eq_some_iff.1 hj).1
    have h2 := List.all_eq_true.1 h1.2 j (List.mem_range.2 hjl)
    rw [hj] at h2
    simp only [Bool.and_eq_true] at h2
    exact h2
  refine ⟨fun i o hi hne => ?_, fun i o hi e he hb => ?_, fun i o j p hi hj hne he => ?_, fun i o j p d hi hj hd hm => ?_⟩
  · have := (key i o hi).1
    simp only [Bool.or_eq_true, decide_eq_true_eq] at this
    rcases this with h | h
    · exact Option.isSome_iff_exists.1 h
    · exact absurd h hne
  · have := (key i o hi).2.1
    rw [Array.all_eq_true'] at this
    have h := this e he
    rw [hb] at h
    simpa using h
  · have := ((key i o hi).2.2 j p hj).1
    simp only [Bool.or_eq_true, decide_eq_true_eq, Bool.not_eq_true', beq_eq_false_iff_ne] at this
    rcases this with h | h
    · exact hne h
    · exact h he
  · have := ((key i o hi).2.2 j p hj).2
    rw [hd] at this
    simp only [Bool.or_eq_true, Bool.not_eq_true'] at this
    rcases this with h | h
    · rw [List.contains_eq_mem] at h
      simp [hm] at h
    · rw [Array.any_eq_true] at h
      obtain ⟨i', hi', h⟩ := h
      simp only [Bool.and_eq_true, beq_iff_eq] at h
      exact ⟨_, Array.getElem_mem hi', h.1, h.2⟩

/-- A memory that knows less: some boxes are not looked at. -/
structure Lift (md M : List Blk) : Prop where
  len : md.length = M.length
  at_ : ∀ (p : Nat) (b : Blk), md[p]? = some b → b = .dead ∨ M[p]? = some b
  arr : ∀ (p : Nat) (e sz k : Nat) (cs : List Lf), M[p]? = some (.arr e sz k cs) → md[p]? = some (.arr e sz k cs)

theorem Lift.up {md M : List Blk} (h : Lift md M) {w : World} {S : Stab} {H : Nat → Value} {l : Lf} {v : Value} (g : GRep w S md H l v) : GRep w S M H l v :=
  GRep.mono (fun _ _ hs => ⟨hs, rfl⟩) (Nat.le_of_eq h.len) (fun _ _ => rfl) (fun p e sz k cs _ hm => ⟨k, cs, h.arr p e sz k cs hm, rfl⟩) g

theorem Lift.down {md M : List Blk} (h : Lift md M) {w : World} {S : Stab} {H : Nat → Value} {l : Lf} {v : Value} (g : GRep w S M H l v) : GRep w S md H l v := by
  refine GRep.mono (fun _ _ hs => ⟨hs, rfl⟩) (Nat.le_of_eq h.len.symm) (fun _ _ => rfl) (fun p e sz k cs _ hm => ⟨k, cs, ?_, rfl⟩) g
  rcases h.at_ p _ hm with h | h
  · cases h
  · exact h

theorem Rel.down {c : Ctx} {t : Nat → AV} {md M : List Blk} {a : Act} {w : World} {S : Stab} {H : Nat → Value} (h : Lift md M) (r : Rel c ⟨t, M⟩ a w S H) : Rel c ⟨t, md⟩ a w S H := by
  refine ⟨r.nt, r.df, fun i => AVR.mono (fun l v => h.down) (r.tm i), fun p b hb => ?_, fun p b g hb ho => ?_, fun p q b b' g hb hb' ho ho' => ?_, fun p b g i hb ho hs => ?_, r.sl, r.ex⟩
  · rcases h.at_ p b hb with rfl | hb'
    · trivial
    · have := r.bl p b hb'
      cases b with
      | dead => trivial
      | box cs =>
        obtain ⟨g, e, cur, h1, h2, h3⟩ := this
        exact ⟨g, e, cur, h1, h2, h3.mono (fun l v => h.down)⟩
      | arr e sz k cs => exact this
  · rcases h.at_ p b hb with rfl | hb'
    · cases ho
    · exact r.lo p b g hb' ho
  · rcases h.at_ p b hb with rfl | hb1
    · cases ho
    · rcases h.at_ q b' hb' with rfl | hb2
      · cases ho'
      · exact r.inj p q b b' g hb1 hb2 ho ho'
  · rcases h.at_ p b hb with rfl | hb'
    · cases ho
    · exact r.sb p b g i hb' ho hs

section
variable {P : Program} {c : Ctx} {t : Nat → AV} {m : List Blk} {Q : Exit → AS → Prop}

theorem TL_set {ops : Array Oper} {i0 : Nat} (hok : DrawOkB ops i0) {T : Nat → AV} {listed : Array Bool} {i : Nat} {o : Oper} {d : Tmp} (hsz : listed.size = ops.size) (hget : ops[i]? = some o) (hun' : listed.getD i true = false) (hd : o.dst = some d) :
    upd (TL ops T listed) d (T d) = TL ops T (listed.setIfInBounds i true) := by
  have hio : i < ops.size := (Array.getElem?_eq_some_iff.1 hget).1
  funext x
  rw [upd_def]
  by_cases hx : x = d
  · subst hx
    rw [if_pos rfl]
    unfold TL
    rw [if_neg]
    rintro ⟨j, p, hj, hpd, hl⟩
    by_cases hij : i = j
    · subst hij
      simp only [Array.getD_eq_getD_getElem?, Array.getElem?_setIfInBounds_self_of_lt (by omega : i < listed.size), Option.getD_some] at hl
      cases hl
    · exact hok.ne i o j p hget hj hij (by rw [hd, hpd])
  · rw [if_neg hx]
    unfold TL
    by_cases hex : ∃ (j : Nat) (p : Oper), ops[j]? = some p ∧ p.dst = some x ∧ listed.getD j true = false
    · rw [if_pos hex]
      obtain ⟨j, p, hj, hpd, hl⟩ := hex
      rw [if_pos]
      refine ⟨j, p, hj, hpd, ?_⟩
      have hij : i ≠ j := by
        intro e; subst e
        rw [hget] at hj
        cases hj
        rw [hd] at hpd
        cases hpd
        exact hx rfl
      simp only [Array.getD_eq_getD_getElem?, Array.getElem?_setIfInBounds_ne hij]
      simpa [Array.getD_eq_getD_getElem?] using hl
    · rw [if_neg hex, if_neg]
      rintro ⟨j, p, hj, hpd, hl⟩
      refine hex ⟨j, p, hj, hpd, ?_⟩
      by_cases hij : i = j
      · subst hij; exact hun'
      · simp only [Array.getD_eq_getD_getElem?, Array.getElem?_setIfInBounds_ne hij] at hl
        simpa [Array.getD_eq_getD_getElem?] using hl

theorem TL_set_none {ops : Array Oper} {T : Nat → AV} {listed : Array Bool} {i : Nat} {o : Oper} (hget : ops[i]? = some o) (hd : o.dst = none) :
    TL ops T listed = TL ops T (listed.setIfInBounds i true) := by
  funext x
  unfold TL
  have : (∃ (j : Nat) (p : Oper), ops[j]? = some p ∧ p.dst = some x ∧ listed.getD j true = false) ↔ (∃ (j : Nat) (p : Oper), ops[j]? = some p ∧ p.dst = some x ∧ (listed.setIfInBounds i true).getD j true = false) := by
    constructor
    · rintro ⟨j, p, hj, hp, hl⟩
      have hij : i ≠ j := by intro e; subst e; rw [hget] at hj; cases hj; rw [hd] at hp; cases hp
      exact ⟨j, p, hj, hp, by simp only [Array.getD_eq_getD_getElem?, Array.getElem?_setIfInBounds_ne hij]; simpa [Array.getD_eq_getD_getElem?] using hl⟩
    · rintro ⟨j, p, hj, hp, hl⟩
      have hij : i ≠ j := by intro e; subst e; rw [hget] at hj; cases hj; rw [hd] at hp; cases hp
      exact ⟨j, p, hj, hp, by simp only [Array.getD_eq_getD_getElem?, Array.getElem?_setIfInBounds_ne hij] at hl; simpa [Array.getD_eq_getD_getElem?] using hl⟩
  by_cases h : ∃ (j : Nat) (p : Oper), ops[j]? = some p ∧ p.dst = some x ∧ listed.getD j true = false
  · rw [if_pos h, if_pos (this.1 h)]
  · rw [if_neg h, if_neg (fun h' => h (this.2 h'))]

/-- All that op i waits for is done. -/
def Met (listed : Array Bool) (o : Oper) : Prop := ∀ e ∈ o.after, Region.binds .any e = true → listed.getD e.on false = true

theorem TL_look {ops : Array Oper} {i0 : Nat} (hok : DrawOkB ops i0) {T : Nat → AV} {listed : Array Bool} {i : Nat} {o : Oper} (hsz : listed.size = ops.size) (hget : ops[i]? = some o) (hmet : Met listed o) : ∀ y ∈ o.looksAt ops, TL ops T listed y = T y := by
  intro y hy
  unfold TL
  rw [if_neg]
  rintro ⟨j, p, hj, hpd, hl⟩
  obtain ⟨e, he, heo, hbind⟩ := hok.ed i o j p y hget hj hpd hy
  have h1 := hmet e he hbind
  rw [heo] at h1
  have hjl : j < ops.size := (Array.getElem?_eq_some_iff.1 hj).1
  simp only [Array.getD_eq_getD_getElem?] at h1 hl
  rw [Array.getElem?_eq_getElem (by omega)] at h1 hl
  simp only [Option.getD_some] at h1 hl
  rw [h1] at hl
  cases hl

/-- An operation that turns the own blocks. -/
def EffOk (P : Program) (c : Ctx) (ops : Array Oper) (T : Nat → AV) (B : Array Bool → List Blk) (HI : Array Bool → (Nat → Value) → Prop) (i : Nat) (o : Oper) : Prop :=
  o.guard = none ∧ ∀ listed : Array Bool, listed.size = ops.size → listed.getD i true = false → Met listed o → ∀ a w S H, Rel c ⟨TL ops T listed, B listed⟩ a w S H → HI listed H → ∀ (K : Act → World → Prop) (Q : Exit → Act → World → Prop),
    (∀ a' w' S' H', Rel c ⟨TL ops T (listed.setIfInBounds i true), B (listed.setIfInBounds i true)⟩ a' w' S' H' → HI (listed.setIfInBounds i true) H' → K a' w') → Oper.wp P o a w K Q

/-- A value's operation beside them. -/
def PureOk (P : Program) (c : Ctx) (md : List Blk) (ops : Array Oper) (T : Nat → AV) (B : Array Bool → List Blk) (HI : Array Bool → (Nat → Value) → Prop) (i : Nat) (o : Oper) : Prop :=
  (∃ d, o.dst = some d ∧ d < c.nt ∧ Good1 P c md ops T o (T d)) ∧ (∀ listed : Array Bool, B (listed.setIfInBounds i true) = B listed) ∧ ∀ (listed : Array Bool) (H : Nat → Value), HI listed H → HI (listed.setIfInBounds i true) H

theorem draw_mem {ops : Array Oper} {i0 : Nat} (hok : DrawOkB ops i0) {T : Nat → AV} {md : List Blk} {B : Array Bool → List Blk} {HI : Array Bool → (Nat → Value) → Prop} (hlift : ∀ listed, Lift md (B listed)) (hT : ∀ (i : Nat) (o : Oper), ops[i]? = some o → PureOk P c md ops T B HI i o ∨ EffOk P c ops T B HI i o)
    (hQ : ∀ listed : Array Bool, listed.size = ops.size → (∀ i, i < ops.size → listed.getD i true = true) → Q .normal ⟨T, B listed⟩) :
    ∀ (fuel : Nat) (listed : Array Bool) (a : Act) (w : World) (S : Stab) (H : Nat → Value), listed.size = ops.size → (List.range ops.size).countP (fun i => !listed.getD i true) ≤ fuel →
      Rel c ⟨TL ops T listed, B listed⟩ a w S H → HI listed H → wpAny P .any ops (QR c Q) fuel listed a w := by
  have done : ∀ (listed : Array Bool) (a : Act) (w : World) (S : Stab) (H : Nat → Value), listed.size = ops.size → Region.ready .any ops listed = [] → Rel c ⟨TL ops T listed, B listed⟩ a w S H → QR c Q .normal a w := by
    intro listed a w S H hsz hr r
    have hall : ∀ n i, i < n → i < ops.size → listed.getD i true = true := by
      intro n
      induction n with
      | zero => intro i h; omega
      | succ n ih =>
        intro i hi hio
        by_cases hb : listed.getD i true = true
        · exact hb
        · exfalso
          have hmem : i ∈ Region.ready .any ops listed := by
            unfold Region.ready
            refine List.mem_filter.2 ⟨List.mem_range.2 hio, ?_⟩
            have hlt := hok.lt i ops[i] (Array.getElem?_eq_getElem hio)
            have hb' : listed.getD i true = false := by simpa using hb
            simp only [hb', Bool.not_false, Bool.true_and, Array.getElem?_eq_getElem hio, Option.map_some, Option.getD_some]
            rw [Array.all_eq_true']
            intro e he
            cases hbind : Region.binds .any e with
            | false => rfl
            | true =>
            have hel := hlt e he hbind
            have h1 := ih e.on (by omega) (by omega)
            have h2 : listed.getD e.on false = true := by
              simp only [Array.getD_eq_getD_getElem?] at h1 ⊢
              rw [Array.getElem?_eq_getElem (by omega)] at h1 ⊢
              exact h1
            simp [h2]
          rw [hr] at hmem
          cases hmem
    have hTL : TL ops T listed = T := by
      funext x
      unfold TL
      rw [if_neg]
      rintro ⟨i, o, hi, _, hl⟩
      have := hall (i + 1) i (by omega) (Array.getElem?_eq_some_iff.1 hi).1
      rw [this] at hl
      cases hl
    rw [hTL] at r
    exact ⟨_, S, H, r, hQ listed hsz (fun i hi => hall (i + 1) i (by omega) hi)⟩
  intro fuel
  induction fuel with
  | zero =>
    intro listed a w S H hsz hc r hi0
    have hr : Region.ready .any ops listed = [] := by
      unfold Region.ready
      rw [List.filter_eq_nil_iff]
      intro i hi hb
      simp only [Bool.and_eq_true] at hb
      have : 0 < (List.range ops.size).countP (fun i => !listed.getD i true) := List.countP_pos_iff.2 ⟨i, hi, hb.1⟩
      omega
    exact ⟨hr, done listed a w S H hsz hr r⟩
  | succ fuel ih =>
    intro listed a w S H hsz hc r hi0
    refine ⟨fun hr => done listed a w S H hsz hr r, fun i hi => ?_⟩
    unfold Region.ready at hi
    rw [List.mem_filter] at hi
    obtain ⟨hi1, hi2⟩ := hi
    have hio : i < ops.size := List.mem_range.1 hi1
    have hget : ops[i]? = some ops[i] := Array.getElem?_eq_getElem hio
    simp only [Bool.and_eq_true, hget, Option.map_some, Option.getD_some] at hi2
    obtain ⟨hun, haf⟩ := hi2
    have hun' : listed.getD i true = false := by simpa using hun
    generalize ho : ops[i] = o at *
    have hmet : Met listed o := by
      intro e he hb
      rw [Array.all_eq_true'] at haf
      have h1 := haf e he
      rw [hb] at h1
      simpa using h1
    have hlook := TL_look (T := T) hok hsz hget hmet
    have hcnt : (List.range ops.size).countP (fun j => !(listed.setIfInBounds i true).getD j true) ≤ fuel := by
      have := count_lt (fun j => !listed.getD j true) (fun j => !(listed.setIfInBounds i true).getD j true) (List.range ops.size) (fun j _ hj => by
        by_cases hij : i = j
        · subst hij
          simp only [Array.getD_eq_getD_getElem?, Array.getElem?_setIfInBounds_self_of_lt (by omega : i < listed.size), Option.getD_some] at hj
          cases hj
        · simp only [Array.getD_eq_getD_getElem?, Array.getElem?_setIfInBounds_ne hij] at hj
          simpa [Array.getD_eq_getD_getElem?] using hj) hi1 hun (by simp only [Array.getD_eq_getD_getElem?, Array.getElem?_setIfInBounds_self_of_lt (by omega : i < listed.size), Option.getD_some]; rfl)
      omega
    rcases hT i o hget with ⟨⟨d, hd, hdn, hgood⟩, hB, hHI⟩ | ⟨hgn, heff⟩
    · have hTL' := TL_set (T := T) hok hsz hget hun' hd
      have next : ∀ v w' S', Ext w S w' S' → InH w' S' → AVR (GRep w' S' md H) (T d) v → wpAny P .any ops (QR c Q) fuel (listed.setIfInBounds i true) (a.put o.dst v) w' := by
        intro v w' S' hext hin hv
        rw [hd]
        refine ih _ _ w' S' H (by simpa using hsz) hcnt ?_ (hHI _ _ hi0)
        rw [← hTL', hB]
        exact (r.ext hext hin).put hdn (AVR.mono (fun l u => (hlift listed).up) hv)
      have hw : wpOp P ops (QR c Q) i (wpAny P .any ops (QR c Q) fuel (listed.setIfInBounds i true)) a w := by
        unfold wpOp
        rw [hget]
        simp only
        have hrr : Rel c ⟨restr T (o.looksAt ops), md⟩ a w S H := by
          refine (r.down (hlift listed)).weak (fun y => ?_)
          unfold restr
          cases hc' : (o.looksAt ops).contains y with
          | false => exact .inr rfl
          | true => exact .inl (hlook y (by simpa using hc')).symm
        rcases hgood with ⟨hg, hop⟩ | ⟨hg, hx⟩
        · have hwant : Region.wanted o (yielded ops a.tmps) = true := by
            rcases hg with hg | ⟨j, want, dj, h1, h2, h3⟩
            · simp [Region.wanted, hg]
            · have h4 := r.tm dj
              have h5 : TL ops T listed dj = .s (.one (.b want)) := by rw [hlook dj (mem_looks_guard h1 h2)]; exact h3
              rw [show (⟨TL ops T listed, B listed⟩ : AS).t dj = .s (.one (.b want)) from h5] at h4
              have hv : a.tmps.getD dj undef = .bool want := rep_b (h4 : Rep w S (.b want) (a.tmps.getD dj undef))
              have hs : a.tmps[dj]? = some (.bool want) := by
                simp only [Array.getD_eq_getD_getElem?] at hv
                cases hq : a.tmps[dj]? with
                | none => rw [hq] at hv; cases hv
                | some u => rw [hq] at hv; simp only [Option.getD_some] at hv; rw [hv]
              simp only [Region.wanted, h1, yielded, h2, Option.bind_some, hs, beq_self_eq_true]
          rw [if_pos hwant]
          obtain ⟨odst, oop, oty, opos, oaf, og⟩ := o
          exact .inl (hop a w S H hrr odst opos oaf og _ _ (fun v w' S' h1 h2 h3 => next v w' S' h1 h2 h3))
        · have hwant : Region.wanted o (yielded ops a.tmps) = false := by
            obtain ⟨j, want, dj, h1, h2, h3⟩ := hg
            have h4 := r.tm dj
            rw [show (⟨TL ops T listed, B listed⟩ : AS).t dj = T dj from hlook dj (mem_looks_guard h1 h2)] at h4
            simp only [Region.wanted, h1, yielded, h2, Option.bind_some]
            rcases h3 with h3 | ⟨b, h3, hb⟩
            · rw [h3] at h4
              obtain ⟨vs, hv, _⟩ := h4
              simp only [Array.getD_eq_getD_getElem?] at hv
              cases hq : a.tmps[dj]? with
              | none => rfl
              | some u => rw [hq] at hv; simp only [Option.getD_some] at hv; subst hv; rfl
            · rw [h3] at h4
              have hv : a.tmps.getD dj undef = .bool b := rep_b (h4 : Rep w S (.b b) (a.tmps.getD dj undef))
              simp only [Array.getD_eq_getD_getElem?] at hv
              cases hq : a.tmps[dj]? with
              | none => rfl
              | some u =>
                rw [hq] at hv; simp only [Option.getD_some] at hv; subst hv
                cases b <;> cases want <;> first | rfl | cases hb
          rw [if_neg (by rw [hwant]; simp)]
          have := next undef w S (Ext.refl w S) r.sl (by rw [hx]; exact avr_undef)
          exact this
      exact hw
    · unfold wpOp
      rw [hget]
      simp only
      have hwant : Region.wanted o (yielded ops a.tmps) = true := by simp [Region.wanted, hgn]
      rw [if_pos hwant]
      exact .inl (heff listed hsz hun' hmet a w S H r hi0 _ _ (fun a' w' S' H' r' h' => ih _ a' w' S' H' (by simpa using hsz) hcnt r' h'))

end
end Go.Proofs.Ytaffjoloefhodaa.Abs

/-
  A drawn region with one write into an own block (laid in the region itself, or ahead of it).
-/
namespace Go.Proofs.Ytaffjoloefhodaa.Abs
open Go.RowKit

section
variable {P : Program} {c : Ctx} {t : Nat → AV} {m : List Blk} {Q : Exit → AS → Prop}

/-- A place kept free. -/
theorem Rel.reserve {a : Act} {w : World} {S : Stab} {H : Nat → Value} (r : Rel c ⟨t, m⟩ a w S H) : Rel c ⟨t, m ++ [.dead]⟩ a w S (setH H m.length undef) := by
  refine r.change (p := m.length) (b' := .dead) (v := undef) (by simp) (by simp) (fun q hq => ?_) (fun b i h => ⟨h, rfl⟩) (fun g h => absurd h (Nat.lt_irrefl _)) (fun e sz k cs h => absurd h (Nat.lt_irrefl _))
    (fun g _ _ => rfl) trivial (fun g hg => by cases hg) (fun q b g i _ _ _ h => h) (fun g i _ h => h) r.sl (Nat.le_refl _) rfl rfl rfl
  rcases Nat.lt_or_ge q m.length with h | h
  · rw [List.getElem?_append_left h]
  · rw [List.getElem?_eq_none (by simp; omega), List.getElem?_eq_none h]

theorem undef_ne {g : Addr} (h : undef = .pointer (some g)) : False := by
  unfold undef at h; cases h

/-- The place taken. -/
theorem Rel.fill {a : Act} {w : World} {S : Stab} {H : Nat → Value} (r : Rel c ⟨t, m⟩ a w S H) {p : Nat} (hm : m[p]? = some .dead) (hH : H p = undef) {e : TypeId} {cells : Array Value} {ls : List Lf} (hls : ∀ w' H', LsR (GRep w' S (m.set p (.box ls)) H') ls cells.toList) :
    Rel c ⟨t, m.set p (.box ls)⟩ a (w.alloc (.cells cells e)) S (setH H p (.pointer (some ⟨w.heap.size, 0, none⟩))) := by
  have hx : Ext w S (w.alloc (.cells cells e)) S := Ext.alloc w S _
  have hp : p < m.length := (List.getElem?_eq_some_iff.1 hm).1
  have hf := r.fresh (Nat.le_refl w.heap.size)
  refine r.change (p := p) (b' := .box ls) (by simp) (List.getElem?_set_self hp) (fun q hq => List.getElem?_set_ne (fun e => hq e.symm)) (fun b i h => hx.keeps r.sl b i h) (fun g _ h => (undef_ne (hH.symm.trans h)).elim) (fun e sz k cs _ h => by cases h)
    (fun g hg _ => hx.blk g hg) ⟨w.heap.size, e, cells, rfl, heap_alloc_new w _, hls _ _⟩ (fun g hg => ?_) (fun q b g i _ _ _ h => h) (fun g i _ h => h) (fun b i hs => by have := r.sl b i hs; simp; omega) hx.size rfl rfl rfl
  have hg' : w.heap.size = g := by simpa [Blk.own, ownOf] using hg
  subst hg'
  exact ⟨r.ex.size, by simp, fun q b _ hb => hf.1 q b hb, fun i hi => absurd hi (hf.2 i)⟩

theorem opnd_look {L : List Nat} {T tt : Nat → AV} {md M : List Blk} {x : Operand} {y : SV} (h : opnd ⟨restr T L, md⟩ x = .s y) (hl : ∀ z ∈ L, tt z = T z) : opnd ⟨tt, M⟩ x = .s y := by
  cases x with
  | tmp i =>
    have h' : restr T L i = .s y := h
    unfold restr at h'
    show tt i = .s y
    cases hc : L.contains i with
    | false => rw [hc] at h'; cases h'
    | true => rw [hc] at h'; rw [hl i (by simpa using hc)]; exact h'
  | const v => exact h
  | global g => exact h
  | func f => exact h

theorem wp_store {a : Act} {w : World} {S : Stab} {H : Nat → Value} (r : Rel c ⟨t, m⟩ a w S H) {tt ty : TypeId} {pos : String} {af : Array Edge} {x y : Operand} {p off sz : Nat} {v : SV} {cs : List Lf} (hi : (P.info? tt).map (·.size) = some sz) (hx : opnd ⟨t, m⟩ x = .s (.one (.lp p off))) (hy : opnd ⟨t, m⟩ y = .s v) (hm : m[p]? = some (.box cs))
    (hv : v.cells.length = sz) (hfit : off + sz ≤ cs.length) {K : Act → World → Prop} {Q : Exit → Act → World → Prop}
    (k : ∀ w', Rel c ⟨t, m.set p (.box (putAt cs off v.cells))⟩ a w' S H → K a w') : Oper.wp P ⟨none, .store tt x y, ty, pos, af, none⟩ a w K Q := by
  have hx' := opnd_rel r x
  rw [hx] at hx'
  obtain ⟨_, g, hH, ex⟩ := hx'
  have hy' := opnd_rel r y
  rw [hy] at hy'
  have hls := svr_cells hy' (fun l v => GRep.oneCell)
  obtain ⟨g', e, cur, h1, hg, hcur⟩ := r.bl p _ hm
  rw [hH] at h1
  cases h1
  have hlen : (a.eval y).cells.toList.length = sz := by rw [← hls.1, hv]
  have hone : ∀ u ∈ (a.eval y).cells.toList, u.oneCell' = true := by
    intro u hu
    obtain ⟨j, hj, hju⟩ := List.getElem_of_mem hu
    have hj' : j < v.cells.length := by rw [hls.1]; exact hj
    exact GRep.oneCell (hls.2 j _ u (List.getElem?_eq_getElem hj') (by rw [List.getElem?_eq_getElem hj, hju]))
  have hst := run_storeCells_at P g off e (a.eval y).cells.toList 0 cur w hg (by rw [hlen, Nat.add_zero, ← Array.length_toList, ← hcur.1]; exact hfit) hone
  simp only [Nat.add_zero] at hst
  unfold Oper.wp
  have hrun : (execOp a.eval ⟨none, .store tt x y, ty, pos, af, none⟩).run P w = .ok .skip (w.setRow g (cur.toList.take off ++ (a.eval y).cells.toList ++ cur.toList.drop (off + (a.eval y).cells.toList.length)).toArray) := by
    have hszz : (a.eval y).cells.size = sz := by simpa using hlen
    simp only [execOp, ex, Instr.storeAt, Instr.sureAddr, storeVar, Sem.run_bind, Sem.run_pure, Result.andThen_ok, run_sizeOf' hi, hszz, ne_eq, not_true_eq_false, if_false, hst]
  rw [hrun]
  exact k _ (r.setBox (off := off) hm hH hg hls (by rw [hv]; exact hfit))

theorem wp_alloc {a : Act} {w : World} {S : Stab} {H : Nat → Value} (r : Rel c ⟨t, m⟩ a w S H) {tt ty : TypeId} {pos : String} {af : Array Edge} {d : Tmp} {p : Nat} {zl : List Lf} (zi : ZI P tt zl) (hd : d < c.nt) (hm : m[p]? = some .dead) (hH : H p = undef) {K : Act → World → Prop} {Q : Exit → Act → World → Prop}
    (k : ∀ a' w' H', Rel c ⟨upd t d (.s (.one (.lp p 0))), m.set p (.box zl)⟩ a' w' S H' → K a' w') : Oper.wp P ⟨some d, .alloc tt, ty, pos, af, none⟩ a w K Q := by
  obtain ⟨i, z, hi, hz, hl, ho⟩ := zi.h
  subst hl
  unfold Oper.wp
  have hrun : (execOp a.eval ⟨some d, .alloc tt, ty, pos, af, none⟩).run P w = .ok (.value (.pointer (some ⟨w.heap.size, 0, none⟩))) (w.alloc (.cells z.cells tt)) := by simp [execOp, Instr.alloc, zeroValue, typeInfo, hi, hz, newVar, newRow]
  rw [hrun]
  have r' := r.fill (e := tt) (cells := z.cells) hm hH (fun w' H' => clf_list (w := w') (H := H') ho)
  have hp : p < m.length := (List.getElem?_eq_some_iff.1 hm).1
  exact k _ _ _ (r'.put (d := d) (x := .s (.one (.lp p 0))) hd ⟨by simpa using hp, w.heap.size, setH_same _ _ _, rfl⟩)

/-- A region's operations in the text's order: values' operations, one alloc, one store. -/
def DM (P : Program) (c : Ctx) (md : List Blk) (ops : Array Oper) (al : Option (Tmp × Nat)) (k : (Nat → AV) → Prop) : List Oper → (Nat → AV) → Prop
  | [], t => k t
  | o :: rest, t => (∃ x d, o.dst = some d ∧ d < c.nt ∧ ((∃ p, al = some (d, p) ∧ x = .s (.one (.lp p 0))) ∨ Good1 P c md ops t o x) ∧ DM P c md ops al k rest (upd t d x)) ∨ (o.dst = none ∧ DM P c md ops al k rest t)

theorem DM.get {md : List Blk} {ops : Array Oper} {al : Option (Tmp × Nat)} {k : (Nat → AV) → Prop} : ∀ {l : List Oper} {t : Nat → AV}, DM P c md ops al k l t → (dsts l).Nodup → (∀ (i : Nat) (o : Oper), l[i]? = some o → ∀ y ∈ o.looksAt ops, y ∉ dsts (l.drop i)) →
    ∃ T, k T ∧ (∀ y, y ∉ dsts l → T y = t y) ∧ ∀ (i : Nat) (o : Oper), l[i]? = some o → ∀ d, o.dst = some d → d < c.nt ∧ ((∃ p, al = some (d, p) ∧ T d = .s (.one (.lp p 0))) ∨ Good1 P c md ops T o (T d))
  | [], t, h, _, _ => ⟨t, h, fun _ _ => rfl, fun i o h => by simp at h⟩
  | o :: rest, t, h, hnd, hl => by
    rcases h with ⟨x, d, hd, hlt, hg, hr⟩ | ⟨hd, hr⟩
    · have hds : dsts (o :: rest) = d :: dsts rest := by simp [dsts, hd]
      rw [hds] at hnd
      have hnd' := List.nodup_cons.1 hnd
      obtain ⟨T, hk, hT, hG⟩ := DM.get hr hnd'.2 (fun i o' h' y hy => by
        have := hl (i + 1) o' (by simpa using h') y hy
        simpa using this)
      refine ⟨T, hk, fun y hy => ?_, fun i o' h' d' hd' => ?_⟩
      · rw [hds] at hy
        simp only [List.mem_cons, not_or] at hy
        rw [hT y hy.2, upd_def, if_neg hy.1]
      · cases i with
        | zero =>
          simp only [List.getElem?_cons_zero, Option.some.injEq] at h'
          subst h'
          rw [hd] at hd'
          cases hd'
          have hTd : T d = x := by rw [hT d hnd'.1, upd_def, if_pos rfl]
          refine ⟨hlt, ?_⟩
          rw [hTd]
          rcases hg with hg | hg
          · exact .inl hg
          · refine .inr (hg.congr (fun y hy => ?_))
            have := hl 0 o rfl y hy
            rw [List.drop_zero, hds] at this
            simp only [List.mem_cons, not_or] at this
            rw [hT y this.2, upd_def, if_neg this.1]
        | succ i => exact hG i o' (by simpa using h') d' hd'
    · have hds : dsts (o :: rest) = dsts rest := by simp [dsts, hd]
      rw [hds] at hnd
      obtain ⟨T, hk, hT, hG⟩ := DM.get hr hnd (fun i o' h' y hy => by
        have := hl (i + 1) o' (by simpa using h') y hy
        simpa using this)
      refine ⟨T, hk, fun y hy => hT y (by rwa [hds] at hy), fun i o' h' d' hd' => ?_⟩
      cases i with
      | zero =>
        simp only [List.getElem?_cons_zero, Option.some.injEq] at h'
        subst h'
        rw [hd] at hd'
        cases hd'
      | succ i => exact hG i o' (by simpa using h') d' hd'

theorem getD_set_ne {l : Array Bool} {i j : Nat} (h : j ≠ i) : (l.setIfInBounds i true).getD j true = l.getD j true := by
  simp only [Array.getD_eq_getD_getElem?, Array.getElem?_setIfInBounds_ne (fun e => h e.symm)]
theorem getD_set_eq {l : Array Bool} {i : Nat} (h : i < l.size) : (l.setIfInBounds i true).getD i true = true := by
  simp only [Array.getD_eq_getD_getElem?, Array.getElem?_setIfInBounds_self_of_lt h, Option.getD_some]

theorem DrawOkB.nodup {ops : Array Oper} {i0 : Nat} (h : DrawOkB ops i0) : (dsts ops.toList).Nodup := by
  have aux : ∀ (l : List Oper), (∀ (i : Nat) (o : Oper) (j : Nat) (p : Oper), l[i]? = some o → l[j]? = some p → i ≠ j → o.dst ≠ p.dst) → (dsts l).Nodup := by
    intro l
    induction l with
    | nil => intro _; exact List.nodup_nil
    | cons o l ih =>
      intro hne
      have ih' := ih (fun i o' j p hi hj hij => hne (i + 1) o' (j + 1) p (by simpa using hi) (by simpa using hj) (by omega))
      cases hd : o.dst with
      | none => simpa [dsts, hd] using ih'
      | some d =>
        have : dsts (o :: l) = d :: dsts l := by simp [dsts, hd]
        rw [this]
        refine List.nodup_cons.2 ⟨fun hm => ?_, ih'⟩
        unfold dsts at hm
        rw [List.mem_filterMap] at hm
        obtain ⟨p, hp, hpd⟩ := hm
        obtain ⟨j, hj, hjp⟩ := List.getElem_of_mem hp
        exact hne 0 o (j + 1) p rfl (by simp [List.getElem?_eq_getElem hj, hjp]) (by omega) (by rw [hd, hpd])
  exact aux ops.toList (fun i o j p hi hj => h.ne i o j p (by simpa using hi) (by simpa using hj))

/-- The opening of a drawn region. -/
theorem draw_open {id : Nat} {l : List Oper} {i0 : Nat} {T : Nat → AV} {md : List Blk} {B : Array Bool → List Blk} {HI : Array Bool → (Nat → Value) → Prop} (hm : P.follows .mixedOrders = true) (ok : DrawOkB l.toArray i0) (hlift : ∀ listed, Lift md (B listed))
    (hT : ∀ (i : Nat) (o : Oper), l.toArray[i]? = some o → PureOk P c md l.toArray T B HI i o ∨ EffOk P c l.toArray T B HI i o)
    (hTt : ∀ y, y ∉ dsts l → T y = t y)
    (hst : ∀ a w S H, Rel c ⟨t, m⟩ a w S H → ∃ H', Rel c ⟨t, B (Array.replicate l.toArray.size false)⟩ a w S H' ∧ HI (Array.replicate l.toArray.size false) H')
    (hQ : ∀ listed : Array Bool, listed.size = l.toArray.size → (∀ i, i < l.toArray.size → listed.getD i true = true) → Q .normal ⟨T, B listed⟩) : AWC P c (.region id l.toArray true) Q ⟨t, m⟩ := by
  intro a w S H r
  refine wp_region_any hm ?_
  have hcnt : (List.range l.toArray.size).countP (fun i => !(Array.replicate l.toArray.size false).getD i true) ≤ l.toArray.size := by
    refine Nat.le_trans List.countP_le_length ?_
    simp
  have r' : Rel c ⟨t, m⟩ a w.drew S H := r.ext (Ext.drew w S) r.sl
  obtain ⟨H', r2, h2⟩ := hst _ _ _ _ r'
  refine draw_mem ok hlift hT hQ l.toArray.size (Array.replicate l.toArray.size false) a _ S H' (by simp) hcnt ?_ h2
  refine r2.weak (fun x => ?_)
  unfold TL
  by_cases hx : x ∈ dsts l
  · right
    rw [if_pos]
    unfold dsts at hx
    rw [List.mem_filterMap] at hx
    obtain ⟨p, hp, hpd⟩ := hx
    obtain ⟨j, hj, hjp⟩ := List.getElem_of_mem hp
    refine ⟨j, p, by simp [hj, hjp], hpd, ?_⟩
    simp [Array.getD_eq_getD_getElem?, hj]
  · left
    rw [if_neg, hTt x hx]
    rintro ⟨i, o, hi, hod, _⟩
    refine hx ?_
    unfold dsts
    rw [List.mem_filterMap]
    have hi' : l[i]? = some o := by simpa using hi
    exact ⟨o, List.mem_of_getElem? hi', hod⟩

theorem later {l : List Oper} {i0 : Nat} (ok : DrawOkB l.toArray i0) : ∀ (i : Nat) (o : Oper), l[i]? = some o → ∀ y ∈ o.looksAt l.toArray, y ∉ dsts (l.drop i) := by
  intro i o hi y hy hm'
  unfold dsts at hm'
  rw [List.mem_filterMap] at hm'
  obtain ⟨p, hp, hpd⟩ := hm'
  obtain ⟨j, hj, hjp⟩ := List.getElem_of_mem hp
  have hjl : l[i + j]? = some p := by
    rw [List.getElem_drop] at hjp
    have : i + j < l.length := by simp at hj; omega
    rw [List.getElem?_eq_getElem this, hjp]
  obtain ⟨e, he, heo, hb⟩ := ok.ed i o (i + j) p y (by simpa using hi) (by simpa using hjl) hpd hy
  have := ok.lt i o (by simpa using hi) e he hb
  omega

/-- One write into a block that was there. -/
theorem cdraw_s {id : Nat} {l : List Oper} (i0 p : Nat) {tt ty : TypeId} {pos : String} {af : Array Edge} {x y : Operand} {off sz : Nat} {cs : List Lf} (hm : P.follows .mixedOrders = true) (hok : okDrawB l.toArray i0 = true) (hs : l[i0]? = some ⟨none, .store tt x y, ty, pos, af, none⟩) (hi : (P.info? tt).map (·.size) = some sz) (hp : m[p]? = some (.box cs))
    (h : DM P c (m.set p .dead) l.toArray none (fun T => opnd ⟨restr T (Oper.looksAt l.toArray ⟨none, .store tt x y, ty, pos, af, none⟩), m⟩ x = .s (.one (.lp p off)) ∧ ∃ v, opnd ⟨restr T (Oper.looksAt l.toArray ⟨none, .store tt x y, ty, pos, af, none⟩), m⟩ y = .s v ∧ v.cells.length = sz ∧ off + sz ≤ cs.length ∧ Q .normal ⟨T, m.set p (.box (putAt cs off v.cells))⟩) l t) :
    AWC P c (.region id l.toArray true) Q ⟨t, m⟩ := by
  have ok := drawOkB_of hok
  obtain ⟨T, ⟨hx, v, hy, hv, hfit, hQ⟩, hTt, hG⟩ := DM.get h (by simpa using ok.nodup) (later ok)
  have hpl : p < m.length := (List.getElem?_eq_some_iff.1 hp).1
  have hi0 : i0 < l.length := (List.getElem?_eq_some_iff.1 hs).1
  have hlift : ∀ listed : Array Bool, Lift (m.set p .dead) (if listed.getD i0 true = true then m.set p (.box (putAt cs off v.cells)) else m) := by
    intro listed
    by_cases hb : listed.getD i0 true = true
    · rw [if_pos hb]
      refine ⟨by simp, fun q b hq => ?_, fun q e sz k cs' hq => ?_⟩
      · by_cases e : p = q
        · subst e; rw [List.getElem?_set_self hpl] at hq; cases hq; exact .inl rfl
        · rw [List.getElem?_set_ne e] at hq ⊢; exact .inr hq
      · by_cases e : p = q
        · subst e; rw [List.getElem?_set_self hpl] at hq; cases hq
        · rw [List.getElem?_set_ne e] at hq ⊢; exact hq
    · rw [if_neg hb]
      refine ⟨by simp, fun q b hq => ?_, fun q e sz k cs' hq => ?_⟩
      · by_cases e : p = q
        · subst e; rw [List.getElem?_set_self hpl] at hq; cases hq; exact .inl rfl
        · rw [List.getElem?_set_ne e] at hq; exact .inr hq
      · by_cases e : p = q
        · subst e; rw [hp] at hq; cases hq
        · rw [List.getElem?_set_ne e]; exact hq
  refine draw_open (T := T) (md := m.set p .dead) (B := fun listed => if listed.getD i0 true = true then m.set p (.box (putAt cs off v.cells)) else m) (HI := fun _ _ => True) hm ok hlift (fun i o ho => ?_) hTt (fun a w S H r => ⟨H, ?_, trivial⟩) (fun listed hsz hall => ?_)
  · have ho' : l[i]? = some o := by simpa using ho
    by_cases hii : i = i0
    · subst hii
      rw [hs] at ho'
      cases ho'
      refine .inr ⟨rfl, fun listed hsz hun hmet a w S H r _ K Q' hK => ?_⟩
      dsimp only at r hK
      have hlook := TL_look (T := T) ok hsz ho hmet
      rw [hun, if_neg (by simp)] at r
      refine wp_store r hi (opnd_look hx hlook) (opnd_look hy hlook) hp hv hfit (fun w' r' => hK a w' S H ?_ trivial)
      rw [getD_set_eq (by rw [hsz]; simpa using hi0), if_pos rfl, ← TL_set_none ho rfl]
      exact r'
    · obtain ⟨d, hd⟩ := ok.dst i o ho hii
      obtain ⟨hlt, hg⟩ := hG i o ho' d hd
      rcases hg with ⟨_, hg, _⟩ | hg
      · cases hg
      · exact .inl ⟨⟨d, hd, hlt, hg⟩, fun listed => by dsimp only; rw [getD_set_ne (fun e => hii e.symm)], fun _ _ h => h⟩
  · have : (Array.replicate l.toArray.size false).getD i0 true = false := by simp [Array.getD_eq_getD_getElem?, hi0]
    rw [this, if_neg (by simp)]
    exact r
  · rw [hall i0 (by simpa using hi0), if_pos rfl]
    exact hQ

/-- One block laid in the region, and written. -/
theorem cdraw_as {id : Nat} {l : List Oper} (i0 ia : Nat) {d0 : Tmp} {ta tt ty ty' : TypeId} {pos pos' : String} {af af' : Array Edge} {x y : Operand} {zl : List Lf} (hm : P.follows .mixedOrders = true) (hok : okDrawB l.toArray i0 = true) (hs : l[i0]? = some ⟨none, .store tt x y, ty, pos, af, none⟩) (ha : l[ia]? = some ⟨some d0, .alloc ta, ty', pos', af', none⟩)
    (hafter : af.any (fun e => e.on == ia && Region.binds .any e) = true) (hi : (P.info? tt).map (·.size) = some zl.length) (zi : ZI P ta zl)
    (h : DM P c (m ++ [.dead]) l.toArray (some (d0, m.length)) (fun T => opnd ⟨restr T (Oper.looksAt l.toArray ⟨none, .store tt x y, ty, pos, af, none⟩), m⟩ x = .s (.one (.lp m.length 0)) ∧ T d0 = .s (.one (.lp m.length 0)) ∧ ∃ v, opnd ⟨restr T (Oper.looksAt l.toArray ⟨none, .store tt x y, ty, pos, af, none⟩), m⟩ y = .s v ∧ v.cells.length = zl.length ∧ Q .normal ⟨T, m ++ [.box v.cells]⟩) l t) :
    AWC P c (.region id l.toArray true) Q ⟨t, m⟩ := by
  have ok := drawOkB_of hok
  obtain ⟨T, ⟨hx, hT0, v, hy, hv, hQ⟩, hTt, hG⟩ := DM.get h (by simpa using ok.nodup) (later ok)
  have hi0 : i0 < l.length := (List.getElem?_eq_some_iff.1 hs).1
  have hia : ia < l.length := (List.getElem?_eq_some_iff.1 ha).1
  have hne : ia ≠ i0 := by intro e; subst e; rw [ha] at hs; cases hs
  have hput : putAt zl 0 v.cells = v.cells := by
    unfold putAt
    rw [List.take_zero, List.nil_append, List.drop_of_length_le (by omega), List.append_nil]
  have hlift : ∀ listed : Array Bool, Lift (m ++ [.dead]) (m ++ [if listed.getD ia true = true then (if listed.getD i0 true = true then .box v.cells else .box zl) else .dead]) := by
    intro listed
    refine ⟨by simp, fun q b hq => ?_, fun q e sz k cs' hq => ?_⟩
    · rcases Nat.lt_or_ge q m.length with hlt | hge
      · rw [List.getElem?_append_left hlt] at hq ⊢; exact .inr hq
      · rw [List.getElem?_append_right hge] at hq
        cases hqm : q - m.length with
        | zero => rw [hqm] at hq; cases hq; exact .inl rfl
        | succ n => rw [hqm] at hq; simp at hq
    · rcases Nat.lt_or_ge q m.length with hlt | hge
      · rw [List.getElem?_append_left hlt] at hq ⊢; exact hq
      · rw [List.getElem?_append_right hge] at hq
        cases hqm : q - m.length with
        | zero =>
          rw [hqm] at hq
          simp only [List.getElem?_cons_zero, Option.some.injEq] at hq
          split at hq
          · split at hq <;> cases hq
          · cases hq
        | succ n => rw [hqm] at hq; simp at hq
  have hset : ∀ b b' : Blk, (m ++ [b]).set m.length b' = m ++ [b'] := by
    intro b b'
    rw [List.set_append_right _ _ (Nat.le_refl _), Nat.sub_self]; rfl
  have hget : ∀ b : Blk, (m ++ [b])[m.length]? = some b := by
    intro b; rw [List.getElem?_append_right (Nat.le_refl _), Nat.sub_self]; rfl
  refine draw_open (T := T) (md := m ++ [.dead]) (B := fun listed => m ++ [if listed.getD ia true = true then (if listed.getD i0 true = true then .box v.cells else .box zl) else .dead]) (HI := fun listed H => listed.getD ia true = false → H m.length = undef ∧ listed.getD i0 true = false) hm ok hlift (fun i o ho => ?_) hTt (fun a w S H r => ⟨_, ?_, fun _ => ⟨setH_same H m.length undef, by simp [Array.getD_eq_getD_getElem?, hi0]⟩⟩) (fun listed hsz hall => ?_)
  · have ho' : l[i]? = some o := by simpa using ho
    by_cases hii : i = i0
    · subst hii
      rw [hs] at ho'
      cases ho'
      refine .inr ⟨rfl, fun listed hsz hun hmet a w S H r hH K Q' hK => ?_⟩
      dsimp only at r hK
      have hlook := TL_look (T := T) ok hsz ho hmet
      have hal : listed.getD ia true = true := by
        rw [Array.any_eq_true'] at hafter
        obtain ⟨e, he, hb⟩ := hafter
        simp only [Bool.and_eq_true, beq_iff_eq] at hb
        have h1 := hmet e he hb.2
        rw [hb.1] at h1
        simp only [Array.getD_eq_getD_getElem?] at h1 ⊢
        rw [Array.getElem?_eq_getElem (by rw [hsz]; simpa using hia)] at h1 ⊢
        exact h1
      rw [hal, hun, if_pos rfl, if_neg (by simp)] at r
      refine wp_store r hi (opnd_look hx hlook) (opnd_look hy hlook) (hget _) hv (by omega) (fun w' r' => hK a w' S H ?_ (fun hb => ?_))
      · rw [getD_set_eq (by rw [hsz]; simpa using hi0), getD_set_ne hne, hal, if_pos rfl, if_pos rfl, ← TL_set_none ho rfl]
        rw [hset, hput] at r'
        exact r'
      · rw [getD_set_ne hne, hal] at hb
        cases hb
    · by_cases hiia : i = ia
      · subst hiia
        rw [ha] at ho'
        cases ho'
        refine .inr ⟨rfl, fun listed hsz hun hmet a w S H r hH K Q' hK => ?_⟩
        dsimp only at r hK
        obtain ⟨hH1, hno⟩ := hH hun
        rw [hun, if_neg (by simp)] at r
        obtain ⟨hlt, _⟩ := hG i _ ha d0 rfl
        refine wp_alloc r zi hlt (hget _) hH1 (fun a' w' H' r' => hK a' w' S H' ?_ (fun hb => ?_))
        · rw [hset, ← hT0, TL_set ok hsz ho hun rfl] at r'
          rw [getD_set_eq (by rw [hsz]; simpa using hia), if_pos rfl, getD_set_ne (fun e => hne e.symm), hno, if_neg (by simp)]
          exact r'
        · rw [getD_set_eq (by rw [hsz]; simpa using hia)] at hb
          cases hb
      · obtain ⟨d, hd⟩ := ok.dst i o ho hii
        obtain ⟨hlt, hg⟩ := hG i o ho' d hd
        rcases hg with ⟨p, hg, _⟩ | hg
        · simp only [Option.some.injEq, Prod.mk.injEq] at hg
          have hq : o.dst = some d0 := hd.trans (by rw [hg.1])
          exact absurd hq (ok.ne i o ia _ ho (by simpa using ha) hiia)
        · refine .inl ⟨⟨d, hd, hlt, hg⟩, fun listed => by dsimp only; rw [getD_set_ne (fun e => hii e.symm), getD_set_ne (fun e => hiia e.symm)], fun listed H h hb => ?_⟩
          rw [getD_set_ne (fun e => hiia e.symm)] at hb
          rw [getD_set_ne (fun e => hii e.symm)]
          exact h hb
  · have : (Array.replicate l.toArray.size false).getD ia true = false := by simp [Array.getD_eq_getD_getElem?, hia]
    rw [this, if_neg (by simp)]
    exact r.reserve
  · rw [hall i0 (by simpa using hi0), hall ia (by simpa using hia), if_pos rfl, if_pos rfl]
    exact hQ

/-! Its steps -/
variable {md : List Blk} {ops : Array Oper} {al : Option (Tmp × Nat)} {k : (Nat → AV) → Prop} {rest : List Oper} {op : Op} {ty : TypeId} {pos : String} {af : Array Edge} {d : Tmp} {x : AV}

theorem mnil (h : k t) : DM P c md ops al k [] t := h
theorem mv (hd : decide (d < c.nt) = true) (h : OpV P c ⟨restr t (Oper.looksAt ops ⟨some d, op, ty, pos, af, none⟩), md⟩ op ty x) (kk : DM P c md ops al k rest (upd t d x)) : DM P c md ops al k (⟨some d, op, ty, pos, af, none⟩ :: rest) t :=
  .inl ⟨x, d, rfl, of_decide_eq_true hd, .inr (.inl ⟨.inl rfl, h.opD⟩), kk⟩
theorem mvg {j : Nat} {want : Bool} {dj : Tmp} (hd : decide (d < c.nt) = true) (hj : (ops[j]?).bind (·.dst) = some dj) (ht : t dj = .s (.one (.b want))) (h : OpV P c ⟨restr t (Oper.looksAt ops ⟨some d, op, ty, pos, af, some (j, want)⟩), md⟩ op ty x) (kk : DM P c md ops al k rest (upd t d x)) : DM P c md ops al k (⟨some d, op, ty, pos, af, some (j, want)⟩ :: rest) t :=
  .inl ⟨x, d, rfl, of_decide_eq_true hd, .inr (.inl ⟨.inr ⟨j, want, dj, rfl, hj, ht⟩, h.opD⟩), kk⟩
theorem mdd (hd : decide (d < c.nt) = true) (h : OpD P c ⟨restr t (Oper.looksAt ops ⟨some d, op, ty, pos, af, none⟩), md⟩ op ty x) (kk : DM P c md ops al k rest (upd t d x)) : DM P c md ops al k (⟨some d, op, ty, pos, af, none⟩ :: rest) t :=
  .inl ⟨x, d, rfl, of_decide_eq_true hd, .inr (.inl ⟨.inl rfl, h⟩), kk⟩
theorem mddg {j : Nat} {want : Bool} {dj : Tmp} (hd : decide (d < c.nt) = true) (hj : (ops[j]?).bind (·.dst) = some dj) (ht : t dj = .s (.one (.b want))) (h : OpD P c ⟨restr t (Oper.looksAt ops ⟨some d, op, ty, pos, af, some (j, want)⟩), md⟩ op ty x) (kk : DM P c md ops al k rest (upd t d x)) : DM P c md ops al k (⟨some d, op, ty, pos, af, some (j, want)⟩ :: rest) t :=
  .inl ⟨x, d, rfl, of_decide_eq_true hd, .inr (.inl ⟨.inr ⟨j, want, dj, rfl, hj, ht⟩, h⟩), kk⟩
theorem moff {j : Nat} {want b : Bool} {dj : Tmp} (hd : decide (d < c.nt) = true) (hj : (ops[j]?).bind (·.dst) = some dj) (ht : t dj = .s (.one (.b b))) (hb : (b == want) = false) (kk : DM P c md ops al k rest (upd t d (.tup []))) : DM P c md ops al k (⟨some d, op, ty, pos, af, some (j, want)⟩ :: rest) t :=
  .inl ⟨.tup [], d, rfl, of_decide_eq_true hd, .inr (.inr ⟨⟨j, want, dj, rfl, hj, .inr ⟨b, ht, hb⟩⟩, rfl⟩), kk⟩
theorem moffu {j : Nat} {want : Bool} {dj : Tmp} (hd : decide (d < c.nt) = true) (hj : (ops[j]?).bind (·.dst) = some dj) (ht : t dj = .tup []) (kk : DM P c md ops al k rest (upd t d (.tup []))) : DM P c md ops al k (⟨some d, op, ty, pos, af, some (j, want)⟩ :: rest) t :=
  .inl ⟨.tup [], d, rfl, of_decide_eq_true hd, .inr (.inr ⟨⟨j, want, dj, rfl, hj, .inl ht⟩, rfl⟩), kk⟩
theorem mal {g : Option (Nat × Bool)} {p : Nat} (hd : decide (d < c.nt) = true) (kk : DM P c md ops (some (d, p)) k rest (upd t d (.s (.one (.lp p 0))))) : DM P c md ops (some (d, p)) k (⟨some d, op, ty, pos, af, g⟩ :: rest) t :=
  .inl ⟨_, d, rfl, of_decide_eq_true hd, .inl ⟨p, rfl, rfl⟩, kk⟩
theorem mst {g : Option (Nat × Bool)} (kk : DM P c md ops al k rest t) : DM P c md ops al k (⟨none, op, ty, pos, af, g⟩ :: rest) t := .inr ⟨rfl, kk⟩
theorem msplit {l : List Oper} (dj : Tmp) {b : Bool} (ht : t dj = .s (.one (.b b))) (k1 : b = true → DM P c md ops al k l (upd t dj (.s (.one (.b true))))) (k0 : b = false → DM P c md ops al k l (upd t dj (.s (.one (.b false))))) : DM P c md ops al k l t := by
  cases b
  · have := k0 rfl; rwa [upd_same ht] at this
  · have := k1 rfl; rwa [upd_same ht] at this
end
end Go.Proofs.Ytaffjoloefhodaa.Abs

/-
  The unsigned kinds' digits, kind by kind.
-/
namespace Go.Proofs.Ytaffjoloefhodaa.Abs
open Go.RowKit

section
variable {P : Program} {c : Ctx} {st : AS} {k2 : IntKind} {n m : Int} {x y : Operand} {xt yt ty : TypeId}
theorem opv_and_u64 {a b : BitVec 64} (hx : opnd st x = .s (.one (.i .u64 n))) (hn : n = (a.toNat : Int)) (hy : opnd st y = .s (.one (.i .u64 m))) (hm : m = (b.toNat : Int)) : OpV P c st (.binOp .and xt x y yt) ty (.s (.one (.i .u64 ((a &&& b).toNat : Int)))) := opv_and_u (k := .u64) rfl hx hn hy hm
theorem opv_or_u64 {a b : BitVec 64} (hx : opnd st x = .s (.one (.i .u64 n))) (hn : n = (a.toNat : Int)) (hy : opnd st y = .s (.one (.i .u64 m))) (hm : m = (b.toNat : Int)) : OpV P c st (.binOp .or xt x y yt) ty (.s (.one (.i .u64 ((a ||| b).toNat : Int)))) := opv_or_u (k := .u64) rfl hx hn hy hm
theorem opv_xor_u64 {a b : BitVec 64} (hx : opnd st x = .s (.one (.i .u64 n))) (hn : n = (a.toNat : Int)) (hy : opnd st y = .s (.one (.i .u64 m))) (hm : m = (b.toNat : Int)) : OpV P c st (.binOp .xor xt x y yt) ty (.s (.one (.i .u64 ((a ^^^ b).toNat : Int)))) := opv_xor_u (k := .u64) rfl hx hn hy hm
theorem opv_add_u64 {a b : BitVec 64} (hx : opnd st x = .s (.one (.i .u64 n))) (hn : n = (a.toNat : Int)) (hy : opnd st y = .s (.one (.i .u64 m))) (hm : m = (b.toNat : Int)) : OpV P c st (.binOp .add xt x y yt) ty (.s (.one (.i .u64 ((a + b).toNat : Int)))) := opv_add_u (k := .u64) rfl hx hn hy hm
theorem opv_mul_u64 {a b : BitVec 64} (hx : opnd st x = .s (.one (.i .u64 n))) (hn : n = (a.toNat : Int)) (hy : opnd st y = .s (.one (.i .u64 m))) (hm : m = (b.toNat : Int)) : OpV P c st (.binOp .mul xt x y yt) ty (.s (.one (.i .u64 ((a * b).toNat : Int)))) := opv_mul_u (k := .u64) rfl hx hn hy hm
theorem opv_shr_u64 {a : BitVec 64} (hx : opnd st x = .s (.one (.i .u64 n))) (hn : n = (a.toNat : Int)) (hy : opnd st y = .s (.one (.i k2 m))) (h0 : 0 ≤ m) : OpV P c st (.binOp .shr xt x y yt) ty (.s (.one (.i .u64 ((a >>> m.toNat).toNat : Int)))) := opv_shr_u (k := .u64) hx hn hy h0
theorem opv_shl_u64 {a : BitVec 64} (hx : opnd st x = .s (.one (.i .u64 n))) (hn : n = (a.toNat : Int)) (hy : opnd st y = .s (.one (.i k2 m))) (h0 : 0 ≤ m) : OpV P c st (.binOp .shl xt x y yt) ty (.s (.one (.i .u64 ((a <<< m.toNat).toNat : Int)))) := opv_shl_u (k := .u64) rfl hx hn hy h0
theorem opv_and_u32 {a b : BitVec 32} (hx : opnd st x = .s (.one (.i .u32 n))) (hn : n = (a.toNat : Int)) (hy : opnd st y = .s (.one (.i .u32 m))) (hm : m = (b.toNat : Int)) : OpV P c st (.binOp .and xt x y yt) ty (.s (.one (.i .u32 ((a &&& b).toNat : Int)))) := opv_and_u (k := .u32) rfl hx hn hy hm
theorem opv_or_u32 {a b : BitVec 32} (hx : opnd st x = .s (.one (.i .u32 n))) (hn : n = (a.toNat : Int)) (hy : opnd st y = .s (.one (.i .u32 m))) (hm : m = (b.toNat : Int)) : OpV P c st (.binOp .or xt x y yt) ty (.s (.one (.i .u32 ((a ||| b).toNat : Int)))) := opv_or_u (k := .u32) rfl hx hn hy hm
theorem opv_xor_u32 {a b : BitVec 32} (hx : opnd st x = .s (.one (.i .u32 n))) (hn : n = (a.toNat : Int)) (hy : opnd st y = .s (.one (.i .u32 m))) (hm : m = (b.toNat : Int)) : OpV P c st (.binOp .xor xt x y yt) ty (.s (.one (.i .u32 ((a ^^^ b).toNat : Int)))) := opv_xor_u (k := .u32) rfl hx hn hy hm
theorem opv_add_u32 {a b : BitVec 32} (hx : opnd st x = .s (.one (.i .u32 n))) (hn : n = (a.toNat : Int)) (hy : opnd st y = .s (.one (.i .u32 m))) (hm : m = (b.toNat : Int)) : OpV P c st (.binOp .add xt x y yt) ty (.s (.one (.i .u32 ((a + b).toNat : Int)))) := opv_add_u (k := .u32) rfl hx hn hy hm
theorem opv_mul_u32 {a b : BitVec 32} (hx : opnd st x = .s (.one (.i .u32 n))) (hn : n = (a.toNat : Int)) (hy : opnd st y = .s (.one (.i .u32 m))) (hm : m = (b.toNat : Int)) : OpV P c st (.binOp .mul xt x y yt) ty (.s (.one (.i .u32 ((a * b).toNat : Int)))) := opv_mul_u (k := .u32) rfl hx hn hy hm
theorem opv_shr_u32 {a : BitVec 32} (hx : opnd st x = .s (.one (.i .u32 n))) (hn : n = (a.toNat : Int)) (hy : opnd st y = .s (.one (.i k2 m))) (h0 : 0 ≤ m) : OpV P c st (.binOp .shr xt x y yt) ty (.s (.one (.i .u32 ((a >>> m.toNat).toNat : Int)))) := opv_shr_u (k := .u32) hx hn hy h0
theorem opv_shl_u32 {a : BitVec 32} (hx : opnd st x = .s (.one (.i .u32 n))) (hn : n = (a.toNat : Int)) (hy : opnd st y = .s (.one (.i k2 m))) (h0 : 0 ≤ m) : OpV P c st (.binOp .shl xt x y yt) ty (.s (.one (.i .u32 ((a <<< m.toNat).toNat : Int)))) := opv_shl_u (k := .u32) rfl hx hn hy h0
theorem opv_and_u8 {a b : BitVec 8} (hx : opnd st x = .s (.one (.i .u8 n))) (hn : n = (a.toNat : Int)) (hy : opnd st y = .s (.one (.i .u8 m))) (hm : m = (b.toNat : Int)) : OpV P c st (.binOp .and xt x y yt) ty (.s (.one (.i .u8 ((a &&& b).toNat : Int)))) := opv_and_u (k := .u8) rfl hx hn hy hm
theorem opv_or_u8 {a b : BitVec 8} (hx : opnd st x = .s (.one (.i .u8 n))) (hn : n = (a.toNat : Int)) (hy : opnd st y = .s (.one (.i .u8 m))) (hm : m = (b.toNat : Int)) : OpV P c st (.binOp .or xt x y yt) ty (.s (.one (.i .u8 ((a ||| b).toNat : Int)))) := opv_or_u (k := .u8) rfl hx hn hy hm
theorem opv_xor_u8 {a b : BitVec 8} (hx : opnd st x = .s (.one (.i .u8 n))) (hn : n = (a.toNat : Int)) (hy : opnd st y = .s (.one (.i .u8 m))) (hm : m = (b.toNat : Int)) : OpV P c st (.binOp .xor xt x y yt) ty (.s (.one (.i .u8 ((a ^^^ b).toNat : Int)))) := opv_xor_u (k := .u8) rfl hx hn hy hm
theorem opv_add_u8 {a b : BitVec 8} (hx : opnd st x = .s (.one (.i .u8 n))) (hn : n = (a.toNat : Int)) (hy : opnd st y = .s (.one (.i .u8 m))) (hm : m = (b.toNat : Int)) : OpV P c st (.binOp .add xt x y yt) ty (.s (.one (.i .u8 ((a + b).toNat : Int)))) := opv_add_u (k := .u8) rfl hx hn hy hm
theorem opv_mul_u8 {a b : BitVec 8} (hx : opnd st x = .s (.one (.i .u8 n))) (hn : n = (a.toNat : Int)) (hy : opnd st y = .s (.one (.i .u8 m))) (hm : m = (b.toNat : Int)) : OpV P c st (.binOp .mul xt x y yt) ty (.s (.one (.i .u8 ((a * b).toNat : Int)))) := opv_mul_u (k := .u8) rfl hx hn hy hm
theorem opv_shr_u8 {a : BitVec 8} (hx : opnd st x = .s (.one (.i .u8 n))) (hn : n = (a.toNat : Int)) (hy : opnd st y = .s (.one (.i k2 m))) (h0 : 0 ≤ m) : OpV P c st (.binOp .shr xt x y yt) ty (.s (.one (.i .u8 ((a >>> m.toNat).toNat : Int)))) := opv_shr_u (k := .u8) hx hn hy h0
theorem opv_shl_u8 {a : BitVec 8} (hx : opnd st x = .s (.one (.i .u8 n))) (hn : n = (a.toNat : Int)) (hy : opnd st y = .s (.one (.i k2 m))) (h0 : 0 ≤ m) : OpV P c st (.binOp .shl xt x y yt) ty (.s (.one (.i .u8 ((a <<< m.toNat).toNat : Int)))) := opv_shl_u (k := .u8) rfl hx hn hy h0
theorem opv_and_u16 {a b : BitVec 16} (hx : opnd st x = .s (.one (.i .u16 n))) (hn : n = (a.toNat : Int)) (hy : opnd st y = .s (.one (.i .u16 m))) (hm : m = (b.toNat : Int)) : OpV P c st (.binOp .and xt x y yt) ty (.s (.one (.i .u16 ((a &&& b).toNat : Int)))) := opv_and_u (k := .u16) rfl hx hn hy hm
theorem opv_or_u16 {a b : BitVec 16} (hx : opnd st x = .s (.one (.i .u16 n))) (hn : n = (a.toNat : Int)) (hy : opnd st y = .s (.one (.i .u16 m))) (hm : m = (b.toNat : Int)) : OpV P c st (.binOp .or xt x y yt) ty (.s (.one (.i .u16 ((a ||| b).toNat : Int)))) := opv_or_u (k := .u16) rfl hx hn hy hm
theorem opv_xor_u16 {a b : BitVec 16} (hx : opnd st x = .s (.one (.i .u16 n))) (hn : n = (a.toNat : Int)) (hy : opnd st y = .s (.one (.i .u16 m))) (hm : m = (b.toNat : Int)) : OpV P c st (.binOp .xor xt x y yt) ty (.s (.one (.i .u16 ((a ^^^ b).toNat : Int)))) := opv_xor_u (k := .u16) rfl hx hn hy hm
theorem opv_add_u16 {a b : BitVec 16} (hx : opnd st x = .s (.one (.i .u16 n))) (hn : n = (a.toNat : Int)) (hy : opnd st y = .s (.one (.i .u16 m))) (hm : m = (b.toNat : Int)) : OpV P c st (.binOp .add xt x y yt) ty (.s (.one (.i .u16 ((a + b).toNat : Int)))) := opv_add_u (k := .u16) rfl hx hn hy hm
theorem opv_mul_u16 {a b : BitVec 16} (hx : opnd st x = .s (.one (.i .u16 n))) (hn : n = (a.toNat : Int)) (hy : opnd st y = .s (.one (.i .u16 m))) (hm : m = (b.toNat : Int)) : OpV P c st (.binOp .mul xt x y yt) ty (.s (.one (.i .u16 ((a * b).toNat : Int)))) := opv_mul_u (k := .u16) rfl hx hn hy hm
theorem opv_shr_u16 {a : BitVec 16} (hx : opnd st x = .s (.one (.i .u16 n))) (hn : n = (a.toNat : Int)) (hy : opnd st y = .s (.one (.i k2 m))) (h0 : 0 ≤ m) : OpV P c st (.binOp .shr xt x y yt) ty (.s (.one (.i .u16 ((a >>> m.toNat).toNat : Int)))) := opv_shr_u (k := .u16) hx hn hy h0
theorem opv_shl_u16 {a : BitVec 16} (hx : opnd st x = .s (.one (.i .u16 n))) (hn : n = (a.toNat : Int)) (hy : opnd st y = .s (.one (.i k2 m))) (h0 : 0 ≤ m) : OpV P c st (.binOp .shl xt x y yt) ty (.s (.one (.i .u16 ((a <<< m.toNat).toNat : Int)))) := opv_shl_u (k := .u16) rfl hx hn hy h0
end

/-- The same, the block told by what the pointer holds. -/
theorem cdraw_st {P : Program} {c : Ctx} {t : Nat → AV} {m : List Blk} {Q : Exit → AS → Prop} {id : Nat} {l : List Oper} (i0 : Nat) {p : Nat} {tt ty : TypeId} {pos : String} {af : Array Edge} {x y : Operand} {off sz : Nat} {cs : List Lf} (hm : P.follows .mixedOrders = true) (hok : okDrawB l.toArray i0 = true) (hs : l[i0]? = some ⟨none, .store tt x y, ty, pos, af, none⟩) (hi : (P.info? tt).map (·.size) = some sz) (_hx : opnd ⟨t, m⟩ x = .s (.one (.lp p off))) (hp : m[p]? = some (.box cs))
    (h : DM P c (m.set p .dead) l.toArray none (fun T => opnd ⟨restr T (Oper.looksAt l.toArray ⟨none, .store tt x y, ty, pos, af, none⟩), m⟩ x = .s (.one (.lp p off)) ∧ ∃ v, opnd ⟨restr T (Oper.looksAt l.toArray ⟨none, .store tt x y, ty, pos, af, none⟩), m⟩ y = .s v ∧ v.cells.length = sz ∧ off + sz ≤ cs.length ∧ Q .normal ⟨T, m.set p (.box (putAt cs off v.cells))⟩) l t) :
    AWC P c (.region id l.toArray true) Q ⟨t, m⟩ := cdraw_s i0 p hm hok hs hi hp h

theorem blk_inb {n : Nat} {l : List Blk} (h : l.all (fun b => match b with | .box cs => cs.all (·.inb n) | _ => true) = true) : ∀ b ∈ l, b.inb n := by
  intro b hb
  have h1 := List.all_eq_true.1 h b hb
  cases b with
  | dead => trivial
  | arr e sz k cs => trivial
  | box cs => exact fun x hx => List.all_eq_true.1 h1 x hx

theorem zi_of {P : Program} {t : TypeId} {zl : List Lf} (h : ((P.info? t).bind (·.zero)).map (fun z => (z.cells.toList.map clf, z.cells.all (·.oneCell'))) = some (zl, true)) : ZI P t zl := by
  cases hi : P.info? t with
  | none => rw [hi] at h; cases h
  | some i =>
    rw [hi] at h
    cases hz : i.zero with
    | none => simp [hz] at h
    | some z =>
      simp only [Option.bind_some, hz, Option.map_some, Option.some.injEq, Prod.mk.injEq] at h
      exact ⟨i, z, hi, hz, h.1, h.2⟩

theorem ei_of {P : Program} {e sz bytes : Nat} {zl : List Lf} (h : (P.info? e).bind (fun i => i.zero.map fun z => (i.size, i.bytes, z.cells.size, z.cells.toList.map clf, z.cells.all (·.oneCell'))) = some (sz, bytes, sz, zl, true)) (hp : 0 < sz) : EI P e sz bytes zl := by
  cases hi : P.info? e with
  | none => rw [hi] at h; cases h
  | some i =>
    rw [hi] at h
    cases hz : i.zero with
    | none => simp [hz] at h
    | some z =>
      simp only [Option.bind_some, hz, Option.map_some, Option.some.injEq, Prod.mk.injEq] at h
      exact ⟨⟨i, z, hi, hz, h.1, h.2.1, h.2.2.1, h.2.2.2.1, h.2.2.2.2⟩, hp⟩

theorem lit_i64 {n : Int} (h : (Lit.int .i64 n).wf = true) : -9223372036854775808 ≤ n ∧ n ≤ 9223372036854775807 := by
  simpa [Lit.wf, IntKind.min, IntKind.max, IntKind.bits, IntKind.signed] using h
/-- A row of integers' leaves. -/
theorem rows_ints {rows : List (List Lf)} (h : ∀ r ∈ rows, Fits (.int .i64) r) : ∃ xs : List Int, (∀ x ∈ xs, -9223372036854775808 ≤ x ∧ x ≤ 9223372036854775807) ∧ rows = xs.map fun n => [.i .i64 n] := by
  induction rows with
  | nil => exact ⟨[], fun x hx => by simp at hx, rfl⟩
  | cons r rows ih =>
    obtain ⟨xs, h1, h2⟩ := ih (fun r' hr => h r' (List.mem_cons_of_mem _ hr))
    obtain ⟨n, hn, h3⟩ := h r (List.mem_cons_self ..)
    refine ⟨n :: xs, fun x hx => ?_, by rw [h2, h3]; rfl⟩
    rcases List.mem_cons.1 hx with rfl | hx
    · exact lit_i64 hn
    · exact h1 x hx
theorem flat_ints (xs : List Int) : (xs.map fun n => [Lf.i .i64 n]).flatten = xs.map fun n => .i .i64 n := by
  induction xs with
  | nil => rfl
  | cons x xs ih => simp [ih]

theorem ndec_t {p : Prop} [Decidable p] (h : (!decide p) = true) : ¬ p := by simpa using h
theorem ndec_f {p : Prop} [Decidable p] (h : (!decide p) = false) : p := by simpa using h
theorem bnot_t {b : Bool} (h : (!b) = true) : b = false := by simpa using h
theorem bnot_f {b : Bool} (h : (!b) = false) : b = true := by simpa using h
theorem avb {x y : Bool} (h : x = y) : AV.s (.one (.b x)) = .s (.one (.b y)) := by rw [h]

/-- A published leaf, nil told as a slice of nothing. -/
def Lf.canon : Lf → Lf
  | .raw (.slice none 0 0) => .sl 0 []
  | l => l
def SV.canon : SV → SV
  | .one l => .one l.canon
  | .agg ls => .agg (ls.map Lf.canon)
theorem canon_pub {m : List Blk} {l : Lf} (h : l.pubd = true) : PubL m l l.canon m := by
  unfold Lf.canon
  split
  · exact .nil
  · exact .id _ h
theorem pubC {m : List Blk} {xs : List SV} (h : xs.all (fun x => x.cells.all Lf.pubd) = true) : PubA m xs (xs.map SV.canon) m := by
  induction xs with
  | nil => exact .nil m
  | cons x xs ih =>
    simp only [List.all_cons, Bool.and_eq_true] at h
    refine .cons m m m x x.canon xs _ ?_ (ih h.2)
    cases x with
    | one l => exact .one _ _ _ _ (canon_pub (by simpa [SV.cells] using h.1))
    | agg ls =>
      refine .agg _ _ _ _ ?_
      have h1 := List.all_eq_true.1 h.1
      simp only [SV.cells] at h1
      clear h
      induction ls with
      | nil => exact .nil m
      | cons l ls ih2 => exact .cons m m m l l.canon ls _ (canon_pub (h1 l (List.mem_cons_self ..))) (ih2 (fun l' hl => h1 l' (List.mem_cons_of_mem _ hl)))

theorem pubA_id {m : List Blk} {xs : List SV} (h : xs.all (fun x => x.cells.all Lf.pubd) = true) : PubA m xs xs m := by
  induction xs with
  | nil => exact .nil m
  | cons x xs ih =>
    simp only [List.all_cons, Bool.and_eq_true] at h
    refine .cons m m m x x xs xs ?_ (ih h.2)
    cases x with
    | one l => exact .one _ _ _ _ (.id _ (by simpa [SV.cells] using h.1))
    | agg ls => exact .agg _ _ _ _ (.all _ _ (List.all_eq_true.1 h.1))

section
variable {P : Program} {c : Ctx} {st : AS} {x y b : Operand} {v : SV} {ty : TypeId}
theorem opv_mv (h : opnd st x = .s v) : OpV P c st (.move x) ty (.s v) := h ▸ opv_move
theorem opv_mvt {xs : List SV} (h : opnd st x = .tup xs) : OpV P c st (.move x) ty (.tup xs) := h ▸ opv_move
theorem opv_as (h : opnd st x = .s v) : OpV P c st (.assign x) ty (.s v) := h ▸ opv_assign
theorem opv_ast {xs : List SV} (h : opnd st x = .tup xs) : OpV P c st (.assign x) ty (.tup xs) := h ▸ opv_assign
theorem opv_pick_t (hb : opnd st b = .s (.one (.b true))) (h : opnd st x = .s v) : OpV P c st (.pick b x y) ty (.s v) := by
  have := opv_pick (P := P) (c := c) (ty := ty) (x := x) (y := y) hb
  rw [if_pos rfl, h] at this
  exact this
theorem opv_pick_f (hb : opnd st b = .s (.one (.b false))) (h : opnd st y = .s v) : OpV P c st (.pick b x y) ty (.s v) := by
  have := opv_pick (P := P) (c := c) (ty := ty) (x := x) (y := y) hb
  rw [if_neg (by simp), h] at this
  exact this
end

theorem pi_of {P : Program} {t : TypeId} {pl : List (Nat × Nat)} {fs : Array Field} (hu : P.underlying t = some (.struct fs)) (hs : fs.size = pl.length)
    (h : ((List.range pl.length).all fun j => match fs[j]?, pl[j]? with | some f, some q => f.offset == q.1 && ((P.info? f.type).map (·.size) == some q.2) | _, _ => false) = true) : PI P t pl := by
  refine ⟨fs, hu, hs, fun j f q hf hq => ?_⟩
  have hj : j < pl.length := (List.getElem?_eq_some_iff.1 hq).1
  have := List.all_eq_true.1 h j (List.mem_range.2 hj)
  rw [hf, hq] at this
  simpa using this
end Go.Proofs.Ytaffjoloefhodaa.Abs

/-
  Rows of bytes: constants' rows, comparison.
-/
namespace Go.Proofs.Ytaffjoloefhodaa.Abs
open Go.RowKit

theorem freeze_size (w : World) (p : Addr) (n : Nat) : (w.freeze p n).heap.size = w.heap.size := by
  unfold World.freeze; split <;> simp
theorem freeze_other (w : World) (p : Addr) (n : Nat) {b : Nat} (h : b ≠ p.block) : (w.freeze p n).heap[b]? = w.heap[b]? := by
  unfold World.freeze
  split
  · rfl
  · simp only [Array.getElem?_modify]
    rw [if_neg (fun e => h e.symm)]
theorem freeze_cell (w : World) (p : Addr) (n : Nat) (a : Addr) : (w.freeze p n).cell? a = w.cell? a := by
  by_cases hb : a.block = p.block
  · unfold World.freeze
    split
    · rfl
    · unfold World.cell?
      simp only [Array.getElem?_modify, hb, if_true]
      cases w.heap[p.block]? with
      | none => rfl
      | some o => cases o <;> rfl
  · unfold World.cell?
    rw [freeze_other w p n hb]
theorem freeze_os (w : World) (p : Addr) (n : Nat) : (w.freeze p n).os = w.os ∧ (w.freeze p n).tape = w.tape ∧ (w.freeze p n).output = w.output := by
  unfold World.freeze; split <;> exact ⟨rfl, rfl, rfl⟩

section
variable {P : Program} {c : Ctx} {t : Nat → AV} {m : List Blk} {ops : Array Oper} {Q : Exit → AS → Prop} {rest : List Oper} {ty : TypeId} {pos : String} {af : Array Edge} {d : Tmp}

/-- A constant's bytes, turned into a slice of their own kind: the row is written no more. -/
theorem sconv_id {tt e : TypeId} {x : Operand} {p n e' sz k : Nat} {cs : List Lf} (hd : decide (d < c.nt) = true) (su : P.underlying tt = some (.slice e)) (eu : P.underlying e = some (.int .u8)) (hx : opnd ⟨t, m⟩ x = .s (.one (.ls p n))) (hm : m[p]? = some (.arr e' sz k cs)) (hn : n * sz = cs.length) (hpos : 0 < n)
    (kk : AWL P c ops Q rest ⟨upd t d (.s (.one (.sl n cs))), m.set p .dead⟩) : AWL P c ops Q (⟨some d, .convert tt tt x, ty, pos, af, none⟩ :: rest) ⟨t, m⟩ := by
  intro a w S H r
  have hx' := opnd_rel r x
  rw [hx] at hx'
  obtain ⟨hp, _, hr⟩ := hx'
  have hv : a.eval x = H p := (hr _ _ _ _ hm).2 hn
  obtain ⟨hsz, hk, n0, vals, hown, hls, hst⟩ := r.bl p _ hm
  obtain ⟨S', r1, hsub, hrep⟩ := r.pub hm
  have hrep := hrep n hn
  obtain ⟨hvl, hcase⟩ := hown
  rcases hcase with ⟨_, h0⟩ | ⟨g, cap, cur, hHp, hbg, hgg, hnc, hcm, hcs, htake⟩
  · have : n * sz = 0 := by rw [hn, hls.1, hvl, h0, Nat.zero_mul]
    have := Nat.mul_pos hpos hsz
    omega
  · have hcell := freeze_cell w ⟨g, cur.size, none⟩ 1
    have hoth := fun b => freeze_other w ⟨g, cur.size, none⟩ 1 (b := b)
    have hsize := freeze_size w ⟨g, cur.size, none⟩ 1
    obtain ⟨ho1, ho2, ho3⟩ := freeze_os w ⟨g, cur.size, none⟩ 1
    have hrun : (execOp a.eval ⟨some d, .convert tt tt x, ty, pos, af, none⟩).run P w = .ok (.value (H p)) (w.freeze ⟨g, cur.size, none⟩ 1) := by
      have hsh : w.shape? g = some (e', cur.size) := by unfold World.shape?; rw [hgg]
      simp only [execOp, hv, hHp]
      simp [convert, run_underlying su, run_underlying eu, markStringish, hsh]
    generalize hw' : w.freeze ⟨g, cur.size, none⟩ 1 = w' at *
    have hset : (m.set p (Blk.arr e' sz cs.length cs)).set p .dead = m.set p .dead := by simp
    have r2 : Rel c ⟨t, m.set p .dead⟩ a w' S' (setH H p undef) := by
      refine r1.change (p := p) (b' := .dead) (v := undef) (by simp) (by simp [hp]) (fun q hq => ?_) (fun b i h => ⟨h, hcell _⟩) (fun g' _ h => by rw [hHp] at h; cases h) (fun e sz k cs _ h => by cases h)
        (fun g' _ hne => hoth g' (fun e => ?_)) trivial (fun g' hg => by cases hg) (fun q b g i _ _ _ h => h) (fun g i _ h => h) (fun b i hs => by rw [hsize]; exact r1.sl b i hs) (by rw [hsize]; exact Nat.le_refl _) ho1 ho2 ho3
      · simp only
        rw [List.getElem?_set_ne (fun e => hq e.symm), List.getElem?_set_ne (fun e => hq e.symm)]
      · have e' : g' = g := e
        subst e'
        exact hne _ (List.getElem?_set_self hp) (by rw [hHp]; rfl)
    refine wpList_plain rfl fun K hK => ?_
    unfold Oper.wp
    rw [hrun]
    refine hK _ _ (kk _ _ _ _ (r2.put (d := d) (x := .s (.one (.sl n cs))) (of_decide_eq_true hd) ?_))
    exact GRep.of_rep (m := m.set p .dead) (H := setH H p undef) (Rep.mono (fun b i h => ⟨h, hcell _⟩) hrep)

/-- A row of one-cell parts. -/
theorem sbuild2 {t' e bytes : Nat} {zl : List Lf} {o0 o1 : Operand} {l0 l1 : Lf} (hd : decide (d < c.nt) = true) (si : P.underlying t' = some (.slice e)) (ei : EI P e 1 bytes zl) (h0 : opnd ⟨t, m⟩ o0 = .s (.one l0)) (h1 : opnd ⟨t, m⟩ o1 = .s (.one l1)) (hp : (l0.pubd && l1.pubd) = true)
    (k : AWL P c ops Q rest ⟨upd t d (.s (.one (.ls m.length 2))), m ++ [.arr e 1 0 [l0, l1]]⟩) : AWL P c ops Q (⟨some d, .buildSlice t' 2 #[(0, o0), (1, o1)], ty, pos, af, none⟩ :: rest) ⟨t, m⟩ := by
  rw [Bool.and_eq_true] at hp
  have hput : putAt (putAt (mkLs zl (2 * 1)) (0 * 1) [l0]) (1 * 1) [l1] = [l0, l1] := by
    have hl : (mkLs zl (2 * 1)).length = 2 := mkLs_length ..
    match hm : mkLs zl (2 * 1), hl with
    | [a, b], _ => rfl
  refine awl_buildSlice (xs := [(0, .one l0), (1, .one l1)]) si ei (parts_cons h0 (parts_cons h1 parts_nil)) (fun y h => ?_) ?_ (fun l h => ?_) (by decide) (of_decide_eq_true hd) k
  · simp at h
    rcases h with rfl | rfl
    · intro l hl; simp [SV.cells] at hl; subst hl; exact hp.1
    · intro l hl; simp [SV.cells] at hl; subst hl; exact hp.2
  · refine Built.cons _ _ 0 (0 * 1) 1 _ _ rfl rfl (by rw [mkLs_length]; omega) ?_
    refine Built.cons _ _ 1 (1 * 1) 1 _ _ rfl rfl ?_ ?_
    · show 1 * 1 + 1 ≤ (putAt (mkLs zl (2 * 1)) (0 * 1) [l0]).length
      have hl : (mkLs zl (2 * 1)).length = 2 := mkLs_length ..
      match hm : mkLs zl (2 * 1), hl with
      | [a, b], _ => exact Nat.le_refl 2
    · show Built _ (putAt (putAt (mkLs zl (2 * 1)) (0 * 1) [l0]) (1 * 1) [l1]) [] [l0, l1]
      rw [hput]; exact .nil _
  · simp at h
    rcases h with rfl | rfl
    · exact hp.1
    · exact hp.2
end

theorem opv_neg_ok {P : Program} {c : Ctx} {st : AS} {k : IntKind} {n : Int} {x : Operand} {xt ty : TypeId} (hx : opnd st x = .s (.one (.i k n))) (h : k.wrap (-n) = -n) : OpV P c st (.unOp .neg xt x) ty (.s (.one (.i k (-n)))) := by
  intro a w S H r
  have h1 := opnd_rel r x
  rw [hx] at h1
  have e1 : a.eval x = .int k n := rep_i h1
  exact ⟨.int k (-n), avr_rep (.i _ _), fun _ _ _ _ => by simp [execOp, e1, Op.unary, Op.intArith, h]⟩

/-- How two rows of bytes stand. -/
def cmpL : List UInt8 → List UInt8 → Int
  | [], [] => 0
  | [], _ :: _ => -1
  | _ :: _, [] => 1
  | x :: xs, y :: ys => if x < y then -1 else if y < x then 1 else cmpL xs ys

section
variable {P : Program} {w : World} {S : Stab}

theorem run_bytesOf {l : List UInt8} {v : Value} (h : Rep w S (.sl l.length (bl l)) v) : (Extern.Bytes.bytesOf v).run P w = .ok ⟨l.toArray⟩ w := by
  generalize hn : l.length = n at h
  generalize hb : bl l = cs at h
  cases h with
  | sl0 ad cap =>
    have : l = [] := List.eq_nil_of_length_eq_zero hn
    subst this
    cases ad <;> rfl
  | sl n cs bk off cap vals hc hm hs hr =>
    subst hn; subst hb
    have hl := Lib.run_loadBytesX (P := P) (w := w) (l.map fun b : UInt8 => (b.toNat : Int)) ⟨bk, off, none⟩ .empty (fun j x hj => by
      rw [List.getElem?_map] at hj
      cases hx : l[j]? with
      | none => rw [hx] at hj; cases hj
      | some b =>
        rw [hx] at hj
        cases hj
        have hbl : (bl l)[j]? = some (.i .u8 b.toNat) := by simp [bl, hx]
        have h1 := rep_i (hr j _ hbl)
        have e : (⟨bk, off, none⟩ : Addr).add j = ⟨bk, off + j, none⟩ := by unfold Addr.add; split <;> simp_all
        rw [e, (hs j _ hbl).2, h1])
    rw [List.length_map] at hl
    have e : Lib.bytesOf (l.map fun b : UInt8 => (b.toNat : Int)) = l := by
      unfold Lib.bytesOf
      rw [List.map_map]
      conv => rhs; rw [← List.map_id l]
      refine List.map_congr_left (fun b _ => ?_)
      show UInt8.ofNat ((b.toNat : Int)).toNat = b
      rw [Int.toNat_natCast]; exact UInt8.ofNat_toNat
    rw [e] at hl
    show (Extern.Bytes.loadBytes ⟨bk, off, none⟩ l.length .empty).run P w = _
    rw [hl]
    simp

theorem cmp_eq (a b : List UInt8) : Extern.BytealgCompare.cmp ⟨a.toArray⟩ ⟨b.toArray⟩ = cmpL a b := by
  have hget : ∀ (l : List UInt8) (i : Nat), (⟨l.toArray⟩ : ByteArray)[i]! = l[i]! := by
    intro l i
    by_cases h : i < l.length
    · rw [getElem!_pos (⟨l.toArray⟩ : ByteArray) i (by show i < l.toArray.size; simpa using h), getElem!_pos l i h]
      show l.toArray[i]'_ = l[i]
      simp
    · rw [getElem!_neg (⟨l.toArray⟩ : ByteArray) i (by show ¬ i < l.toArray.size; simpa using h), getElem!_neg l i h]
  unfold Extern.BytealgCompare.cmp
  simp only [hget]
  show (match (List.range (min a.length b.length)).find? fun i => a[i]! != b[i]! with
    | some i => if a[i]! < b[i]! then -1 else 1
    | none => if a.length < b.length then -1 else if a.length > b.length then 1 else 0) = cmpL a b
  induction a generalizing b with
  | nil => cases b <;> simp [cmpL]
  | cons x xs ih =>
    cases b with
    | nil => simp [cmpL]
    | cons y ys =>
      have hr : List.range (min (x :: xs).length (y :: ys).length) = 0 :: (List.range (min xs.length ys.length)).map (· + 1) := by
        rw [show min (x :: xs).length (y :: ys).length = min xs.length ys.length + 1 by simp [Nat.succ_min_succ], List.range_succ_eq_map]
      rw [hr, List.find?_cons]
      by_cases hxy : x = y
      · subst hxy
        have ih := ih ys
        simp only [List.find?_map]
        have hne : ((x :: xs)[0]! != (x :: ys)[0]!) = false := by simp
        rw [hne]
        simp only [cmpL, UInt8.lt_irrefl, if_false]
        rw [← ih]
        have hf : ((fun i => (x :: xs)[i]! != (x :: ys)[i]!) ∘ fun i => i + 1) = fun i => xs[i]! != ys[i]! := by
          funext i; simp
        rw [hf]
        cases (List.range (min xs.length ys.length)).find? fun i => xs[i]! != ys[i]! with
        | none => simp
        | some i => simp
      · have hne : ((x :: xs)[0]! != (y :: ys)[0]!) = true := by simp [hxy]
        rw [hne]
        simp only [cmpL]
        simp
        by_cases h1 : x < y
        · simp [h1]
        · have h2 : y < x := by
            rcases UInt8.lt_or_lt_of_ne hxy with h | h
            · exact absurd h h1
            · exact h
          simp [h1, h2]
end

/-- A function without a body, with an entry. -/
structure XI (P : Program) (f : FuncId) (e : Array Value → Sem Value) : Prop where
  h : ∃ fn, P.funcs[f]? = some fn ∧ (fn.name == "runtime.NumGoroutine") = false ∧ fn.body.isNone = true ∧ Extern.findNext fn = none ∧ Extern.find fn = some e

theorem opv_cmp {P : Program} {c : Ctx} {st : AS} {f : FuncId} {x y : Operand} {ats : Array TypeId} {ty : TypeId} {a b : List UInt8} (xi : XI P f Extern.BytealgCompare.compare) (hx : opnd st x = .s (.one (.sl a.length (bl a)))) (hy : opnd st y = .s (.one (.sl b.length (bl b)))) :
    OpV P c st (.call { callee := .value (.func f), args := #[x, y], argTypes := ats }) ty (.s (.one (.i .i64 (cmpL a b)))) := by
  intro ac w S H r
  have h1 := opnd_rel r x
  rw [hx] at h1
  have h2 := opnd_rel r y
  rw [hy] at h2
  have h1' : Rep w S (.sl a.length (bl a)) (ac.eval x) := h1
  have h2' : Rep w S (.sl b.length (bl b)) (ac.eval y) := h2
  refine ⟨.int .i64 (cmpL a b), avr_rep (.i _ _), fun dst pos af g => ?_⟩
  obtain ⟨fn, q1, q2, q3, q4, q5⟩ := xi.h
  have hrun : (Extern.BytealgCompare.compare #[ac.eval x, ac.eval y]).run P w = .ok (.int .i64 (cmpL a b)) w := by
    change Sem.run P (do
      let p ← Extern.Bytes.bytesOf (ac.eval x)
      let q ← Extern.Bytes.bytesOf (ac.eval y)
      pure (goInt (Extern.BytealgCompare.cmp p q))) w = _
    simp only [Sem.run_bind, run_bytesOf h1', run_bytesOf h2', Result.andThen_ok, cmp_eq, Sem.run_pure]
    rfl
  have hcall := run_callFunc_extern (P := P) q1 q2 q3 q4 q5 #[ac.eval x, ac.eval y] w
  rw [hrun] at hcall
  have e : ac.eval (.func f) = .func (.func f) #[] #[] := rfl
  simp only [execOp, resolve, e, Deferred.ofValue, invoke, List.map_toArray, List.map_cons, List.map_nil]
  simpa using hcall
end Go.Proofs.Ytaffjoloefhodaa.Abs

