/-
  Requests: what is written, what is read.
-/
import Derived.Test.YtljkjkkpogkgbaaDoorR05
namespace Go.Proofs.YtljkjkkpogkgbaaDoor.Abs

theorem RS.map {α β : Type} {R : Rdr α} {enc : α → List UInt8} {V : α → Prop} (h : RS R enc V) (f : α → β) (g : β → α) {V' : β → Prop} (h1 : ∀ x, V x → g (f x) = x ∧ V' (f x)) (h2 : ∀ y, V' y → V (g y) ∧ f (g y) = y) :
    RS (fun e p d => (R e p d).bind fun x => some (f x.1, x.2.1, x.2.2)) (fun y => enc (g y)) V' := by
  constructor
  intro e p d hp hd
  obtain ⟨v, e', p', r, l, k, s, c, t⟩ := h.run e p d hp hd
  refine ⟨f v, e', p', by simp only [r]; rfl, l, k, fun he => ?_, fun he u r' hu hr => ?_, fun he u x hu hx hne => ?_⟩
  · obtain ⟨a, b⟩ := s he
    obtain ⟨a1, a2⟩ := h1 v a
    exact ⟨a2, by rw [a1]; exact b⟩
  · obtain ⟨a1, a2⟩ := h2 u hu
    obtain ⟨b1, b2, b3⟩ := c he (g u) r' a1 hr
    exact ⟨by rw [b1, a2], b2, b3⟩
  · exact t he (g u) x (h2 u hu).1 hx hne

def okKind (k : Int) : Bool := decide (1 ≤ k) && decide (k ≤ 11)
theorem isKind_m (k : Int) : m47_msg_isKind k = some (okKind k) := by
  unfold m47_msg_isKind okKind
  by_cases h : 1 ≤ k
  · rw [if_pos (decide_eq_true h), decide_eq_true h]; rfl
  · rw [if_neg (by rw [decide_eq_true_eq]; exact h), decide_eq_false h]; rfl
def zparts : GMsgParts := ⟨false, false, false, false, false, false⟩
def parts (k : Int) : GMsgParts := if okKind k then (tab0[k.toNat]?).getD zparts else zparts
theorem partsOf_m (k : Int) : m32_msg_partsOf k = some (parts k) := by
  unfold m32_msg_partsOf parts
  rw [isKind_m]
  simp only [Option.bind_some]
  cases h : okKind k with
  | false => rfl
  | true =>
    simp only [okKind, Bool.and_eq_true, decide_eq_true_eq] at h
    rw [if_neg (by simp), if_pos rfl]
    have hl : k.toNat < tab0.length := by show k.toNat < 12; omega
    unfold idx
    rw [if_pos (by omega), List.getElem?_eq_getElem hl]
    rfl

/-- A kind that there is not. -/
def RK (k : Int) : Rdr Unit := fun e p _ => some ((), (if okKind k then e else if e = 0 then 3 else e), p)
theorem RK_rs (k : Int) : RS (RK k) (fun _ => []) (fun _ => okKind k = true) := by
  constructor
  intro e p d hp hd
  refine ⟨(), _, p, rfl, hp, fun he => ?_, fun he => ?_, fun he u r hu hr => ⟨rfl, ?_, ?_⟩, fun he u x hu hx hne => ?_⟩
  · split
    · rfl
    · first | rfl | rw [if_neg he]
  · cases hk : okKind k with
    | true => exact ⟨rfl, by simp⟩
    | false =>
      rw [hk] at he
      simp only [Bool.false_eq_true, if_false] at he
      split at he
      · cases he
      · contradiction
  · rw [if_pos hu]; exact he
  · exact (by simpa using hr : d.drop p = r).symm
  · exact absurd (List.append_eq_nil_iff.1 hx.symm).2 hne

def RG : Rdr (List UInt8 × Bool × List UInt8) := (RL 16).seq fun _ => RF.seq fun _ => RL 16
def RP (v : GMsgParts) : Rdr (Int × Int × Bool × List UInt8 × List UInt8 × List UInt8 × Bool × List UInt8) :=
  (RO v.token_ 0 (RU 8)).seq fun _ => (RO v.attempt_ 0 (RU 2)).seq fun _ => (RO v.ro_ false RF).seq fun _ => (RO v.key_ [] (RL 16)).seq fun _ => (RO v.val_ [] (RL 32)).seq fun _ => RO v.rng_ ([], false, []) RG
def RReq : Rdr (Int × Int × Unit × Int × Int × Bool × List UInt8 × List UInt8 × List UInt8 × Bool × List UInt8) :=
  (RU 1).seq fun k => (RU 4).seq fun _ => (RK k).seq fun _ => RP (parts k)

def eG (x : List UInt8 × Bool × List UInt8) : List UInt8 := ls2 x.1 ++ (eF x.2.1 ++ ls2 x.2.2)
def VG (x : List UInt8 × Bool × List UInt8) : Prop := x.1.length ≤ 16 ∧ True ∧ x.2.2.length ≤ 16
theorem RG_rs : RS RG eG VG := RS.seq (RL_rs (by decide)) fun _ => RS.seq RF_rs fun _ => RL_rs (by decide)
abbrev BodyT := Int × Int × Bool × List UInt8 × List UInt8 × List UInt8 × Bool × List UInt8
def eP (v : GMsgParts) (x : BodyT) : List UInt8 :=
  eO v.token_ (eU 8) x.1 ++ (eO v.attempt_ (eU 2) x.2.1 ++ (eO v.ro_ eF x.2.2.1 ++ (eO v.key_ ls2 x.2.2.2.1 ++ (eO v.val_ ls2 x.2.2.2.2.1 ++ eO v.rng_ eG x.2.2.2.2.2))))
def VP (v : GMsgParts) (x : BodyT) : Prop :=
  VO v.token_ 0 (VU 8) x.1 ∧ VO v.attempt_ 0 (VU 2) x.2.1 ∧ VO v.ro_ false (fun _ => True) x.2.2.1 ∧ VO v.key_ [] (fun u => u.length ≤ 16) x.2.2.2.1 ∧ VO v.val_ [] (fun u => u.length ≤ 32) x.2.2.2.2.1 ∧ VO v.rng_ ([], false, []) VG x.2.2.2.2.2
theorem RP_rs (v : GMsgParts) : RS (RP v) (eP v) (VP v) :=
  RS.seq (RO_rs (RU_rs (by decide) (by decide))) fun _ => RS.seq (RO_rs (RU_rs (by decide) (by decide))) fun _ => RS.seq (RO_rs RF_rs) fun _ => RS.seq (RO_rs (RL_rs (by decide))) fun _ => RS.seq (RO_rs (RL_rs (by decide))) fun _ => RO_rs RG_rs
abbrev ReqT := Int × Int × Unit × BodyT
def eR (x : ReqT) : List UInt8 := eU 1 x.1 ++ (eU 4 x.2.1 ++ ([] ++ eP (parts x.1) x.2.2.2))
def VR (x : ReqT) : Prop := VU 1 x.1 ∧ VU 4 x.2.1 ∧ okKind x.1 = true ∧ VP (parts x.1) x.2.2.2
theorem RReq_rs : RS RReq eR VR :=
  RS.seq (enc2 := fun k (y : Int × Unit × BodyT) => eU 4 y.1 ++ ([] ++ eP (parts k) y.2.2)) (V2 := fun k (y : Int × Unit × BodyT) => VU 4 y.1 ∧ okKind k = true ∧ VP (parts k) y.2.2) (RU_rs (by decide) (by decide)) fun k => RS.seq (enc2 := fun _ (y : Unit × BodyT) => [] ++ eP (parts k) y.2) (V2 := fun _ (y : Unit × BodyT) => okKind k = true ∧ VP (parts k) y.2) (RU_rs (by decide) (by decide)) fun _ => RS.seq (RK_rs k) fun _ => RP_rs (parts k)

/-! The text -/
section
variable (v : GMsgParts) (d : List UInt8)
theorem k5_eq (b1 b2 : Int × Int × Int) (b3 : Int × Bool × Int) (b4 b5 : Int × (List UInt8) × Int) :
    m49_msg_readPartss_k5 v [] [] false d b1 b2 b3 b4 b5 = (RO v.rng_ ([], false, []) RG b5.1 b5.2.2 d).bind fun x => some (x.2.1, b1.2.1, b2.2.1, b3.2.1, b4.2.1, b5.2.1, x.1.1, x.1.2.2, x.1.2.1, x.2.2) := by
  unfold m49_msg_readPartss_k5 RO RG Rdr.seq RL RF
  cases v.rng_
  · rfl
  · simp only [if_true, Option.bind_assoc, Option.bind_some]
    all_goals rfl
theorem k4_eq (b1 b2 : Int × Int × Int) (b3 : Int × Bool × Int) (b4 : Int × (List UInt8) × Int) :
    m49_msg_readPartss_k4 v [] [] [] false d b1 b2 b3 b4 = (RO v.val_ [] (RL 32) b4.1 b4.2.2 d).bind fun x => m49_msg_readPartss_k5 v [] [] false d b1 b2 b3 b4 (x.2.1, x.1, x.2.2) := by
  unfold m49_msg_readPartss_k4 RO RL
  cases v.val_
  · rfl
  · simp only [if_true]
    all_goals rfl
theorem k3_eq (b1 b2 : Int × Int × Int) (b3 : Int × Bool × Int) :
    m49_msg_readPartss_k3 v [] [] [] [] false d b1 b2 b3 = (RO v.key_ [] (RL 16) b3.1 b3.2.2 d).bind fun x => m49_msg_readPartss_k4 v [] [] [] false d b1 b2 b3 (x.2.1, x.1, x.2.2) := by
  unfold m49_msg_readPartss_k3 RO RL
  cases v.key_
  · rfl
  · simp only [if_true]
    all_goals rfl
theorem k2_eq (b1 b2 : Int × Int × Int) :
    m49_msg_readPartss_k2 v false [] [] [] [] false d b1 b2 = (RO v.ro_ false RF b2.1 b2.2.2 d).bind fun x => m49_msg_readPartss_k3 v [] [] [] [] false d b1 b2 (x.2.1, x.1, x.2.2) := by
  unfold m49_msg_readPartss_k2 RO RF
  cases v.ro_
  · rfl
  · simp only [if_true]
    all_goals rfl
theorem k1_eq (b1 : Int × Int × Int) :
    m49_msg_readPartss_k1 v 0 false [] [] [] [] false d b1 = (RO v.attempt_ 0 (RU 2) b1.1 b1.2.2 d).bind fun x => m49_msg_readPartss_k2 v false [] [] [] [] false d b1 (x.2.1, x.1, x.2.2) := by
  unfold m49_msg_readPartss_k1 RO RU
  cases v.attempt_
  · rfl
  · simp only [if_true, Option.bind_assoc, Option.bind_some]
    all_goals rfl
theorem k0_eq (e k s p : Int) :
    m49_msg_readPartss v e k s 0 0 false [] [] [] [] false p d = (RP v e p d).bind fun x => some (x.2.1, x.1.1, x.1.2.1, x.1.2.2.1, x.1.2.2.2.1, x.1.2.2.2.2.1, x.1.2.2.2.2.2.1, x.1.2.2.2.2.2.2.2, x.1.2.2.2.2.2.2.1, x.2.2) := by
  have h : m49_msg_readPartss v e k s 0 0 false [] [] [] [] false p d = (RO v.token_ 0 (RU 8) e p d).bind fun x => m49_msg_readPartss_k1 v 0 false [] [] [] [] false d (x.2.1, x.1, x.2.2) := by
    unfold m49_msg_readPartss RO RU
    cases v.token_
    · rfl
    · simp only [if_true, Option.bind_assoc, Option.bind_some]
      rfl
  rw [h]
  simp only [k1_eq, k2_eq, k3_eq, k4_eq, k5_eq]
  unfold RP Rdr.seq
  simp only [Option.bind_assoc, Option.bind_some]
end

def zreq : GMsgReq := GMsgReq.mk 0 0 0 0 false [] [] (GApiRange.mk [] [] false)
def reqOf (x : ReqT) : GMsgReq := ⟨x.1, x.2.1, x.2.2.2.1, x.2.2.2.2.1, x.2.2.2.2.2.1, x.2.2.2.2.2.2.1, x.2.2.2.2.2.2.2.1, ⟨x.2.2.2.2.2.2.2.2.1, x.2.2.2.2.2.2.2.2.2.2, x.2.2.2.2.2.2.2.2.2.1⟩⟩
def tupOf (g : GMsgReq) : ReqT := (g.Kind, g.Seq, (), g.Token, g.Attempt, g.RO, g.Key, g.Val, g.Rng.Lo, g.Rng.Open, g.Rng.Hi)
theorem reqOf_tup (g : GMsgReq) : reqOf (tupOf g) = g := rfl
theorem tupOf_req (x : ReqT) : tupOf (reqOf x) = x := rfl

theorem readReq_eq (d : List UInt8) : m14_msg_ReadReq d = (RReq 0 0 d).bind fun x => (m50_enc_Reader_Ends x.2.1 x.2.2 d).bind fun v8 =>
    if (!decide (v8.1 = 0)) then some (zreq, v8.1) else (m18_msg_SaneReq (reqOf x.1)).bind fun v9 => if (!v9) then some (zreq, 3) else some (reqOf x.1, 0) := by
  unfold m14_msg_ReadReq m14_msg_ReadReq_k5 m45_enc_News m48_enc_Reader_Fails RReq RU Rdr.seq
  simp only [Option.bind_some, Option.bind_assoc, partsOf_m, isKind_m, k0_eq]
  congr 1
  funext x1
  congr 1
  funext x2
  unfold RK
  cases hk : okKind (wI (x1.1.toNat : Int)) with
  | true =>
    simp only [Option.bind_some, Bool.not_true, Bool.false_eq_true, if_false, if_true]
    rfl
  | false =>
    simp only [Option.bind_some, Bool.not_false, Bool.false_eq_true, if_false, if_true]
    by_cases he : x2.2.1 = 0
    · simp only [he, decide_true, if_true, Option.bind_some]
      rfl
    · simp only [he, decide_false, if_false, Option.bind_some, Bool.false_eq_true]
      rfl
end Go.Proofs.YtljkjkkpogkgbaaDoor.Abs
