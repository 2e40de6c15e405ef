/-
  What a net's calls answer.
-/
import Derived.Test.YthmibhmmbajcfaaS22
import Derived.Test.YthmibhmmbajcfaaAbsB
namespace Go.Proofs.Ythmibhmmbajcfaa.Abs

theorem allI {ρ : Type} (n : Nat) (p : Nat → Bool) (no : ρ) (f : Int → Option (LR Int Unit ρ)) (hn : n ≤ 1000000000000000000)
    (h : ∀ i : Nat, i < n → f (i : Int) = some (if p i then .cont ((i + 1 : Nat) : Int) else .ret no)) (hend : f (n : Int) = some (.brk ())) :
    iter f fuel 0 = some (if (List.range n).all p then .inr () else .inl no) := by
  refine allR (List.range n) p no f (by rw [List.length_range]; exact hn) (fun i x hx => ?_) (by rw [List.length_range]; exact hend)
  obtain ⟨h1, h2⟩ := List.getElem?_eq_some_iff.1 hx
  rw [List.length_range] at h1
  rw [List.getElem_range] at h2
  subst h2
  exact h i h1
theorem scanI {α : Type} (xs : List α) (p : α → Bool) (f : Int → Option (LR Int Unit Int)) (hl : xs.length ≤ 1000000000000000000)
    (h : ∀ (i : Nat) x, xs[i]? = some x → f (i : Int) = some (if p x then .ret (i : Int) else .cont ((i + 1 : Nat) : Int))) (hend : f (xs.length : Int) = some (.brk ())) :
    (∃ i x, xs[i]? = some x ∧ xs.find? p = some x ∧ iter f fuel 0 = some (.inl ((i : Nat) : Int))) ∨ (xs.find? p = none ∧ iter f fuel 0 = some (.inr ())) := by
  obtain ⟨v, hv, hr⟩ := iter_inv (f := f) (P := fun s => ∃ i : Nat, i ≤ xs.length ∧ s = (i : Int) ∧ xs.find? p = (xs.drop i).find? p) (μ := fun s => xs.length - s.toNat)
    (R := fun r => (∃ i x, xs[i]? = some x ∧ xs.find? p = some x ∧ r = .inl ((i : Nat) : Int)) ∨ (xs.find? p = none ∧ r = .inr ())) (by
      rintro _ ⟨i, hi, rfl, hp⟩
      rcases Nat.lt_or_ge i xs.length with hlt | hge
      · have hx := List.getElem?_eq_getElem hlt
        have hf := h i _ hx
        have hd : xs.drop i = xs[i] :: xs.drop (i + 1) := List.drop_eq_getElem_cons hlt
        cases hpx : p xs[i] with
        | true =>
          rw [hpx, if_pos rfl] at hf
          refine .inr (.inr ⟨_, hf, .inl ⟨i, _, hx, ?_, rfl⟩⟩)
          rw [hp, hd, List.find?_cons, hpx]
        | false =>
          rw [hpx, if_neg (by decide)] at hf
          refine .inl ⟨_, hf, ⟨i + 1, hlt, rfl, ?_⟩, by simp only [Int.toNat_natCast]; omega⟩
          rw [hp, hd, List.find?_cons, hpx]
      · have e : i = xs.length := by omega
        subst e
        refine .inr (.inl ⟨(), hend, .inr ⟨?_, rfl⟩⟩)
        rw [hp, List.drop_length]; rfl) fuel 0 ⟨0, Nat.zero_le _, rfl, rfl⟩ (lt_fuel (by show xs.length - 0 ≤ _; omega))
  rcases hr with ⟨i, x, h1, h2, rfl⟩ | ⟨h1, rfl⟩
  · exact .inl ⟨i, x, h1, h2, hv⟩
  · exact .inr ⟨h1, hv⟩

def oL (x : GR22Link) : GNetLink := ⟨x.ID, x.Client, x.Conn⟩
def tL (x : GNetLink) : GR22Link := ⟨x.ID, x.Client, x.Conn⟩
def oP (x : GR22Packet) : GNetPacket := ⟨x.Link, x.Up, x.Bytes⟩
def tP (x : GNetPacket) : GR22Packet := ⟨x.Link, x.Up, x.Bytes⟩
def oN (x : GR22Net) : GNetNet := ⟨x.Links.map oL, x.Packets.map oP, x.Next⟩
def tN (x : GNetNet) : GR22Net := ⟨x.Links.map tL, x.Packets.map tP, x.Next⟩
theorem tLoL : tL ∘ oL = id := rfl
theorem tPoP : tP ∘ oP = id := rfl
theorem tN_oN (a : GR22Net) : tN (oN a) = a := by
  cases a; simp [tN, oN, tLoL, tPoP]

def nz : GNetNet := ⟨[], [], 0⟩
def pz : GNetPacket := ⟨0, false, []⟩
def lz : GNetLink := ⟨0, 0, 0⟩
def slV (c k : Int) : Bool := decide (0 ≤ c) && decide (c < 4) && decide (0 ≤ k)
def sbV (b : List UInt8) : Bool := decide (1 ≤ (b.length : Int)) && decide ((b.length : Int) ≤ 2048)
def befV (x y : GNetLink) : Bool := decide (y.ID < x.ID) && !decide (y.Client = x.Client) && !decide (y.Conn = x.Conn)
def lkAt (n : GNetNet) (i : Nat) : Bool := match n.Links[i]? with
  | none => true
  | some x => decide (0 ≤ x.ID) && decide (x.ID < n.Next) && slV x.Client x.Conn && (n.Links.take i).all (befV x)
def pkV (n : GNetNet) (p : GNetPacket) : Bool := decide (0 ≤ p.Link) && decide (p.Link < n.Next) && sbV p.Bytes
def lsV (n : GNetNet) : Bool := (List.range n.Links.length).all (lkAt n) && decide ((n.Links.length : Int) ≤ 8)
def saneV (n : GNetNet) : Bool := n.Packets.all (pkV n) && decide (0 ≤ n.Next) && decide (n.Next ≤ 1099511627776) && decide ((n.Packets.length : Int) ≤ 64) && lsV n

theorem lkAt_some {n : GNetNet} {i : Nat} {x : GNetLink} (h : n.Links[i]? = some x) : lkAt n i = (decide (0 ≤ x.ID) && decide (x.ID < n.Next) && slV x.Client x.Conn && (n.Links.take i).all (befV x)) := by
  unfold lkAt
  rw [h]
theorem slm (c k : Int) : m34_net_saneLink c k = some (slV c k) := by
  unfold m34_net_saneLink slV
  cases decide (0 ≤ c) <;> cases decide (c < 4) <;> rfl
theorem sbm (b : List UInt8) : m41_net_saneBytes b = some (sbV b) := by
  unfold m41_net_saneBytes sbV
  cases decide (1 ≤ (b.length : Int)) <;> rfl
theorem lsm (n : GNetNet) (h : n.Links.length ≤ 1000000) : m49_net_saneLinks n = some (lsV n) := by
  unfold m49_net_saneLinks
  rw [allI n.Links.length (lkAt n) false (m49_net_saneLinks_s2 n) (by omega) (fun i hlt => by
    unfold m49_net_saneLinks_s2
    rw [if_pos (decide_eq_true (by omega)), idx_nat, List.getElem?_eq_getElem hlt, Option.bind_some]
    rw [lkAt_some (List.getElem?_eq_getElem hlt)]
    generalize n.Links[i] = x
    by_cases h1 : x.ID < 0
    · rw [if_pos (decide_eq_true h1), decide_eq_false (p := 0 ≤ x.ID) (by omega)]; rfl
    rw [if_neg (by rw [decide_eq_true_eq]; exact h1), decide_eq_true (p := 0 ≤ x.ID) (by omega)]
    by_cases h2 : n.Next ≤ x.ID
    · rw [if_pos (decide_eq_true h2), decide_eq_false (p := x.ID < n.Next) (by omega)]; rfl
    rw [if_neg (by rw [decide_eq_true_eq]; exact h2), decide_eq_true (p := x.ID < n.Next) (by omega), slm, Option.bind_some]
    cases slV x.Client x.Conn with
    | false => rfl
    | true =>
    rw [if_neg (nn (by rfl))]
    unfold m49_net_saneLinks_k4
    rw [cut_of (by omega) (by omega) (by omega), Option.bind_some]
    rw [show List.take ((i : Int).toNat - (0 : Int).toNat) (List.drop (0 : Int).toNat n.Links) = n.Links.take i by simp]
    rw [allR (n.Links.take i) (befV x) false (m49_net_saneLinks_s7 x (n.Links.take i)) (by rw [List.length_take]; omega) (fun j y hy => by
      have hjl := (List.getElem?_eq_some_iff.1 hy).1
      rw [List.length_take] at hjl
      unfold m49_net_saneLinks_s7
      rw [if_pos (decide_eq_true (by rw [List.length_take]; omega)), idx_nat, hy, Option.bind_some]
      unfold befV
      by_cases h3 : x.ID ≤ y.ID
      · rw [if_pos (decide_eq_true h3), decide_eq_false (p := y.ID < x.ID) (by omega)]; rfl
      rw [if_neg (by rw [decide_eq_true_eq]; exact h3), decide_eq_true (p := y.ID < x.ID) (by omega), wI_id (by omega) (by omega)]
      cases decide (y.Client = x.Client) <;> cases decide (y.Conn = x.Conn) <;> rfl) (by
      unfold m49_net_saneLinks_s7
      rw [if_neg (by rw [decide_eq_true_eq]; omega)])]
    cases (n.Links.take i).all (befV x) with
    | false => rfl
    | true =>
      rw [if_pos rfl, Option.bind_some]
      dsimp only
      unfold m49_net_saneLinks_k6
      rw [wI_id (by omega) (by omega)]
      rfl) (by
    unfold m49_net_saneLinks_s2
    rw [if_neg (by rw [decide_eq_true_eq]; omega)])]
  unfold lsV
  cases (List.range n.Links.length).all (lkAt n) <;> rfl
theorem sanem (n : GNetNet) (h : n.Links.length ≤ 1000000) (hp : n.Packets.length ≤ 1000000) : m30_net_Sane n = some (saneV n) := by
  unfold m30_net_Sane
  rw [allR n.Packets (pkV n) false (m30_net_Sane_s3 n) (by omega) (fun i p hx => by
    have hlt := (List.getElem?_eq_some_iff.1 hx).1
    unfold m30_net_Sane_s3
    rw [if_pos (decide_eq_true (by omega)), idx_nat, hx, Option.bind_some]
    unfold pkV
    by_cases h1 : p.Link < 0
    · rw [if_pos (decide_eq_true h1), decide_eq_false (p := 0 ≤ p.Link) (by omega)]; rfl
    rw [if_neg (by rw [decide_eq_true_eq]; exact h1), decide_eq_true (p := 0 ≤ p.Link) (by omega)]
    by_cases h2 : n.Next ≤ p.Link
    · rw [if_pos (decide_eq_true h2), decide_eq_false (p := p.Link < n.Next) (by omega)]; rfl
    rw [if_neg (by rw [decide_eq_true_eq]; exact h2), decide_eq_true (p := p.Link < n.Next) (by omega), sbm, Option.bind_some, wI_id (by omega) (by omega)]
    cases sbV p.Bytes <;> rfl) (by
    unfold m30_net_Sane_s3
    rw [if_neg (by rw [decide_eq_true_eq]; omega)])]
  unfold saneV
  cases n.Packets.all (pkV n) with
  | false => rfl
  | true =>
    rw [if_pos rfl, Option.bind_some]
    dsimp only
    unfold m30_net_Sane_k1
    rw [show (⟨n.Links, n.Packets, n.Next⟩ : GNetNet) = n from rfl, lsm n h, Option.bind_some]
    cases decide (0 ≤ n.Next) <;> cases decide (n.Next ≤ 1099511627776) <;> cases decide ((n.Packets.length : Int) ≤ 64) <;> rfl

/-! The document's own -/
def befR (x y : GR22Link) : Bool := !decide (y.Client = x.Client) && !decide (y.Conn = x.Conn)
def pvR (a : GR22Net) (x : GR22Link) : Nat → Bool
  | 0 => true
  | j + 1 => match a.Links[j]? with | none => true | some y => decide (y.ID < x.ID)
def lkAtR (a : GR22Net) (i : Nat) : Bool := match a.Links[i]? with
  | none => true
  | some x => decide (0 ≤ x.ID) && decide (x.ID < a.Next) && decide (0 ≤ x.Client) && decide (x.Client ≤ 3) && decide (0 ≤ x.Conn) && pvR a x i && (a.Links.take i).all (befR x)
theorem lkAtR_some {a : GR22Net} {i : Nat} {x : GR22Link} (h : a.Links[i]? = some x) : lkAtR a i = (decide (0 ≤ x.ID) && decide (x.ID < a.Next) && decide (0 ≤ x.Client) && decide (x.Client ≤ 3) && decide (0 ≤ x.Conn) && pvR a x i && (a.Links.take i).all (befR x)) := by
  unfold lkAtR
  rw [h]
theorem mem_take' {α : Type} {xs : List α} {i : Nat} {y : α} : y ∈ xs.take i ↔ ∃ j, j < i ∧ xs[j]? = some y := by
  rw [List.mem_iff_getElem?]
  constructor
  · rintro ⟨j, hj⟩
    rw [List.getElem?_take] at hj
    split at hj
    · exact ⟨j, by assumption, hj⟩
    · cases hj
  · rintro ⟨j, h1, h2⟩
    exact ⟨j, by rw [List.getElem?_take, if_pos h1]; exact h2⟩
theorem lkAt_iff (n : GNetNet) (i : Nat) : lkAt n i = true ↔ ∀ x, n.Links[i]? = some x → 0 ≤ x.ID ∧ x.ID < n.Next ∧ slV x.Client x.Conn = true ∧ ∀ j y, j < i → n.Links[j]? = some y → y.ID < x.ID ∧ y.Client ≠ x.Client ∧ y.Conn ≠ x.Conn := by
  unfold lkAt
  cases hx : n.Links[i]? with
  | none => simp
  | some x =>
    simp only [Option.some.injEq, forall_eq', Bool.and_eq_true, decide_eq_true_eq, List.all_eq_true, befV, Bool.not_eq_true', decide_eq_false_iff_not]
    constructor
    · rintro ⟨⟨⟨h1, h2⟩, h3⟩, h4⟩
      exact ⟨h1, h2, h3, fun j y hj hy => by have := h4 y (mem_take'.2 ⟨j, hj, hy⟩); exact ⟨this.1.1, this.1.2, this.2⟩⟩
    · rintro ⟨h1, h2, h3, h4⟩
      exact ⟨⟨⟨h1, h2⟩, h3⟩, fun y hy => by obtain ⟨j, hj, hy⟩ := mem_take'.1 hy; have := h4 j y hj hy; exact ⟨⟨this.1, this.2.1⟩, this.2.2⟩⟩
theorem lkAtR_iff (a : GR22Net) (i : Nat) : lkAtR a i = true ↔ ∀ x, a.Links[i]? = some x → 0 ≤ x.ID ∧ x.ID < a.Next ∧ slV x.Client x.Conn = true ∧ (∀ j y, j + 1 = i → a.Links[j]? = some y → y.ID < x.ID) ∧ ∀ j y, j < i → a.Links[j]? = some y → y.Client ≠ x.Client ∧ y.Conn ≠ x.Conn := by
  unfold lkAtR
  cases hx : a.Links[i]? with
  | none => simp
  | some x =>
    simp only [Option.some.injEq, forall_eq', Bool.and_eq_true, decide_eq_true_eq, List.all_eq_true, befR, Bool.not_eq_true', decide_eq_false_iff_not, slV]
    constructor
    · rintro ⟨⟨⟨⟨⟨⟨h1, h2⟩, h3⟩, h4⟩, h5⟩, h6⟩, h7⟩
      refine ⟨h1, h2, ⟨⟨h3, by omega⟩, h5⟩, fun j y hj hy => ?_, fun j y hj hy => h7 y (mem_take'.2 ⟨j, hj, hy⟩)⟩
      subst hj
      unfold pvR at h6
      simpa [hy] using h6
    · rintro ⟨h1, h2, ⟨⟨h3, h4⟩, h5⟩, h6, h7⟩
      refine ⟨⟨⟨⟨⟨⟨h1, h2⟩, h3⟩, by omega⟩, h5⟩, ?_⟩, fun y hy => by obtain ⟨j, hj, hy⟩ := mem_take'.1 hy; exact h7 j y hj hy⟩
      cases i with
      | zero => rfl
      | succ j =>
        show (match a.Links[j]? with | none => true | some y => decide (y.ID < x.ID)) = true
        cases hy : a.Links[j]? with
        | none => rfl
        | some y => exact decide_eq_true (h6 j y rfl hy)
theorem lk_same (a : GR22Net) : (List.range a.Links.length).all (lkAtR a) = (List.range (oN a).Links.length).all (lkAt (oN a)) := by
  have hg : ∀ (i : Nat) (x : GNetLink), (oN a).Links[i]? = some x ↔ ∃ y, a.Links[i]? = some y ∧ oL y = x := fun i x => by
    show (a.Links.map oL)[i]? = some x ↔ _
    rw [List.getElem?_map, Option.map_eq_some_iff]
  rw [Bool.eq_iff_iff, List.all_eq_true, List.all_eq_true]
  have hlen : (oN a).Links.length = a.Links.length := List.length_map _
  rw [hlen]
  constructor
  · intro h
    have rise : ∀ (i : Nat) (x : GR22Link), a.Links[i]? = some x → ∀ (j : Nat) (y : GR22Link), j < i → a.Links[j]? = some y → y.ID < x.ID := by
      intro i
      induction i with
      | zero => intro x _ j y hj; omega
      | succ i ih =>
        intro x hx j y hj hy
        have hlt := (List.getElem?_eq_some_iff.1 hx).1
        have hz := List.getElem?_eq_getElem (show i < a.Links.length by omega)
        have h1 := ((lkAtR_iff a (i + 1)).1 (h _ (List.mem_range.2 hlt)) x hx).2.2.2.1 i _ rfl hz
        rcases Nat.lt_or_ge j i with hji | hji
        · have := ih _ hz j y hji hy; omega
        · have e : j = i := by omega
          subst e
          rw [hz] at hy
          cases hy
          exact h1
    intro i hi
    rw [lkAt_iff]
    intro x hx
    obtain ⟨x, hx0, rfl⟩ := (hg _ _).1 hx
    obtain ⟨h1, h2, h3, h4, h5⟩ := (lkAtR_iff a i).1 (h i hi) x hx0
    refine ⟨h1, h2, h3, fun j y hj hy => ?_⟩
    obtain ⟨y, hy0, rfl⟩ := (hg _ _).1 hy
    exact ⟨rise i x hx0 j y hj hy0, h5 j y hj hy0⟩
  · intro h i hi
    rw [lkAtR_iff]
    intro x hx
    obtain ⟨h1, h2, h3, h4⟩ := (lkAt_iff (oN a) i).1 (h i hi) (oL x) ((hg _ _).2 ⟨x, hx, rfl⟩)
    exact ⟨h1, h2, h3, fun j y hj hy => (h4 j (oL y) (by omega) ((hg _ _).2 ⟨y, hy, rfl⟩)).1, fun j y hj hy => (h4 j (oL y) hj ((hg _ _).2 ⟨y, hy, rfl⟩)).2⟩
theorem rsanem (a : GR22Net) : m31_r22_Sane a = some (saneV (oN a)) := by
  have hlen : (oN a).Links.length = a.Links.length := List.length_map _
  have hplen : (oN a).Packets.length = a.Packets.length := List.length_map _
  unfold m31_r22_Sane
  by_cases h1 : (8 : Int) < a.Links.length
  · rw [if_pos (decide_eq_true h1)]
    unfold saneV lsV
    rw [hlen, decide_eq_false (p := (a.Links.length : Int) ≤ 8) (by omega), Bool.and_false, Bool.and_false]
  rw [if_neg (by rw [decide_eq_true_eq]; exact h1)]
  by_cases h2 : a.Next < 0
  · rw [if_pos (decide_eq_true h2)]
    unfold saneV
    rw [show (oN a).Next = a.Next from rfl, decide_eq_false (p := 0 ≤ a.Next) (by omega), Bool.and_false, Bool.false_and, Bool.false_and, Bool.false_and]
  rw [if_neg (by rw [decide_eq_true_eq]; exact h2)]
  by_cases h3 : 1099511627776 < a.Next
  · rw [if_pos (decide_eq_true h3)]
    unfold saneV
    rw [show (oN a).Next = a.Next from rfl, decide_eq_false (p := a.Next ≤ 1099511627776) (by omega), Bool.and_false, Bool.false_and, Bool.false_and]
  rw [if_neg (by rw [decide_eq_true_eq]; exact h3)]
  by_cases h4 : (64 : Int) < a.Packets.length
  · rw [if_pos (decide_eq_true h4)]
    unfold saneV
    rw [hplen, decide_eq_false (p := (a.Packets.length : Int) ≤ 64) (by omega), Bool.and_false, Bool.false_and]
  rw [if_neg (by rw [decide_eq_true_eq]; exact h4)]
  unfold m31_r22_Sane_k1
  rw [allI a.Links.length (lkAtR a) false (m31_r22_Sane_s7 a) (by omega) (fun i hlt => by
    unfold m31_r22_Sane_s7
    rw [if_pos (decide_eq_true (by omega)), idx_nat, List.getElem?_eq_getElem hlt, Option.bind_some]
    rw [lkAtR_some (List.getElem?_eq_getElem hlt)]
    generalize a.Links[i] = x
    by_cases h1 : x.ID < 0
    · rw [if_pos (decide_eq_true h1), decide_eq_false (p := 0 ≤ x.ID) (by omega)]; rfl
    rw [if_neg (by rw [decide_eq_true_eq]; exact h1), decide_eq_true (p := 0 ≤ x.ID) (by omega)]
    by_cases h2 : a.Next ≤ x.ID
    · rw [if_pos (decide_eq_true h2), decide_eq_false (p := x.ID < a.Next) (by omega)]; rfl
    rw [if_neg (by rw [decide_eq_true_eq]; exact h2), decide_eq_true (p := x.ID < a.Next) (by omega)]
    by_cases h3 : x.Client < 0
    · rw [if_pos (decide_eq_true h3), decide_eq_false (p := 0 ≤ x.Client) (by omega)]; rfl
    rw [if_neg (by rw [decide_eq_true_eq]; exact h3), decide_eq_true (p := 0 ≤ x.Client) (by omega)]
    by_cases h4 : 3 < x.Client
    · rw [if_pos (decide_eq_true h4), decide_eq_false (p := x.Client ≤ 3) (by omega)]; rfl
    rw [if_neg (by rw [decide_eq_true_eq]; exact h4), decide_eq_true (p := x.Client ≤ 3) (by omega)]
    by_cases h5 : x.Conn < 0
    · rw [if_pos (decide_eq_true h5), decide_eq_false (p := 0 ≤ x.Conn) (by omega)]; rfl
    rw [if_neg (by rw [decide_eq_true_eq]; exact h5), decide_eq_true (p := 0 ≤ x.Conn) (by omega)]
    have hk9 : m31_r22_Sane_k9 a (i : Int) x () = some (if (a.Links.take i).all (befR x) then .cont ((i + 1 : Nat) : Int) else .ret false) := by
      unfold m31_r22_Sane_k9
      rw [allR (a.Links.take i) (befR x) false (m31_r22_Sane_s11 a (i : Int) x) (by rw [List.length_take]; omega) (fun j y hy => by
        have hjl := (List.getElem?_eq_some_iff.1 hy).1
        rw [List.length_take] at hjl
        rw [List.getElem?_take, if_pos (by omega)] at hy
        unfold m31_r22_Sane_s11
        rw [if_pos (decide_eq_true (by omega)), idx_nat, hy, Option.bind_some, Option.bind_some]
        unfold befR
        rw [wI_id (by omega) (by omega)]
        cases decide (y.Client = x.Client) <;> cases decide (y.Conn = x.Conn) <;> rfl) (by
        unfold m31_r22_Sane_s11
        rw [if_neg (by rw [decide_eq_true_eq, List.length_take]; omega)])]
      cases (a.Links.take i).all (befR x) with
      | false => rfl
      | true =>
        rw [if_pos rfl, Option.bind_some]
        dsimp only
        unfold m31_r22_Sane_k10
        rw [wI_id (by omega) (by omega)]
        rfl
    cases i with
    | zero =>
      rw [if_neg (by decide), hk9]
      rfl
    | succ j =>
      rw [if_pos (decide_eq_true (by omega)), wI_id (by omega) (by omega), show ((j + 1 : Nat) : Int) - 1 = (j : Int) by omega, idx_nat, List.getElem?_eq_getElem (show j < a.Links.length by omega), Option.bind_some]
      rw [show pvR a x (j + 1) = decide (a.Links[j].ID < x.ID) by show (match a.Links[j]? with | none => true | some y => decide (y.ID < x.ID)) = _; rw [List.getElem?_eq_getElem (show j < a.Links.length by omega)]]
      by_cases h6 : x.ID ≤ a.Links[j].ID
      · rw [if_pos (decide_eq_true h6), decide_eq_false (p := a.Links[j].ID < x.ID) (by omega)]; rfl
      · rw [if_neg (by rw [decide_eq_true_eq]; exact h6), decide_eq_true (p := a.Links[j].ID < x.ID) (by omega), hk9]
        rfl) (by
    unfold m31_r22_Sane_s7
    rw [if_neg (by rw [decide_eq_true_eq]; omega)]), lk_same]
  unfold saneV lsV
  rw [hlen, hplen, decide_eq_true (p := (a.Links.length : Int) ≤ 8) (by omega), show (oN a).Next = a.Next from rfl, decide_eq_true (p := 0 ≤ a.Next) (by omega), decide_eq_true (p := a.Next ≤ 1099511627776) (by omega), decide_eq_true (p := (a.Packets.length : Int) ≤ 64) (by omega)]
  cases (List.range a.Links.length).all (lkAt (oN a)) with
  | false => rw [Bool.false_and, Bool.and_false]; rfl
  | true =>
    rw [if_pos rfl, Option.bind_some]
    dsimp only
    unfold m31_r22_Sane_k2
    rw [allR a.Packets (fun p => pkV (oN a) (oP p)) false (m31_r22_Sane_s4 a) (by omega) (fun i p hx => by
      have hlt := (List.getElem?_eq_some_iff.1 hx).1
      unfold m31_r22_Sane_s4
      rw [if_pos (decide_eq_true (by omega)), idx_nat, hx, Option.bind_some]
      unfold pkV sbV
      rw [show (oP p).Link = p.Link from rfl, show (oP p).Bytes = p.Bytes from rfl, show (oN a).Next = a.Next from rfl]
      by_cases h1 : p.Link < 0
      · rw [if_pos (decide_eq_true h1), decide_eq_false (p := 0 ≤ p.Link) (by omega)]; rfl
      rw [if_neg (by rw [decide_eq_true_eq]; exact h1), decide_eq_true (p := 0 ≤ p.Link) (by omega)]
      by_cases h2 : a.Next ≤ p.Link
      · rw [if_pos (decide_eq_true h2), decide_eq_false (p := p.Link < a.Next) (by omega)]; rfl
      rw [if_neg (by rw [decide_eq_true_eq]; exact h2), decide_eq_true (p := p.Link < a.Next) (by omega)]
      by_cases h3 : (p.Bytes.length : Int) < 1
      · rw [if_pos (decide_eq_true h3), decide_eq_false (p := 1 ≤ (p.Bytes.length : Int)) (by omega)]; rfl
      rw [if_neg (by rw [decide_eq_true_eq]; exact h3), decide_eq_true (p := 1 ≤ (p.Bytes.length : Int)) (by omega)]
      by_cases h4 : 2048 < (p.Bytes.length : Int)
      · rw [if_pos (decide_eq_true h4), decide_eq_false (p := (p.Bytes.length : Int) ≤ 2048) (by omega)]; rfl
      rw [if_neg (by rw [decide_eq_true_eq]; exact h4), decide_eq_true (p := (p.Bytes.length : Int) ≤ 2048) (by omega), wI_id (by omega) (by omega)]
      rfl) (by
      unfold m31_r22_Sane_s4
      rw [if_neg (by rw [decide_eq_true_eq]; omega)])]
    have he : (oN a).Packets.all (pkV (oN a)) = a.Packets.all (fun p => pkV (oN a) (oP p)) := by
      show (a.Packets.map oP).all _ = _
      rw [List.all_map]; rfl
    rw [he]
    cases a.Packets.all (fun p => pkV (oN a) (oP p)) <;> rfl
end Go.Proofs.Ythmibhmmbajcfaa.Abs
