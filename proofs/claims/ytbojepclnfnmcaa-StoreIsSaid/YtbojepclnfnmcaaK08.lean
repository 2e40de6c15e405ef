/-
  Stores: what the calls compute.
-/
import Derived.Test.YtbojepclnfnmcaaPc08
namespace Go.Proofs.Ytbojepclnfnmcaa.Abs


theorem scan08 {α : Type} (xs : List α) (p : Nat → α → Bool) (f : Int → Option (LR Int Unit Bool)) (hl : xs.length ≤ 1000000000000000000)
    (h : ∀ (i : Nat) x, xs[i]? = some x → f (i : Int) = some (if p i x then .ret false else .cont ((i + 1 : Nat) : Int))) (hend : f (xs.length : Int) = some (.brk ())) :
    (∃ i x, xs[i]? = some x ∧ p i x = true ∧ iter f fuel 0 = some (.inl false)) ∨ ((∀ (i : Nat) x, xs[i]? = some x → p i x = false) ∧ iter f fuel 0 = some (.inr ())) := by
  obtain ⟨b, hb, hr⟩ := iter_inv (f := f) (P := fun s => ∃ i : Nat, i ≤ xs.length ∧ s = (i : Int) ∧ ∀ j x, j < i → xs[j]? = some x → p j x = false) (μ := fun s => xs.length - s.toNat)
    (R := fun r => (r = .inl false ∧ ∃ i x, xs[i]? = some x ∧ p i x = true) ∨ (r = .inr () ∧ ∀ (i : Nat) x, xs[i]? = some x → p i x = false)) (by
      rintro _ ⟨i, hi, rfl, hp⟩
      rcases Nat.lt_or_ge i xs.length with hlt | hge
      · have hx := List.getElem?_eq_getElem hlt
        have hf := h i _ hx
        cases hpx : p i xs[i] with
        | true =>
          rw [hpx, if_pos rfl] at hf
          exact .inr (.inr ⟨false, hf, .inl ⟨rfl, i, _, hx, hpx⟩⟩)
        | false =>
          rw [hpx, if_neg (by decide)] at hf
          refine .inl ⟨_, hf, ⟨i + 1, hlt, rfl, fun j x hj hx' => ?_⟩, by simp only [Int.toNat_natCast]; omega⟩
          rcases Nat.lt_succ_iff_lt_or_eq.1 hj with h' | rfl
          · exact hp j x h' hx'
          · rw [hx] at hx'; cases hx'; exact hpx
      · have e : i = xs.length := by omega
        subst e
        exact .inr (.inl ⟨(), hend, .inr ⟨rfl, fun j x hx => hp j x (List.getElem?_eq_some_iff.1 hx).1 hx⟩⟩)) fuel 0 ⟨0, Nat.zero_le _, rfl, fun j x hj => absurd hj (Nat.not_lt_zero _)⟩ (lt_fuel (by show xs.length - 0 ≤ _; omega))
  rcases hr with ⟨rfl, i, x, hx, hp⟩ | ⟨rfl, hp⟩
  · exact .inl ⟨i, x, hx, hp, hb⟩
  · exact .inr ⟨hp, hb⟩

def kOk (k : List UInt8) : Bool := decide (1 ≤ (k.length : Int)) && decide ((k.length : Int) ≤ 16)
theorem kSane_m (k : List UInt8) : m72_keys_Sane k = some (kOk k) := by
  unfold m72_keys_Sane kOk
  by_cases h : 1 ≤ (k.length : Int)
  · rw [if_pos (decide_eq_true h), decide_eq_true h, Bool.true_and]
  · rw [if_neg (by rw [decide_eq_true_eq]; exact h), decide_eq_false h, Bool.false_and]

theorem pw_of_adj : ∀ (xs : Keys), (∀ (j : Nat) x y, xs[j]? = some x → xs[j + 1]? = some y → cmpL x y < 0) → PW xs
  | [], _ => List.Pairwise.nil
  | [_], _ => List.pairwise_singleton _ _
  | x :: y :: l, h => by
    have ih : PW (y :: l) := pw_of_adj (y :: l) fun j a b ha hb => h (j + 1) a b ha hb
    have hxy : cmpL x y < 0 := h 0 x y rfl rfl
    refine List.pairwise_cons.2 ⟨fun z hz => ?_, ih⟩
    rcases List.mem_cons.1 hz with rfl | hz
    · exact hxy
    · have := (List.pairwise_cons.1 ih).1 z hz
      exact (cmpL_trans (Int.le_of_lt hxy) (Int.le_of_lt this)).2 (.inl hxy)

theorem sorted_conv {xs : Keys} (hn : xs.length ≤ 1000000000000000000) (h : m73_keys_Sorted xs = some true) : PW xs := by
  refine pw_of_adj xs ?_
  obtain ⟨v, hv, hr⟩ := iter_inv (f := m73_keys_Sorted_s2 xs) (P := fun s => ∃ i : Nat, s = (i : Int) ∧ 1 ≤ i ∧ ∀ (j : Nat) x y, j + 1 < i → xs[j]? = some x → xs[j + 1]? = some y → cmpL x y < 0) (μ := fun s => xs.length - s.toNat)
    (R := fun v => v = .inl false ∨ (v = .inr () ∧ ∀ (j : Nat) x y, xs[j]? = some x → xs[j + 1]? = some y → cmpL x y < 0)) (by
    rintro _ ⟨i, rfl, h1, hadj⟩
    unfold m73_keys_Sorted_s2
    by_cases hi : i < xs.length
    · rw [if_pos (decide_eq_true (by omega)), wI_id (by omega) (by omega), show (i : Int) - 1 = ((i - 1 : Nat) : Int) from by omega, idx_nat, idx_nat, List.getElem?_eq_getElem hi, List.getElem?_eq_getElem (show i - 1 < xs.length by omega)]
      simp only [Option.bind_some, cmp_m]
      by_cases hc : 0 ≤ cmpL xs[i - 1] xs[i]
      · rw [if_pos (decide_eq_true hc)]
        exact .inr (.inr ⟨false, rfl, .inl rfl⟩)
      · rw [if_neg (by rw [decide_eq_true_eq]; exact hc)]
        refine .inl ⟨_, rfl, ⟨i + 1, by rw [wI_id (by omega) (by omega)]; rfl, by omega, fun j x y hj hx hy => ?_⟩, by rw [wI_id (by omega) (by omega)]; omega⟩
        rcases Nat.lt_or_ge (j + 1) i with h' | h'
        · exact hadj j x y h' hx hy
        · have e : j = i - 1 := by omega
          subst e
          rw [List.getElem?_eq_getElem (show i - 1 < xs.length by omega)] at hx
          rw [show i - 1 + 1 = i by omega, List.getElem?_eq_getElem hi] at hy
          cases hx; cases hy
          omega
    · right; left
      rw [if_neg (by rw [decide_eq_true_eq]; omega)]
      refine ⟨_, rfl, .inr ⟨rfl, fun j x y hx hy => hadj j x y ?_ hx hy⟩⟩
      have := (List.getElem?_eq_some_iff.1 hy).1
      omega) fuel 1 ⟨1, rfl, Nat.le_refl _, fun j x y hj => by omega⟩ (lt_fuel (by show xs.length - 1 ≤ _; omega))
  unfold m73_keys_Sorted at h
  rw [hv] at h
  rcases hr with rfl | ⟨rfl, hr⟩
  · cases h
  · exact hr

theorem saneKeys_m (xs : Keys) (hn : xs.length ≤ 1000000000000000000) : ∃ b, m51_store_saneKeys xs = some b ∧ (b = true ↔ (∀ k ∈ xs, kOk k = true) ∧ PW xs) := by
  unfold m51_store_saneKeys
  rcases scan08 xs (fun _ k => !kOk k) (m51_store_saneKeys_s3 xs) hn (fun i x hx => by
    have hlt := (List.getElem?_eq_some_iff.1 hx).1
    unfold m51_store_saneKeys_s3
    rw [if_pos (decide_eq_true (by omega)), idx_nat, hx, Option.bind_some, kSane_m, Option.bind_some]
    cases kOk x with
    | false => rfl
    | true => rw [if_neg (by decide), if_neg (by decide), wI_id (by omega) (by omega)]; rfl) (by
    unfold m51_store_saneKeys_s3
    rw [if_neg (by rw [decide_eq_true_eq]; omega)]) with ⟨i, x, hx, hp, e⟩ | ⟨hp, e⟩
  · rw [e]
    refine ⟨false, rfl, ⟨fun h => (by cases h), fun h => ?_⟩⟩
    rw [h.1 x (List.mem_of_getElem? hx)] at hp
    cases hp
  · rw [e, Option.bind_some]
    unfold m51_store_saneKeys_k1
    obtain ⟨v, hv⟩ := sorted_some xs hn
    rw [hv]
    refine ⟨v, rfl, ⟨fun h => ⟨fun k hk => ?_, ?_⟩, fun h => ?_⟩⟩
    · obtain ⟨i, hi⟩ := List.mem_iff_getElem?.1 hk
      have := hp i k hi
      simpa using this
    · subst h; exact sorted_conv hn hv
    · rw [sorted_m h.2 hn] at hv
      exact (Option.some.inj hv).symm

structure OkS (K : Keys) (C : List GChainChain) (T : Int) (B : Nat) : Prop where
  t0 : 0 ≤ T
  t1 : T ≤ 1099511627776
  cl : C.length = K.length
  ks : ∀ k ∈ K, kOk k = true
  pw : PW K
  cs : ∀ c ∈ C, c.L ≠ [] ∧ OkC c.L ∧ lastTs c.L ≤ T ∧ c.L.length ≤ B

theorem ssane_m {K : Keys} {C : List GChainChain} {T : Int} {B : Nat} (h : OkS K C T B) (hB : B ≤ 1000) (hk : K.length ≤ 128) : m23_store_Sane ⟨K, C, T⟩ = some true := by
  unfold m23_store_Sane
  have h0 := h.t0
  have h1 := h.t1
  have hcl := h.cl
  rw [if_neg (by rw [decide_eq_true_eq]; dsimp only; omega), if_neg (by rw [decide_eq_true_eq]; dsimp only; omega), if_neg (by rw [decide_eq_true_eq]; dsimp only; omega), if_neg (by rw [decide_eq_true (by dsimp only; omega)]; decide)]
  obtain ⟨b, hb, hb2⟩ := saneKeys_m K (by omega)
  have : b = true := hb2.2 ⟨h.ks, h.pw⟩
  subst this
  show (m51_store_saneKeys K).bind _ = _
  rw [hb, Option.bind_some, if_neg (by decide)]
  unfold m23_store_Sane_k1
  rcases scan08 C (fun _ _ => false) (m23_store_Sane_s3 ⟨K, C, T⟩) (by omega) (fun i x hx => by
    have hlt := (List.getElem?_eq_some_iff.1 hx).1
    obtain ⟨c1, c2, c3, c4⟩ := h.cs x (List.mem_of_getElem? hx)
    unfold m23_store_Sane_s3
    dsimp only
    rw [if_pos (decide_eq_true (by omega)), idx_nat, hx, Option.bind_some]
    have hne : x.L.length ≠ 0 := fun e => c1 (List.eq_nil_of_length_eq_zero e)
    rw [if_neg (by rw [decide_eq_true_eq]; omega)]
    rcases sane_cases (c := x) (by omega) with ⟨e, _⟩ | ⟨_, e⟩
    · rw [e, Option.bind_some, if_neg (by decide), last_eq (c := x) (by omega), Option.bind_some, if_neg (by rw [decide_eq_true_eq]; omega), if_neg (by decide), wI_id (by omega) (by omega)]
      rfl
    · exact absurd c2 e) (by
    unfold m23_store_Sane_s3
    dsimp only
    rw [if_neg (by rw [decide_eq_true_eq]; omega)]) with ⟨i, x, hx, hp, e⟩ | ⟨hp, e⟩
  · cases hp
  · rw [e]; rfl

def wOk (w : GApiWrite) : Bool := decide ((w.Val.length : Int) ≤ 32) && !(w.Del && decide (0 < (w.Val.length : Int)))
theorem saneWrites_m (l : List GApiWrite) (hn : l.length ≤ 1000000) : ∃ b, m42_store_saneWrites l = some b ∧ (b = true → (∀ w ∈ l, wOk w = true) ∧ (∀ w ∈ l, kOk w.Key = true) ∧ PW (l.map (·.Key))) := by
  unfold m42_store_saneWrites
  obtain ⟨v, hv, hr⟩ := iter_inv (f := m42_store_saneWrites_s3 l) (P := fun s => ∃ i : Nat, i ≤ l.length ∧ s = ((i : Int), (l.take i).map (·.Key)) ∧ ∀ w ∈ l.take i, wOk w = true) (μ := fun s => l.length - s.1.toNat)
    (R := fun v => v = .inl false ∨ (v = .inr (l.map (·.Key)) ∧ ∀ w ∈ l, wOk w = true)) (by
      rintro _ ⟨i, hi, rfl, hw⟩
      unfold m42_store_saneWrites_s3
      dsimp only
      rcases Nat.lt_or_ge i l.length with hlt | hge
      · have hx := List.getElem?_eq_getElem hlt
        rw [if_pos (decide_eq_true (by omega)), idx_nat, hx, Option.bind_some]
        have hk5 : m42_store_saneWrites_k5 ((i : Int), (l.take i).map (·.Key)) l[i] () = some (.cont (((i + 1 : Nat) : Int), (l.take (i + 1)).map (·.Key))) := by
          unfold m42_store_saneWrites_k5
          dsimp only
          rw [if_pos (by rw [List.length_map, List.length_take, List.length_singleton]; omega), wI_id (by omega) (by omega), List.take_succ_eq_append_getElem hlt, List.map_append]
          rfl
        by_cases h1 : 32 < (l[i].Val.length : Int)
        · rw [if_pos (decide_eq_true h1)]; exact .inr (.inr ⟨false, rfl, .inl rfl⟩)
        rw [if_neg (by rw [decide_eq_true_eq]; exact h1)]
        have hnext : wOk l[i] = true → ∀ w ∈ l.take (i + 1), wOk w = true := fun hwi w hm => by
          rw [List.take_succ_eq_append_getElem hlt] at hm
          rcases List.mem_append.1 hm with hm | hm
          · exact hw w hm
          · rw [List.mem_singleton.1 hm]; exact hwi
        cases hd : l[i].Del with
        | true =>
          rw [if_pos rfl]
          by_cases h2 : 0 < (l[i].Val.length : Int)
          · rw [if_pos (decide_eq_true h2)]; exact .inr (.inr ⟨false, rfl, .inl rfl⟩)
          · rw [if_neg (by rw [decide_eq_true_eq]; exact h2), hk5]
            refine .inl ⟨_, rfl, ⟨i + 1, hlt, rfl, hnext ?_⟩, by simp only [Int.toNat_natCast]; omega⟩
            unfold wOk
            rw [decide_eq_true (by omega), hd, decide_eq_false h2]
            rfl
        | false =>
          rw [if_neg (by decide), hk5]
          refine .inl ⟨_, rfl, ⟨i + 1, hlt, rfl, hnext ?_⟩, by simp only [Int.toNat_natCast]; omega⟩
          unfold wOk
          rw [decide_eq_true (by omega), hd]
          rfl
      · have e : i = l.length := by omega
        subst e
        rw [if_neg (by rw [decide_eq_true_eq]; omega)]
        rw [List.take_length] at hw ⊢
        exact .inr (.inl ⟨_, rfl, .inr ⟨rfl, hw⟩⟩)) fuel (0, []) ⟨0, Nat.zero_le _, rfl, fun w h => by simp at h⟩ (lt_fuel (by show l.length - 0 ≤ _; omega))
  rw [hv, Option.bind_some]
  rcases hr with rfl | ⟨rfl, hw⟩
  · exact ⟨false, rfl, fun h => (by cases h)⟩
  · show ∃ b, m42_store_saneWrites_k1 (l.map (·.Key)) = some b ∧ _
    unfold m42_store_saneWrites_k1
    obtain ⟨b, hb, hb2⟩ := saneKeys_m (l.map (·.Key)) (by rw [List.length_map]; omega)
    rw [hb]
    refine ⟨b, rfl, fun h => ?_⟩
    obtain ⟨h1, h2⟩ := hb2.1 h
    exact ⟨hw, fun w hm => h1 w.Key (List.mem_map.2 ⟨w, hm, rfl⟩), h2⟩

/-- A key's chain. -/
def At (K : Keys) (C : List GChainChain) (k : List UInt8) (c : GChainChain) : Prop := ∃ i : Nat, K[i]? = some k ∧ C[i]? = some c

theorem pw_inj {K : Keys} (h : PW K) {i j : Nat} {k : List UInt8} (hi : K[i]? = some k) (hj : K[j]? = some k) : i = j := by
  obtain ⟨hi1, hi2⟩ := List.getElem?_eq_some_iff.1 hi
  obtain ⟨hj1, hj2⟩ := List.getElem?_eq_some_iff.1 hj
  rcases Nat.lt_trichotomy i j with h' | h' | h'
  · have := List.pairwise_iff_getElem.1 h i j hi1 hj1 h'
    rw [hi2, hj2, cmpL_self] at this; omega
  · exact h'
  · have := List.pairwise_iff_getElem.1 h j i hj1 hi1 h'
    rw [hi2, hj2, cmpL_self] at this; omega
theorem hit_get {K : Keys} {k : List UInt8} (h : hit K k = true) : K[kat K k]? = some k := by
  unfold hit at h
  exact eq_of_beq h
theorem At.uniq {K : Keys} {C : List GChainChain} {k : List UInt8} {c d : GChainChain} (h : PW K) (hc : At K C k c) (hd : At K C k d) : c = d := by
  obtain ⟨i, h1, h2⟩ := hc
  obtain ⟨j, h3, h4⟩ := hd
  have := pw_inj h h1 h3
  subst this
  rw [h2] at h4
  exact Option.some.inj h4
theorem At.hit {K : Keys} {C : List GChainChain} {k : List UInt8} {c : GChainChain} (h : PW K) (hc : At K C k c) : Go.Proofs.Ytbojepclnfnmcaa.Abs.hit K k = true ∧ C[kat K k]? = some c := by
  obtain ⟨i, h1, h2⟩ := hc
  have hh := (hit_iff h).2 (List.mem_of_getElem? h1)
  have := pw_inj h h1 (hit_get hh)
  subst this
  exact ⟨hh, h2⟩
theorem At.of_hit {K : Keys} {C : List GChainChain} {k : List UInt8} (hl : C.length = K.length) (h : Go.Proofs.Ytbojepclnfnmcaa.Abs.hit K k = true) : ∃ c, At K C k c ∧ C[kat K k]? = some c := by
  have hlt := hit_lt h
  exact ⟨C[kat K k]'(by omega), ⟨_, hit_get h, List.getElem?_eq_getElem (by omega)⟩, List.getElem?_eq_getElem (by omega)⟩
end Go.Proofs.Ytbojepclnfnmcaa.Abs
