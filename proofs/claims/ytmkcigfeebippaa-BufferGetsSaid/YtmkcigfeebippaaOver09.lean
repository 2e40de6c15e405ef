/-
  One reads what one wrote: in a range, and in another one.
-/
import Derived.Test.YtmkcigfeebippaaFull09
namespace Go.Proofs.Ytmkcigfeebippaa.Abs

theorem has_l {out : List GApiKV} (hd : DistK kvk out) (hl : out.length ≤ 1000000) {k v : List UInt8} (hm : (⟨k, v⟩ : GApiKV) ∈ out) : m20_l09_has out k v = some true := by
  unfold m20_l09_has
  rw [scanR out (fun x => x.Key == k) (fun x => x.Val == v) (m20_l09_has_s2 out k v) (by omega) (fun i x hx => by
    have hlt := (List.getElem?_eq_some_iff.1 hx).1
    unfold m20_l09_has_s2
    rw [if_pos (decide_eq_true (by omega)), idx_nat, hx, Option.bind_some, Option.bind_some, wI_id (by omega) (by omega)]
    cases (x.Key == k) <;> rfl) (by
    unfold m20_l09_has_s2
    rw [if_neg (by rw [decide_eq_true_eq]; omega)])]
  have hf : out.find? (fun x => x.Key == k) = some ⟨k, v⟩ := get_some (kf := kvk) hd hm
  rw [hf]
  show some (v == v) = some true
  rw [beq_self_eq_true]

theorem touches_m (b : List GApiWrite) (r : GApiRange) (hl : b.length ≤ 1000000) : m22_buffer_Touches ⟨b⟩ r = some (b.any fun w => hasV r w.Key) := by
  unfold m22_buffer_Touches
  rw [scanR b (fun w => hasV r w.Key) (fun _ => true) (m22_buffer_Touches_s2 ⟨b⟩ r) (by omega) (fun i x hx => by
    have hlt := (List.getElem?_eq_some_iff.1 hx).1
    unfold m22_buffer_Touches_s2
    dsimp only
    rw [if_pos (decide_eq_true (by omega)), idx_nat, hx, Option.bind_some, has_m, Option.bind_some, wI_id (by omega) (by omega)]
    cases hasV r x.Key <;> rfl) (by
    unfold m22_buffer_Touches_s2
    dsimp only
    rw [if_neg (by rw [decide_eq_true_eq]; omega)])]
  cases hf : b.find? (fun w => hasV r w.Key) with
  | some w =>
    have h1 := List.find?_some hf
    have h2 := List.mem_of_find?_eq_some hf
    have : (b.any fun w => hasV r w.Key) = true := List.any_eq_true.2 ⟨w, h2, h1⟩
    rw [this]; rfl
  | none =>
    have h1 := List.find?_eq_none.1 hf
    have : (b.any fun w => hasV r w.Key) = false := List.any_eq_false.2 h1
    rw [this]; rfl

section
variable (b : List GApiWrite) (l : List GApiKV) (r : GApiRange)
def wrt (k : List UInt8) : Option GApiWrite := b.find? (fun w => w.Key == k)
def gone (o : Option GApiWrite) : Bool := match o with | some w => w.Del | none => false
def vall (o : Option GApiWrite) (x : GApiKV) : List UInt8 := match o with | some w => w.Val | none => x.Val
def p1 (x : GApiKV) : Bool := hasV r x.Key && !gone (wrt b x.Key)
def v1f (x : GApiKV) : GApiKV := ⟨x.Key, vall (wrt b x.Key) x⟩
def p2 (w : GApiWrite) : Bool := !(l.any fun x => x.Key == w.Key) && (!w.Del && hasV r w.Key)
variable {b l r}
theorem wrt_some {k : List UInt8} {w : GApiWrite} (h : wrt b k = some w) : w ∈ b ∧ w.Key = k := ⟨List.mem_of_find?_eq_some h, by have := List.find?_some h; simpa using this⟩
theorem wrt_none {k : List UInt8} (h : wrt b k = none) : k ∉ b.map wk := fun hm => by
  obtain ⟨w, hw, e⟩ := List.mem_map.1 hm
  have := List.find?_eq_none.1 h w hw
  exact this (by rw [show w.Key = k from e]; exact beq_self_eq_true k)
theorem wrt_mem (hb : RiseK wk b) {w : GApiWrite} (hw : w ∈ b) : wrt b w.Key = some w := get_some (kf := wk) hb.dist hw
theorem wrt_no {k : List UInt8} (h : k ∉ b.map wk) : wrt b k = none := get_none (kf := wk) fun w hw e => h (List.mem_map.2 ⟨w, hw, e⟩)

theorem a_mem (hb : RiseK wk b) (hl : RiseK kvk l) {x : GApiKV} (hx : x ∈ l) (hp : p1 b r x = true) : v1f b x ∈ ovL b l r := by
  unfold p1 at hp
  simp only [Bool.and_eq_true, Bool.not_eq_true'] at hp
  obtain ⟨h1, h2⟩ := hp
  rw [ov_mem hb hl]
  unfold v1f
  cases hw : wrt b x.Key with
  | none => exact .inl ⟨h1, hx, wrt_none hw⟩
  | some w =>
    rw [hw] at h2
    obtain ⟨m1, m2⟩ := wrt_some hw
    exact .inr ⟨w, m1, h2, by rw [m2]; exact h1, by unfold kvw vall; rw [m2]⟩
theorem b_mem (hb : RiseK wk b) (hl : RiseK kvk l) {w : GApiWrite} (hw : w ∈ b) (hp : p2 l r w = true) : kvw w ∈ ovL b l r := by
  unfold p2 at hp
  simp only [Bool.and_eq_true, Bool.not_eq_true'] at hp
  exact (ov_mem hb hl).2 (.inr ⟨w, hw, hp.2.1, hp.2.2, rfl⟩)

theorem ov_count (hb : RiseK wk b) (hl : RiseK kvk l) : (ovL b l r).length = l.countP (p1 b r) + b.countP (p2 l r) := by
  have hd : DistK kvk ((l.filter (p1 b r)).map (v1f b) ++ (b.filter (p2 l r)).map kvw) := by
    refine List.pairwise_append.2 ⟨List.pairwise_map.2 ((hl.dist.sublist (List.filter_sublist ..)).imp fun h => h), List.pairwise_map.2 ((hb.dist.sublist (List.filter_sublist ..)).imp fun h => h), fun x hx y hy e => ?_⟩
    obtain ⟨x0, hx0, rfl⟩ := List.mem_map.1 hx
    obtain ⟨w, hw, rfl⟩ := List.mem_map.1 hy
    obtain ⟨q1, q2⟩ := List.mem_filter.1 hw
    unfold p2 at q2
    simp only [Bool.and_eq_true, Bool.not_eq_true'] at q2
    have := List.any_eq_false.1 q2.1 x0 (List.mem_filter.1 hx0).1
    exact this (by simpa using (show x0.Key = w.Key from e))
  have hp : (ovL b l r).Perm ((l.filter (p1 b r)).map (v1f b) ++ (b.filter (p2 l r)).map kvw) := (List.perm_ext_iff_of_nodup (nodup_of_dist (ov_rise r hb hl).dist) (nodup_of_dist hd)).2 fun x => by
    constructor
    · intro hx
      rw [ov_mem hb hl] at hx
      rw [List.mem_append]
      rcases hx with ⟨h1, h2, h3⟩ | ⟨w, hw, h1, h2, rfl⟩
      · refine .inl (List.mem_map.2 ⟨x, List.mem_filter.2 ⟨h2, ?_⟩, ?_⟩)
        · unfold p1; rw [wrt_no h3, h1]; rfl
        · unfold v1f; rw [wrt_no h3]; rfl
      · by_cases hy : ∃ y ∈ l, y.Key = w.Key
        · obtain ⟨y, hy, e⟩ := hy
          refine .inl (List.mem_map.2 ⟨y, List.mem_filter.2 ⟨hy, ?_⟩, ?_⟩)
          · unfold p1; rw [e, wrt_mem hb hw, h2]; simp [gone, h1]
          · unfold v1f; rw [e, wrt_mem hb hw]; rfl
        · refine .inr (List.mem_map.2 ⟨w, List.mem_filter.2 ⟨hw, ?_⟩, rfl⟩)
          unfold p2
          rw [h1, h2, show (l.any fun x => x.Key == w.Key) = false from List.any_eq_false.2 fun y hy' e => hy ⟨y, hy', by simpa using e⟩]
          rfl
    · intro hx
      rcases List.mem_append.1 hx with hx | hx
      · obtain ⟨y, hy, rfl⟩ := List.mem_map.1 hx
        obtain ⟨q1, q2⟩ := List.mem_filter.1 hy
        exact a_mem hb hl q1 q2
      · obtain ⟨y, hy, rfl⟩ := List.mem_map.1 hx
        obtain ⟨q1, q2⟩ := List.mem_filter.1 hy
        exact b_mem hb hl q1 q2
  rw [hp.length_eq, List.length_append, List.length_map, List.length_map, List.countP_eq_length_filter, List.countP_eq_length_filter]
end

theorem count_succ {α : Type} (p : α → Bool) (xs : List α) {i : Nat} (h : i < xs.length) : (xs.take (i + 1)).countP p = (xs.take i).countP p + if p xs[i] then 1 else 0 := by
  rw [List.take_succ_eq_append_getElem h, List.countP_append, List.countP_singleton]

theorem loop1 {b : List GApiWrite} {l : List GApiKV} {r : GApiRange} (hb : Good b) (hl : RiseK kvk l) (hn : l.length ≤ 1000) (hk : ∀ x ∈ l, x.Key.length ≤ 50) :
    iter (m4_l09_BufferOver_s27 l r ⟨b⟩ (ovL b l r)) fuel (0, 0) = some (.inr ((l.countP (p1 b r) : Nat) : Int)) := by
  have hbl := hb.len
  have hol := ov_len b l r
  obtain ⟨v, hv, hr⟩ := iter_inv (f := m4_l09_BufferOver_s27 l r ⟨b⟩ (ovL b l r)) (P := fun s => ∃ i : Nat, i ≤ l.length ∧ s = ((((l.take i).countP (p1 b r) : Nat) : Int), (i : Int))) (μ := fun s => l.length - s.2.toNat) (R := fun x => x = .inr ((l.countP (p1 b r) : Nat) : Int)) (by
    rintro _ ⟨i, hi, rfl⟩
    unfold m4_l09_BufferOver_s27
    dsimp only
    rcases Nat.lt_or_ge i l.length with hlt | hge
    · rw [if_pos (decide_eq_true (by omega)), idx_nat, List.getElem?_eq_getElem hlt, Option.bind_some, get_m (by omega), Option.bind_some, Option.bind_some]
      have hkl := hk _ (List.getElem_mem hlt)
      have hcl : (l.take i).countP (p1 b r) ≤ i := Nat.le_trans List.countP_le_length (by rw [List.length_take]; omega)
      have hstep := count_succ (p1 b r) l hlt
      rw [show (⟨r.Lo, r.Hi, r.Open⟩ : GApiRange) = r from rfl, rhas_m r _ (by omega), Option.bind_some, wI_id (n := (i : Int) + 1) (by omega) (by omega)]
      have hcont : p1 b r l[i] = false → (∃ s', (some (.cont (((l.take i).countP (p1 b r) : Nat), (i : Int) + 1)) : Option (LR (Int × Int) Int Bool)) = some (.cont s') ∧ (∃ i : Nat, i ≤ l.length ∧ s' = ((((l.take i).countP (p1 b r) : Nat) : Int), (i : Int))) ∧ l.length - s'.2.toNat < l.length - ((i : Nat) : Int).toNat) := fun hp => by
        rw [hp, if_neg (by decide)] at hstep
        exact ⟨_, rfl, ⟨i + 1, hlt, by rw [hstep]; rfl⟩, by dsimp only; omega⟩
      have hret : p1 b r l[i] = true → ∀ V : List UInt8, V = vall (wrt b l[i].Key) l[i] → (∃ s', m4_l09_BufferOver_k32 l (ovL b l r) (((l.take i).countP (p1 b r) : Nat), (i : Int)) V = some (.cont s') ∧ (∃ i : Nat, i ≤ l.length ∧ s' = ((((l.take i).countP (p1 b r) : Nat) : Int), (i : Int))) ∧ l.length - s'.2.toNat < l.length - ((i : Nat) : Int).toNat) := fun hp V hV => by
        rw [hp, if_pos rfl] at hstep
        unfold m4_l09_BufferOver_k32
        dsimp only
        have hm := a_mem hb.rise hl (List.getElem_mem hlt) hp
        rw [idx_nat, List.getElem?_eq_getElem hlt, Option.bind_some, hV, has_l (ov_rise r hb.rise hl).dist (by omega) hm, Option.bind_some, if_neg (nn (by rfl)), wI_id (by omega) (by omega), wI_id (by omega) (by omega)]
        exact ⟨_, rfl, ⟨i + 1, hlt, by rw [hstep]; rfl⟩, by dsimp only; omega⟩
      cases hh : hasV r l[i].Key with
      | false =>
        rw [if_pos (by rfl)]
        exact .inl (hcont (by unfold p1; rw [hh]; rfl))
      | true =>
        rw [if_neg (nn (by rfl))]
        have hw : (b.find? fun w => w.Key == l[i].Key) = wrt b l[i].Key := rfl
        rw [hw]
        cases hwv : wrt b l[i].Key with
        | none =>
          dsimp only
          rw [if_neg (nn (by rfl))]
          unfold m4_l09_BufferOver_k30
          dsimp only
          rw [idx_nat, List.getElem?_eq_getElem hlt, Option.bind_some, if_neg (nn (by rfl))]
          exact .inl (hret (by unfold p1; rw [hh, hwv]; rfl) _ (by rw [hwv]; rfl))
        | some w =>
          dsimp only
          rw [if_pos (by rfl)]
          cases hd : w.Del with
          | true =>
            rw [if_pos rfl]
            exact .inl (hcont (by unfold p1; rw [hh, hwv]; simp [gone, hd]))
          | false =>
            rw [if_neg (nn (by rfl))]
            unfold m4_l09_BufferOver_k30
            dsimp only
            rw [idx_nat, List.getElem?_eq_getElem hlt, Option.bind_some, if_pos (by rfl)]
            exact .inl (hret (by unfold p1; rw [hh, hwv]; simp [gone, hd]) _ (by rw [hwv]; rfl))
    · have e : i = l.length := by omega
      subst e
      rw [if_neg (by rw [decide_eq_true_eq]; omega)]
      exact .inr (.inl ⟨_, rfl, by rw [List.take_length]⟩)) fuel (0, 0) ⟨0, Nat.zero_le _, by simp⟩ (lt_fuel (by show l.length - 0 ≤ _; omega))
  rw [hv, hr]

theorem any_fold {l : List GApiKV} {b : List GApiWrite} {j : Nat} (hj : j < b.length) (c : Int) (hn : l.length ≤ 1000) : iterB (m4_l09_BufferOver_s22 l ⟨b⟩ (c, (j : Int))) fuel (false, 0) = some (l.any fun x => x.Key == b[j].Key) := by
  obtain ⟨v, hv, hr⟩ := iterB_inv (f := m4_l09_BufferOver_s22 l ⟨b⟩ (c, (j : Int))) (P := fun s => ∃ i : Nat, i ≤ l.length ∧ s = ((l.take i).any (fun x => x.Key == b[j].Key), (i : Int))) (μ := fun s => l.length - s.2.toNat) (R := fun x => x = l.any fun x => x.Key == b[j].Key) (by
    rintro _ ⟨i, hi, rfl⟩
    unfold m4_l09_BufferOver_s22
    dsimp only
    rcases Nat.lt_or_ge i l.length with hlt | hge
    · left
      rw [if_pos (decide_eq_true (by omega)), wI_id (by omega) (by omega)]
      have hs : (l.take (i + 1)).any (fun x => x.Key == b[j].Key) = ((l.take i).any (fun x => x.Key == b[j].Key) || (l[i].Key == b[j].Key)) := by
        rw [List.take_succ_eq_append_getElem hlt, List.any_append]; simp
      cases ha : (l.take i).any (fun x => x.Key == b[j].Key) with
      | true =>
        rw [if_pos rfl]
        exact ⟨_, rfl, ⟨i + 1, hlt, by rw [hs, ha]; rfl⟩, by dsimp only; omega⟩
      | false =>
        rw [if_neg (nn (by rfl)), idx_nat, idx_nat, List.getElem?_eq_getElem hlt, List.getElem?_eq_getElem hj, Option.bind_some, Option.bind_some]
        exact ⟨_, rfl, ⟨i + 1, hlt, by rw [hs, ha]; rfl⟩, by dsimp only; omega⟩
    · right
      have e : i = l.length := by omega
      subst e
      rw [if_neg (by rw [decide_eq_true_eq]; omega)]
      exact ⟨_, rfl, by rw [List.take_length]⟩) fuel (false, 0) ⟨0, Nat.zero_le _, by simp⟩ (lt_fuel (by show l.length - 0 ≤ _; omega))
  rw [hv, hr]

theorem loop2 {b : List GApiWrite} {l : List GApiKV} {r : GApiRange} (hb : Good b) (hl : RiseK kvk l) (hn : l.length ≤ 1000) {c : Nat} (hc : c ≤ 1000) :
    iter (m4_l09_BufferOver_s13 l r ⟨b⟩ (ovL b l r)) fuel ((c : Int), 0) = some (.inr ((c + b.countP (p2 l r) : Nat) : Int)) := by
  have hbl := hb.len
  have hol := ov_len b l r
  obtain ⟨v, hv, hr⟩ := iter_inv (f := m4_l09_BufferOver_s13 l r ⟨b⟩ (ovL b l r)) (P := fun s => ∃ i : Nat, i ≤ b.length ∧ s = (((c + (b.take i).countP (p2 l r) : Nat) : Int), (i : Int))) (μ := fun s => b.length - s.2.toNat) (R := fun x => x = .inr ((c + b.countP (p2 l r) : Nat) : Int)) (by
    rintro _ ⟨i, hi, rfl⟩
    unfold m4_l09_BufferOver_s13
    dsimp only
    rcases Nat.lt_or_ge i b.length with hlt | hge
    · rw [if_pos (decide_eq_true (by omega)), any_fold hlt _ hn, Option.bind_some]
      unfold m4_l09_BufferOver_k14
      dsimp only
      have hkl := key_small hb _ (List.getElem_mem hlt)
      have hcl : (b.take i).countP (p2 l r) ≤ i := Nat.le_trans List.countP_le_length (by rw [List.length_take]; omega)
      have hstep := count_succ (p2 l r) b hlt
      have hcont : p2 l r b[i] = false → (∃ s', (some (.cont (((c + (b.take i).countP (p2 l r) : Nat) : Int), wI ((i : Int) + 1))) : Option (LR (Int × Int) Int Bool)) = some (.cont s') ∧ (∃ i : Nat, i ≤ b.length ∧ s' = (((c + (b.take i).countP (p2 l r) : Nat) : Int), (i : Int))) ∧ b.length - s'.2.toNat < b.length - ((i : Nat) : Int).toNat) := fun hp => by
        rw [hp, if_neg (by decide)] at hstep
        rw [wI_id (by omega) (by omega)]
        exact ⟨_, rfl, ⟨i + 1, hlt, by rw [hstep]; rfl⟩, by dsimp only; omega⟩
      cases ha : (l.any fun x => x.Key == b[i].Key) with
      | true =>
        rw [if_pos rfl]
        exact .inl (hcont (by unfold p2; rw [ha]; rfl))
      | false =>
        rw [if_neg (nn (by rfl)), idx_nat, List.getElem?_eq_getElem hlt, Option.bind_some]
        cases hd : b[i].Del with
        | true =>
          rw [if_pos rfl]
          exact .inl (hcont (by unfold p2; rw [ha, hd]; rfl))
        | false =>
          rw [if_neg (nn (by rfl)), Option.bind_some, show (⟨r.Lo, r.Hi, r.Open⟩ : GApiRange) = r from rfl, rhas_m r _ (by omega), Option.bind_some]
          cases hh : hasV r b[i].Key with
          | false =>
            rw [if_pos (by rfl)]
            exact .inl (hcont (by unfold p2; rw [ha, hd, hh]; rfl))
          | true =>
            have hp : p2 l r b[i] = true := by unfold p2; rw [ha, hd, hh]; rfl
            rw [hp, if_pos rfl] at hstep
            rw [if_neg (nn (by rfl))]
            unfold m4_l09_BufferOver_k15
            dsimp only
            have hm := b_mem hb.rise hl (List.getElem_mem hlt) hp
            rw [idx_nat, List.getElem?_eq_getElem hlt, Option.bind_some, Option.bind_some, has_l (ov_rise r hb.rise hl).dist (by omega) hm, Option.bind_some, if_neg (nn (by rfl)), wI_id (by omega) (by omega), wI_id (by omega) (by omega)]
            exact .inl ⟨_, rfl, ⟨i + 1, hlt, by rw [hstep]; simp [Nat.add_assoc]; rfl⟩, by dsimp only; omega⟩
    · have e : i = b.length := by omega
      subst e
      rw [if_neg (by rw [decide_eq_true_eq]; omega)]
      exact .inr (.inl ⟨_, rfl, by rw [List.take_length]⟩)) fuel ((c : Int), 0) ⟨0, Nat.zero_le _, by simp⟩ (lt_fuel (by show b.length - 0 ≤ _; omega))
  rw [hv, hr]

theorem ov_keys {b : List GApiWrite} {l : List GApiKV} {r : GApiRange} (hb : Good b) (hl : RiseK kvk l) (hk : ∀ x ∈ l, x.Key.length ≤ 50) : ∀ x ∈ ovL b l r, x.Key.length ≤ 1000000 := fun x hx => by
  rcases (ov_mem hb.rise hl).1 hx with ⟨_, h, _⟩ | ⟨w, hw, _, _, rfl⟩
  · have := hk x h; omega
  · have := key_small hb w hw
    show w.Key.length ≤ _; omega

theorem bufferOver_true (a0 : List GApiWrite) (a1 : List GApiKV) (a2 : GApiRange) : m4_l09_BufferOver a0 a1 a2 = some true := by
  unfold m4_l09_BufferOver
  rw [awake09, Option.bind_some]
  obtain ⟨b, hb, hf⟩ := fewW_m a0
  rw [hb, Option.bind_some]
  cases b with
  | false => rfl
  | true =>
  obtain ⟨hl, -⟩ := hf rfl
  rw [if_neg (nn (by rfl))]
  obtain ⟨b, hb, hf⟩ := short_l a1
  rw [hb, Option.bind_some]
  cases b with
  | false => rfl
  | true =>
  obtain ⟨hl1, hk1⟩ := hf rfl
  rw [if_neg (nn (by rfl)), show (⟨a2.Lo, a2.Hi, a2.Open⟩ : GApiRange) = a2 from rfl]
  obtain ⟨b, hb, -⟩ := short_m a2
  rw [hb, Option.bind_some]
  cases b with
  | false => rfl
  | true =>
  rw [if_neg (nn (by rfl))]
  obtain ⟨b, hb, hf⟩ := rising_m (l := a1) (fun x hx => by have := hk1 x hx; omega) (by omega)
  rw [hb, Option.bind_some]
  cases b with
  | false => rfl
  | true =>
  have hri := hf.1 rfl
  rw [if_neg (nn (by rfl))]
  unfold m4_l09_BufferOver_k2
  obtain ⟨b, hb, hg, -⟩ := grown_m (l := a0) (by omega)
  have hbl := hg.len
  have hol := ov_len b a1 a2
  rw [hb, Option.bind_some, over_m a2 hg hri (by omega) (by decide), Option.bind_some, List.take_of_length_le (l := ovL b a1 a2) (by show _ ≤ 1000; omega), loop1 hg hri (by omega) hk1, Option.bind_some]
  dsimp only
  unfold m4_l09_BufferOver_k5
  rw [loop2 hg hri (by omega) (Nat.le_trans List.countP_le_length (by omega)), Option.bind_some]
  dsimp only
  unfold m4_l09_BufferOver_k6
  rw [show (⟨a2.Lo, a2.Hi, a2.Open⟩ : GApiRange) = a2 from rfl, over_m a2 hg hri (by omega) (by decide), Option.bind_some, if_pos rfl, if_pos (decide_eq_true (by rw [ov_count hg.rise hri]))]
  obtain ⟨v, hv, hvi⟩ := rising_m (l := ovL b a1 a2) (ov_keys hg hri hk1) (by omega)
  rw [hv, hvi.2 (ov_rise a2 hg.rise hri), Option.bind_some, if_pos rfl]
  have hcut : cut (ovL b a1 a2) 0 (if ((ovL b a1 a2).length : Int) < 2 then ((ovL b a1 a2).length : Int) else 2) = some ((ovL b a1 a2).take (2 : Int).toNat) := by
    split
    · rw [cut_of (by omega) (by omega) (by omega), List.take_of_length_le (i := (2 : Int).toNat) (by show _ ≤ 2; omega)]; simp
    · rw [cut_of (by omega) (by omega) (by omega)]; simp
  rw [hcut, Option.bind_some, kvs_m (by rw [List.length_take]; omega), Option.bind_some, if_pos rfl, touches_m b a2 (by omega), Option.bind_some]
  cases ht : (b.any fun w => hasV a2 w.Key) with
  | true => rfl
  | false =>
    rw [if_neg (nn (by rfl)), over_m a2 Good.nil hri (by omega) (by decide), Option.bind_some]
    have hol2 := ov_len [] a1 a2
    rw [List.length_nil] at hol2
    rw [List.take_of_length_le (l := ovL [] a1 a2) (by show _ ≤ 1000; omega)]
    have hno := List.any_eq_false.1 ht
    have he : ovL [] a1 a2 = ovL b a1 a2 := rise_ext (ov_rise a2 List.Pairwise.nil hri) (ov_rise a2 hg.rise hri) fun x => by
      rw [ov_mem List.Pairwise.nil hri, ov_mem hg.rise hri]
      constructor
      · rintro (⟨h1, h2, _⟩ | ⟨w, hw, _⟩)
        · refine .inl ⟨h1, h2, fun hm => ?_⟩
          obtain ⟨w, hw, e⟩ := List.mem_map.1 hm
          have : hasV a2 w.Key = true := by rw [show w.Key = x.Key from e]; exact h1
          exact hno w hw this
        · simp at hw
      · rintro (⟨h1, h2, _⟩ | ⟨w, hw, _, h, _⟩)
        · exact .inl ⟨h1, h2, by simp⟩
        · exact absurd h (hno w hw)
    rw [he, ov_count hg.rise hri]
    simp

def openR : GApiRange := ⟨[], [], true⟩
theorem open_has (k : List UInt8) : hasV openR k = true := by
  unfold hasV openR
  cases k <;> simp [cmpL]

theorem bufferRange_true (a0 : List GApiWrite) (a1 : List GApiKV) (a2 : GApiRange) : m7_l09_BufferRange a0 a1 a2 = some true := by
  unfold m7_l09_BufferRange
  rw [awake09, Option.bind_some]
  obtain ⟨b, hb, hf⟩ := fewW_m a0
  rw [hb, Option.bind_some]
  cases b with
  | false => rfl
  | true =>
  obtain ⟨hl, -⟩ := hf rfl
  rw [if_neg (nn (by rfl))]
  obtain ⟨b, hb, hf⟩ := short_l a1
  rw [hb, Option.bind_some]
  cases b with
  | false => rfl
  | true =>
  obtain ⟨hl1, hk1⟩ := hf rfl
  rw [if_neg (nn (by rfl))]
  obtain ⟨b, hb, -⟩ := short_m a2
  rw [hb, Option.bind_some]
  cases b with
  | false => rfl
  | true =>
  rw [if_neg (nn (by rfl))]
  obtain ⟨b, hb, hf⟩ := rising_m (l := a1) (fun x hx => by have := hk1 x hx; omega) (by omega)
  rw [hb, Option.bind_some]
  cases b with
  | false => rfl
  | true =>
  have hri := hf.1 rfl
  rw [if_neg (nn (by rfl))]
  unfold m7_l09_BufferRange_k2
  obtain ⟨b, hb, hg, -⟩ := grown_m (l := a0) (by omega)
  have hbl := hg.len
  have hol := ov_len b a1 a2
  have hol2 := ov_len b a1 openR
  have ek : ∀ x ∈ ovL b a1 openR, x.Key.length ≤ 1000000 := ov_keys hg hri hk1
  rw [hb, Option.bind_some, show (⟨[], [], true⟩ : GApiRange) = openR from rfl, over_m openR hg hri (by omega) (by decide), Option.bind_some, over_m a2 hg hri (by omega) (by decide), Option.bind_some, List.take_of_length_le (l := ovL b a1 a2) (by show _ ≤ 1000; omega), List.take_of_length_le (l := ovL b a1 openR) (by show _ ≤ 1000; omega)]
  have hloop := iterB_fold (f := m7_l09_BufferRange_s10 a2 (ovL b a1 openR)) (fun (t : { t : List GApiKV // t.length ≤ 0 } ⊕ Nat) (i : Nat) => ((i : Int), ((ovL b a1 openR).take i).filter (fun x => hasV a2 x.Key))) (ovL b a1 openR) (fun t _ => t) (fun _ => (ovL b a1 openR).filter (fun x => hasV a2 x.Key)) (by omega) (fun acc i x hx => by
    have hlt := (List.getElem?_eq_some_iff.1 hx).1
    have hxe := (List.getElem?_eq_some_iff.1 hx).2
    unfold m7_l09_BufferRange_s10
    dsimp only
    have hfl := List.length_filter_le (fun x : GApiKV => hasV a2 x.Key) ((ovL b a1 openR).take i)
    rw [List.length_take] at hfl
    rw [if_pos (decide_eq_true (by omega)), idx_nat, hx, Option.bind_some, rhas_m _ _ (by have := ek x (List.mem_of_getElem? hx); omega), Option.bind_some, Option.bind_some, wI_id (by omega) (by omega), List.take_succ_eq_append_getElem hlt, List.filter_append, hxe]
    cases hh : hasV a2 x.Key with
    | true => rw [if_pos rfl, if_pos (by rw [List.length_singleton]; omega), List.filter_cons, hh]; rfl
    | false => rw [if_neg (nn (by rfl)), List.filter_cons, hh]; simp) (fun acc => by
    unfold m7_l09_BufferRange_s10
    dsimp only
    rw [if_neg (by rw [decide_eq_true_eq]; omega), List.take_length]) (.inr 0)
  have hloop' : iterB (m7_l09_BufferRange_s10 a2 (ovL b a1 openR)) fuel (0, []) = some ((ovL b a1 openR).filter (fun x => hasV a2 x.Key)) := hloop
  rw [hloop', Option.bind_some]
  unfold m7_l09_BufferRange_k6
  have he : (ovL b a1 openR).filter (fun x => hasV a2 x.Key) = ovL b a1 a2 := rise_ext (List.Pairwise.sublist (List.filter_sublist ..) (ov_rise openR hg.rise hri)) (ov_rise a2 hg.rise hri) fun x => by
    rw [List.mem_filter, ov_mem hg.rise hri, ov_mem hg.rise hri]
    constructor
    · rintro ⟨⟨_, h2, h3⟩ | ⟨w, hw, h1, _, rfl⟩, h⟩
      · exact .inl ⟨h, h2, h3⟩
      · exact .inr ⟨w, hw, h1, h, rfl⟩
    · rintro (⟨h1, h2, h3⟩ | ⟨w, hw, h1, h2, rfl⟩)
      · exact ⟨.inl ⟨open_has _, h2, h3⟩, h1⟩
      · exact ⟨.inr ⟨w, hw, h1, open_has _, rfl⟩, h2⟩
  have hra := ov_rise openR hg.rise hri
  have hol3 := ov_len b (ovL b a1 openR) openR
  rw [if_pos rfl, he, kvs_m (by omega), Option.bind_some, if_pos rfl, show (⟨[], [], true⟩ : GApiRange) = openR from rfl, over_m openR hg hra (by omega) (by decide), Option.bind_some, List.take_of_length_le (l := ovL b (ovL b a1 openR) openR) (by show _ ≤ 1000; omega)]
  have he2 : ovL b (ovL b a1 openR) openR = ovL b a1 openR := rise_ext (ov_rise openR hg.rise hra) hra fun x => by
    rw [ov_mem hg.rise hra]
    constructor
    · rintro (⟨_, h2, _⟩ | h)
      · exact h2
      · exact (ov_mem hg.rise hri).2 (.inr h)
    · intro hx
      by_cases hk : x.Key ∈ b.map wk
      · refine .inr ?_
        rcases (ov_mem hg.rise hri).1 hx with ⟨_, _, h⟩ | h
        · exact absurd hk h
        · exact h
      · exact .inl ⟨open_has _, hx, hk⟩
  rw [he2, kvs_m (by omega)]
  rfl
end Go.Proofs.Ytmkcigfeebippaa.Abs
