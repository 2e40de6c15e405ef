/-
  What Commit, Abort, Clean, Oldest and Find compute.
-/
import Derived.Test.YtbmciegldpeaiaaL11
namespace Go.Proofs.Ytbmciegldpeaiaa.Abs


theorem mayEnd_m {c : GSsiCert} (h : SC c) (a : GSsiTx) (ts : Int) (K : Keys) (hK : K.length ≤ 1000000) :
    ∃ b, m46_ssi_mayEnd c a ts K = some b ∧ (b = true ↔ a.Begin < ts ∧ ts ≤ maxTs ∧ KS K ∧ ¬ (a.RO = true ∧ K ≠ []) ∧ ∀ y ∈ c.Txs, y.End < ts) := by
  have hl := h.len
  unfold m46_ssi_mayEnd
  by_cases h1 : ts ≤ a.Begin
  · rw [if_pos (decide_eq_true h1)]
    exact ⟨false, rfl, (fun e => by cases e), fun e => by omega⟩
  rw [if_neg (by rw [decide_eq_true_eq]; exact h1)]
  by_cases h2 : 1099511627776 < ts
  · rw [if_pos (decide_eq_true h2)]
    exact ⟨false, rfl, (fun e => by cases e), fun e => by have : ts ≤ 1099511627776 := e.2.1; omega⟩
  rw [if_neg (by rw [decide_eq_true_eq]; exact h2)]
  obtain ⟨v, hv, hi⟩ := saneKeys_m K (by omega)
  rw [hv, Option.bind_some]
  cases v with
  | false => exact ⟨false, rfl, (fun e => by cases e), fun e => by have := hi.2 e.2.2.1; cases this⟩
  | true =>
  have hks := hi.1 rfl
  rw [if_neg (nn (by rfl))]
  have hk1 : ∃ b, m46_ssi_mayEnd_k1 c ts () = some b ∧ (b = true ↔ ∀ y ∈ c.Txs, y.End < ts) := by
    unfold m46_ssi_mayEnd_k1
    rw [allR c.Txs (fun y => !decide (ts ≤ y.End)) false (m46_ssi_mayEnd_s3 c ts) (by omega) (fun i x hx => by
      have hlt := (List.getElem?_eq_some_iff.1 hx).1
      unfold m46_ssi_mayEnd_s3
      rw [if_pos (decide_eq_true (by omega)), idx_nat, hx, Option.bind_some, wI_id (by omega) (by omega)]
      cases decide (ts ≤ x.End) <;> rfl) (by
      unfold m46_ssi_mayEnd_s3
      rw [if_neg (by rw [decide_eq_true_eq]; omega)])]
    cases ha : c.Txs.all (fun y => !decide (ts ≤ y.End)) with
    | true =>
      refine ⟨true, rfl, fun _ y hy => ?_, fun _ => rfl⟩
      have := List.all_eq_true.1 ha y hy
      simp only [Bool.not_eq_true', decide_eq_false_iff_not] at this
      omega
    | false =>
      refine ⟨false, rfl, (fun e => by cases e), fun e => ?_⟩
      rw [List.all_eq_true.2 fun y hy => by have := e y hy; simp only [Bool.not_eq_true', decide_eq_false_iff_not]; omega] at ha
      cases ha
  obtain ⟨b, hb, hbi⟩ := hk1
  have h2' : ts ≤ maxTs := by show ts ≤ 1099511627776; omega
  cases hro : a.RO with
  | false =>
    rw [if_neg (by decide), hb]
    exact ⟨b, rfl, hbi.trans ⟨fun e => ⟨by omega, h2', hks, fun e => (by cases e.1), e⟩, fun e => e.2.2.2.2⟩⟩
  | true =>
    rw [if_pos rfl]
    by_cases hK0 : (0 : Int) < K.length
    · rw [if_pos (decide_eq_true hK0)]
      refine ⟨false, rfl, (fun e => by cases e), fun e => absurd ⟨rfl, fun e => ?_⟩ e.2.2.2.1⟩
      rw [e] at hK0; simp at hK0
    · rw [if_neg (by rw [decide_eq_true_eq]; exact hK0), hb]
      have : K = [] := List.eq_nil_of_length_eq_zero (by omega)
      exact ⟨b, rfl, hbi.trans ⟨fun e => ⟨by omega, h2', hks, fun e => e.2 this, e⟩, fun e => e.2.2.2.2⟩⟩

theorem conflict_m {c : GSsiCert} (h : SC c) (a : GSsiTx) (h1 : a.State = 1) (K : Keys) (hK : K.length ≤ 1000000) :
    ∃ b, m47_ssi_conflict c a K = some b ∧ (b = false ↔ ∀ x ∈ c.Txs, x.State = 2 → a.Begin < x.End → ∀ k ∈ K, k ∉ x.Keys) := by
  have hl := h.len
  have hpw : ∀ x ∈ c.Txs, x.State = 2 → PW x.Keys := fun x hx hs => by
    rcases (h.each x hx).st with e | e
    · rw [hs] at e; cases e.1
    · exact e.2.2.2.1.pw
  let p : GSsiTx → Bool := fun x => decide (x.State = 2) && !decide (x.End ≤ a.Begin) && K.any (fun k => hit x.Keys k)
  have hs : m47_ssi_conflict c a K = some (c.Txs.any p) := by
    unfold m47_ssi_conflict
    rw [scanR c.Txs p (fun _ => true) (m47_ssi_conflict_s2 c a K) (by omega) (fun i x hx => by
      have hlt := (List.getElem?_eq_some_iff.1 hx).1
      have hxm := List.mem_of_getElem? hx
      unfold m47_ssi_conflict_s2
      rw [if_pos (decide_eq_true (by omega)), idx_nat, hx, Option.bind_some]
      by_cases hs : x.State = 2
      · rw [if_neg (by rw [decide_eq_true hs]; decide), show (⟨a.ID, a.Begin, a.End, a.State, a.In, a.Out, a.RO, a.Keys⟩ : GSsiTx) = a from rfl, beside_b x a h1, Option.bind_some, decide_eq_true hs, Bool.true_and, Bool.not_not]
        by_cases he : x.End ≤ a.Begin
        · rw [if_pos (decide_eq_true he), wI_id (by omega) (by omega)]
          have : p x = false := by show (_ && _ && _) = false; rw [decide_eq_true he]; simp
          rw [this]; rfl
        · rw [if_neg (by rw [decide_eq_true_eq]; exact he)]
          unfold m47_ssi_conflict_k4
          rw [scanR K (fun k => hit x.Keys k) (fun _ => true) (m47_ssi_conflict_s6 K x) (by omega) (fun j k hk => by
            have hjl := (List.getElem?_eq_some_iff.1 hk).1
            unfold m47_ssi_conflict_s6
            rw [if_pos (decide_eq_true (by omega)), idx_nat, hk, Option.bind_some, find_m _ _ (by have := h.keys x hxm; omega), Option.bind_some, wI_id (by omega) (by omega)]
            cases hit x.Keys k <;> rfl) (by
            unfold m47_ssi_conflict_s6
            rw [if_neg (by rw [decide_eq_true_eq]; omega)]), Option.bind_some]
          have hpx : p x = K.any (fun k => hit x.Keys k) := by show (_ && _ && _) = _; rw [decide_eq_true hs, decide_eq_false he]; simp
          rw [hpx]
          cases hf : K.find? (fun k => hit x.Keys k) with
          | none =>
            rw [show K.any (fun k => hit x.Keys k) = false from List.any_eq_false.2 fun k hk => by have := List.find?_eq_none.1 hf k hk; simpa using this]
            show m47_ssi_conflict_k5 _ _ = _
            unfold m47_ssi_conflict_k5
            rw [wI_id (by omega) (by omega)]; rfl
          | some k => rw [List.any_eq_true.2 ⟨k, List.mem_of_find?_eq_some hf, by have := List.find?_some hf; exact this⟩]; rfl
      · rw [if_pos (by rw [decide_eq_false hs]; rfl), wI_id (by omega) (by omega)]
        have : p x = false := by show (_ && _ && _) = false; rw [decide_eq_false hs]; rfl
        rw [this]; rfl) (by
      unfold m47_ssi_conflict_s2
      rw [if_neg (by rw [decide_eq_true_eq]; omega)]), Option.bind_some]
    cases hf : c.Txs.find? p with
    | none => rw [show c.Txs.any p = false from List.any_eq_false.2 fun k hk => by have := List.find?_eq_none.1 hf k hk; simpa using this]; rfl
    | some k => rw [List.any_eq_true.2 ⟨k, List.mem_of_find?_eq_some hf, by have := List.find?_some hf; exact this⟩]
  refine ⟨_, hs, ?_⟩
  rw [List.any_eq_false]
  constructor
  · intro hh x hx hs he k hk hkx
    refine hh x hx ?_
    show (_ && _ && _) = true
    rw [decide_eq_true hs, decide_eq_false (by omega), List.any_eq_true.2 ⟨k, hk, (hit_iff (hpw x hx hs)).2 hkx⟩]; rfl
  · intro hh x hx hp
    have hp : (decide (x.State = 2) && !decide (x.End ≤ a.Begin) && K.any (fun k => hit x.Keys k)) = true := hp
    simp only [Bool.and_eq_true, decide_eq_true_eq, Bool.not_eq_true', decide_eq_false_iff_not, List.any_eq_true] at hp
    obtain ⟨⟨hs, he⟩, k, hk, hh'⟩ := hp
    exact hh x hx hs (by omega) k hk (hit_mem hh')

def rdrs (rs : List GReadsRead) (K : Keys) : List Int := K.flatMap fun k => riseV (hitTx rs k)
theorem rdrs_mem {rs : List GReadsRead} {K : Keys} {t : Int} : t ∈ rdrs rs K ↔ ∃ r ∈ rs, r.Tx = t ∧ metV r.Rng K = true := by
  unfold rdrs
  rw [List.mem_flatMap]
  constructor
  · rintro ⟨k, hk, h⟩
    obtain ⟨x, hx, h1, h2⟩ := hitT_mem.1 h
    exact ⟨x, hx, h2, metV_iff.2 ⟨k, hk, h1⟩⟩
  · rintro ⟨r, hr, h1, h2⟩
    obtain ⟨k, hk, h3⟩ := metV_iff.1 h2
    exact ⟨k, hk, hitT_mem.2 ⟨r, hr, h3, h1⟩⟩
theorem rdrs_len (rs : List GReadsRead) : ∀ K : Keys, (rdrs rs K).length ≤ K.length * rs.length
  | [] => by simp [rdrs]
  | k :: K => by
    have ih := rdrs_len rs K
    have := hitLen rs k
    unfold rdrs at ih ⊢
    rw [List.flatMap_cons, List.length_append, List.length_cons, Nat.succ_mul]
    omega
theorem readersOf_m {c : GSsiCert} (h : SC c) (K : Keys) (hK : K.length ≤ 1000000) : m49_ssi_readersOfo c K = some (rdrs c.Reads.L K) := by
  have hg := h.gr.len
  unfold m49_ssi_readersOfo
  rw [collB K (fun k => riseV (hitTx c.Reads.L k)) (m49_ssi_readersOfo_s2 c K) 128 (fun k => by have := hitLen c.Reads.L k; omega) (by omega) (fun i x acc hx ha => by
    have hlt := (List.getElem?_eq_some_iff.1 hx).1
    have := hitLen c.Reads.L x
    unfold m49_ssi_readersOfo_s2
    dsimp only
    rw [if_pos (decide_eq_true (by omega)), idx_nat, hx, Option.bind_some, hits_m (by omega), Option.bind_some, if_pos (by omega), wI_id (by omega) (by omega)]
    rfl) (fun acc => by
    unfold m49_ssi_readersOfo_s2
    dsimp only
    rw [if_neg (by rw [decide_eq_true_eq]; omega)]), Option.bind_some]
  rfl

theorem passLoop {c : GSsiCert} (h : SC c) (K : Keys) (hK : K.length ≤ 10) {n : Nat} {a : GSsiTx} (ha : c.Txs[n]? = some a) (h1 : a.State = 1) :
    ∃ b l, m48_ssi_passeds c.Txs (n : Int) (rdrs c.Reads.L K) = some (b, l) ∧ l.length = c.Txs.length ∧
      (b = false → ∃ x ∈ c.Txs, hitT c.Reads.L a K x = true ∧ x.State = 2 ∧ x.In = true) ∧
      (b = true → (∀ (j : Nat) (x : GSsiTx), c.Txs[j]? = some x → l[j]? = some (if j = n then { x with In := x.In || c.Txs.any (hitT c.Reads.L a K) } else if hitT c.Reads.L a K x = true then { x with Out := true } else x)) ∧ ∀ x ∈ c.Txs, hitT c.Reads.L a K x = true → x.State = 2 → x.In = false) := by
  have hl := h.len
  have hg := h.gr.len
  have hrl := rdrs_len c.Reads.L K
  have hrl' : (rdrs c.Reads.L K).length ≤ 1280 := Nat.le_trans hrl (Nat.le_trans (Nat.mul_le_mul hK hg) (by decide))
  have ham := List.mem_of_getElem? ha
  have hpa : hitT c.Reads.L a K a = false := by unfold hitT; rw [decide_eq_true rfl]; rfl
  let F := midF c.Txs n (hitT c.Reads.L a K) (fun b x => { x with In := x.In || b }) (fun x => { x with Out := true })
  have key : ∃ v, iter (m48_ssi_passeds_s2 c.Txs (n : Int) (rdrs c.Reads.L K)) fuel (0, c.Txs) = some v ∧
      (match v with
        | .inl q => q.1 = false ∧ q.2.length = c.Txs.length ∧ ∃ x ∈ c.Txs, hitT c.Reads.L a K x = true ∧ x.State = 2 ∧ x.In = true
        | .inr l => l.length = c.Txs.length ∧ (∀ (j : Nat) (x : GSsiTx), c.Txs[j]? = some x → l[j]? = some (F c.Txs.length j x)) ∧ ∀ x ∈ c.Txs, hitT c.Reads.L a K x = true → x.State = 2 → x.In = false) := by
    refine iter_inv (f := m48_ssi_passeds_s2 c.Txs (n : Int) (rdrs c.Reads.L K)) (P := fun s => ∃ i : Nat, i ≤ c.Txs.length ∧ s.1 = (i : Int) ∧ s.2.length = c.Txs.length ∧ (∀ (j : Nat) (x : GSsiTx), c.Txs[j]? = some x → s.2[j]? = some (F i j x)) ∧ ∀ x ∈ c.Txs.take i, hitT c.Reads.L a K x = true → x.State = 2 → x.In = false) (μ := fun s => c.Txs.length - s.1.toNat) (R := fun v => match v with
        | .inl q => q.1 = false ∧ q.2.length = c.Txs.length ∧ ∃ x ∈ c.Txs, hitT c.Reads.L a K x = true ∧ x.State = 2 ∧ x.In = true
        | .inr l => l.length = c.Txs.length ∧ (∀ (j : Nat) (x : GSsiTx), c.Txs[j]? = some x → l[j]? = some (F c.Txs.length j x)) ∧ ∀ x ∈ c.Txs, hitT c.Reads.L a K x = true → x.State = 2 → x.In = false) ?_ fuel (0, c.Txs) ⟨0, Nat.zero_le _, rfl, rfl, fun j x hx => ?_, by simp⟩ (lt_fuel (by show c.Txs.length - 0 ≤ _; omega))
    · rintro ⟨_, l⟩ ⟨i, hi, rfl, hll, hF, hno⟩
      dsimp only at hll hF
      unfold m48_ssi_passeds_s2
      dsimp only
      rcases Nat.lt_or_ge i c.Txs.length with hlt | hge
      · have hx := List.getElem?_eq_getElem hlt
        generalize c.Txs[i] = x at hx
        have hxm := List.mem_of_getElem? hx
        have htk : ∀ {y}, y ∈ c.Txs.take (i + 1) → y ∈ c.Txs.take i ∨ y = x := fun {y} hy => by
          rw [List.take_succ_eq_append_getElem hlt, List.mem_append, List.mem_singleton] at hy
          rcases hy with hy | hy
          · exact .inl hy
          · rw [List.getElem?_eq_getElem hlt] at hx
            exact .inr (hy.trans (Option.some.inj hx))
        have hstep : hitT c.Reads.L a K x = false → ∃ s', (some (LR.cont (wI ((i : Int) + 1), l)) : Option (LR (Int × List GSsiTx) (List GSsiTx) (Bool × List GSsiTx))) = some (.cont s') ∧ (∃ k : Nat, k ≤ c.Txs.length ∧ s'.1 = (k : Int) ∧ s'.2.length = c.Txs.length ∧ (∀ (j : Nat) (x : GSsiTx), c.Txs[j]? = some x → s'.2[j]? = some (F k j x)) ∧ ∀ x ∈ c.Txs.take k, hitT c.Reads.L a K x = true → x.State = 2 → x.In = false) ∧ c.Txs.length - s'.1.toNat < c.Txs.length - (i : Int).toNat := fun hp => by
          refine ⟨_, rfl, ⟨i + 1, hlt, by rw [wI_id (by omega) (by omega)]; rfl, hll, fun j y hy => ?_, fun y hy hpy => ?_⟩, by rw [wI_id (by omega) (by omega)]; omega⟩
          · show l[j]? = some (midF _ _ _ _ _ (i + 1) j y)
            rw [midF_step _ _ _ _ _ hx hp j y hy]; exact hF j y hy
          · rcases htk hy with hy | hy
            · exact hno y hy hpy
            · rw [hy, hp] at hpy; cases hpy
        rw [if_pos (decide_eq_true (by omega)), idx_nat, hF i x hx, Option.bind_some]
        by_cases hin : i = n
        · subst hin
          have : x = a := by rw [ha] at hx; exact (Option.some.inj hx).symm
          subst this
          left
          rw [if_pos (decide_eq_true rfl)]
          exact hstep hpa
        · have hid : x.ID ≠ a.ID := fun e => by
            have hya := h.one hxm ham e
            obtain ⟨p1, p2⟩ := List.getElem?_eq_some_iff.1 hx
            obtain ⟨q1, q2⟩ := List.getElem?_eq_some_iff.1 ha
            rcases Nat.lt_or_gt_of_ne hin with hh | hh
            · have := List.pairwise_iff_getElem.1 h.ids i n p1 q1 hh
              rw [p2, q2] at this; exact this e
            · have := List.pairwise_iff_getElem.1 h.ids n i q1 p1 hh
              rw [p2, q2] at this; exact this e.symm
          have eF : F i i x = x := by show midF _ _ _ _ _ i i x = _; unfold midF; rw [if_neg hin, if_neg (fun e => by omega)]
          rw [eF]
          have hFa : F i n a = { a with In := a.In || (c.Txs.take i).any (hitT c.Reads.L a K) } := by show midF _ _ _ _ _ i n a = _; unfold midF; rw [if_pos rfl]
          rw [if_neg (by rw [decide_eq_true_eq]; omega), contains_m _ _ (by omega), Option.bind_some]
          by_cases hc : x.ID ∈ rdrs c.Reads.L K
          · rw [decide_eq_true hc, if_neg (by decide), idx_nat, hF n a ha, Option.bind_some, beside_a x _ (by rw [hFa]; exact h1), Option.bind_some, Bool.not_not]
            rw [show (F i n a).Begin = a.Begin from by rw [hFa]]
            cases hb : (decide (x.State = 2) && decide (x.End ≤ a.Begin)) with
            | true =>
              rw [if_pos rfl]
              exact .inl (hstep (by unfold hitT; rw [hb]; simp))
            | false =>
              have hp : hitT c.Reads.L a K x = true := by
                unfold hitT
                rw [hb, decide_eq_false hid]
                obtain ⟨r, hr, e1, e2⟩ := rdrs_mem.1 hc
                rw [List.any_eq_true.2 ⟨r, hr, by rw [decide_eq_true e1, e2]; rfl⟩]; rfl
              rw [if_neg (by decide)]
              unfold m48_ssi_passeds_k4 m43_ssi_passings
              dsimp only
              rw [Option.bind_some, on_m l i n hin (by rw [hF i x hx, eF]) (hF n a ha), Option.bind_some, if_pos (by simp)]
              have hnew : ∀ (j : Nat) (y : GSsiTx), c.Txs[j]? = some y → ((l.set i { x with Out := true }).set n { (F i n a) with In := true })[j]? = some (F (i + 1) j y) := fun j y hy => by
                show (List.set _ n _)[j]? = some (midF _ _ _ _ _ (i + 1) j y)
                have hjl := (List.getElem?_eq_some_iff.1 hy).1
                unfold midF
                by_cases hjn : j = n
                · subst hjn
                  rw [ha] at hy
                  have := Option.some.inj hy
                  subst this
                  rw [List.getElem?_set_self (by rw [List.length_set]; omega), if_pos rfl, List.take_succ_eq_append_getElem hlt, List.any_append, hFa]
                  have : c.Txs[i] = x := by rw [List.getElem?_eq_getElem hlt] at hx; exact Option.some.inj hx
                  rw [this]
                  simp only [List.any_cons, List.any_nil, hp, Bool.or_true, Bool.true_or]
                · rw [List.getElem?_set_ne (fun e => hjn e.symm)]
                  by_cases hji : j = i
                  · subst hji
                    rw [hx] at hy
                    have := Option.some.inj hy
                    subst this
                    rw [List.getElem?_set_self (by omega), if_neg hin, if_pos ⟨by omega, hp⟩]
                  · rw [List.getElem?_set_ne (fun e => hji e.symm), if_neg hjn, hF j y hy]
                    show some (midF _ _ _ _ _ i j y) = _
                    unfold midF
                    rw [if_neg hjn]
                    by_cases hlt' : j < i
                    · simp only [hlt', show j < i + 1 from by omega]
                    · simp only [hlt', show ¬ j < i + 1 from by omega]
              have hgo : (x.State = 2 → x.In = false) → ∃ s', (some (LR.cont (wI ((i : Int) + 1), (l.set i { x with Out := true }).set n { (F i n a) with In := true })) : Option (LR (Int × List GSsiTx) (List GSsiTx) (Bool × List GSsiTx))) = some (.cont s') ∧ (∃ k : Nat, k ≤ c.Txs.length ∧ s'.1 = (k : Int) ∧ s'.2.length = c.Txs.length ∧ (∀ (j : Nat) (x : GSsiTx), c.Txs[j]? = some x → s'.2[j]? = some (F k j x)) ∧ ∀ x ∈ c.Txs.take k, hitT c.Reads.L a K x = true → x.State = 2 → x.In = false) ∧ c.Txs.length - s'.1.toNat < c.Txs.length - (i : Int).toNat := fun hxi => by
                refine ⟨_, rfl, ⟨i + 1, hlt, by rw [wI_id (by omega) (by omega)]; rfl, by simp [hll], hnew, fun y hy hpy hsy => ?_⟩, by rw [wI_id (by omega) (by omega)]; omega⟩
                rcases htk hy with hy | hy
                · exact hno y hy hpy hsy
                · rw [hy] at hsy ⊢; exact hxi hsy
              by_cases hs : x.State = 2
              · rw [if_pos (decide_eq_true hs), idx_nat, hnew i x hx, Option.bind_some, pivot_m, Option.bind_some]
                have eF' : F (i + 1) i x = { x with Out := true } := by show midF _ _ _ _ _ (i + 1) i x = _; unfold midF; rw [if_neg hin, if_pos ⟨by omega, hp⟩]
                rw [eF']
                dsimp only
                rw [Bool.and_true]
                by_cases hio : x.In = true
                · rw [if_pos hio]
                  exact .inr (.inr ⟨_, rfl, rfl, by simp [hll], x, hxm, hp, hs, hio⟩)
                · rw [if_neg hio]
                  exact .inl (hgo fun _ => by simpa using hio)
              · rw [if_neg (by rw [decide_eq_true_eq]; exact hs)]
                exact .inl (hgo fun e => absurd e hs)
          · rw [decide_eq_false hc, if_pos (by rfl)]
            refine .inl (hstep ?_)
            cases hh : hitT c.Reads.L a K x with
            | false => rfl
            | true =>
              obtain ⟨_, ⟨r, hr, e1, e2⟩, _⟩ := hitT_iff.1 hh
              exact absurd (rdrs_mem.2 ⟨r, hr, e1, e2⟩) hc
      · have e : i = c.Txs.length := by omega
        subst e
        rw [if_neg (by rw [decide_eq_true_eq]; omega)]
        exact .inr (.inl ⟨_, rfl, hll, hF, by rw [List.take_length] at hno; exact hno⟩)
    · show c.Txs[j]? = some (midF _ _ _ _ _ 0 j x)
      rw [hx]
      unfold midF
      rw [List.take_zero]
      simp only [List.any_nil, Bool.or_false, Nat.not_lt_zero, false_and, if_false]
      split <;> rfl
  obtain ⟨v, hv, hr⟩ := key
  unfold m48_ssi_passeds
  rw [hv, Option.bind_some]
  cases v with
  | inl q =>
    obtain ⟨b, l⟩ := q
    obtain ⟨e, h2, h3⟩ := hr
    have e : b = false := e
    subst e
    exact ⟨false, l, rfl, h2, fun _ => h3, fun e => by cases e⟩
  | inr l =>
    obtain ⟨h2, h3, h4⟩ := hr
    refine ⟨true, l, rfl, h2, (fun e => by cases e), fun _ => ⟨fun j x hx => ?_, h4⟩⟩
    rw [h3 j x hx]
    show some (midF _ _ _ _ _ _ j x) = _
    have hjl := (List.getElem?_eq_some_iff.1 hx).1
    unfold midF
    rw [List.take_length]
    simp only [hjl, true_and]

/-- Commit. -/
theorem commit_m {c : GSsiCert} (h : SC c) (id ts : Int) (K : Keys) (hK : K.length ≤ 10) :
    ((∀ x ∈ c.Txs, x.ID = id → x.State ≠ 1) ∧ m20_ssi_Commit c id ts K = some (cN, 7)) ∨
    ∃ a ∈ c.Txs, a.ID = id ∧ a.State = 1 ∧
      ((¬ (a.Begin < ts ∧ ts ≤ maxTs ∧ KS K ∧ ¬ (a.RO = true ∧ K ≠ []) ∧ ∀ y ∈ c.Txs, y.End < ts) ∧ m20_ssi_Commit c id ts K = some (cN, 1)) ∨
       ((a.Begin < ts ∧ ts ≤ maxTs ∧ KS K ∧ ¬ (a.RO = true ∧ K ≠ []) ∧ ∀ y ∈ c.Txs, y.End < ts) ∧
         ((¬ (∀ x ∈ c.Txs, x.State = 2 → a.Begin < x.End → ∀ k ∈ K, k ∉ x.Keys) ∧ m20_ssi_Commit c id ts K = some (cN, 9)) ∨
          ((∀ x ∈ c.Txs, x.State = 2 → a.Begin < x.End → ∀ k ∈ K, k ∉ x.Keys) ∧
            (((∃ x ∈ c.Txs, hitT c.Reads.L a K x = true ∧ x.State = 2 ∧ x.In = true) ∨ ((a.In || c.Txs.any (hitT c.Reads.L a K)) = true ∧ a.Out = true)) ∧ m20_ssi_Commit c id ts K = some (cN, 10) ∨
             (∀ x ∈ c.Txs, hitT c.Reads.L a K x = true → x.State = 2 → x.In = false) ∧ ¬ ((a.In || c.Txs.any (hitT c.Reads.L a K)) = true ∧ a.Out = true) ∧ m20_ssi_Commit c id ts K = some (⟨c.Txs.map (doneF c.Txs c.Reads.L a ts K), c.Reads⟩, 0)))))) := by
  unfold m20_ssi_Commit
  rw [show (⟨c.Txs, ⟨c.Reads.L⟩⟩ : GSsiCert) = c from rfl, sane_c h, Option.bind_some, if_neg (nn (by rfl))]
  rcases active_m h id with ⟨h1, e⟩ | ⟨n, a, ha, e1, h1, e⟩
  · rw [e, Option.bind_some]
    exact .inl ⟨h1, rfl⟩
  right
  have ham := List.mem_of_getElem? ha
  have hl := h.len
  refine ⟨a, ham, e1, h1, ?_⟩
  rw [e, Option.bind_some, if_neg (by rw [decide_eq_true_eq]; omega), idx_nat, ha, Option.bind_some]
  obtain ⟨b, hb, hbi⟩ := mayEnd_m h a ts K (by omega)
  rw [hb, Option.bind_some]
  cases b with
  | false => exact .inl ⟨fun hc => (by have := hbi.2 hc; cases this), rfl⟩
  | true =>
  right
  refine ⟨hbi.1 rfl, ?_⟩
  rw [if_neg (by decide), Option.bind_some]
  obtain ⟨b, hb, hbi⟩ := conflict_m h a h1 K (by omega)
  rw [hb, Option.bind_some]
  cases b with
  | true => exact .inl ⟨fun hc => (by have := hbi.2 hc; cases this), rfl⟩
  | false =>
  right
  refine ⟨hbi.1 rfl, ?_⟩
  rw [if_neg (by decide), clone_m _ (by omega), Option.bind_some, readersOf_m h K (by omega), Option.bind_some]
  obtain ⟨b, l, hp, hll, hf, ht⟩ := passLoop h K hK ha h1
  rw [hp, Option.bind_some, if_pos hll]
  cases b with
  | false => exact .inl ⟨.inl (hf rfl), rfl⟩
  | true =>
  obtain ⟨hj, hno⟩ := ht rfl
  have hln := hj n a ha
  rw [if_pos rfl] at hln
  rw [if_neg (by simp)]
  dsimp only
  rw [idx_nat, hln, Option.bind_some, pivot_m, Option.bind_some]
  dsimp only
  by_cases hpv : (a.In || c.Txs.any (hitT c.Reads.L a K)) = true ∧ a.Out = true
  · rw [if_pos (by rw [hpv.1, hpv.2]; rfl)]
    exact .inl ⟨.inr hpv, rfl⟩
  · rw [if_neg (by rw [Bool.and_eq_true]; exact hpv)]
    refine .inr ⟨hno, hpv, ?_⟩
    have hnl : n < l.length := (List.getElem?_eq_some_iff.1 hln).1
    unfold m20_ssi_Commit_k8
    rw [idx_nat, hln, Option.bind_some]
    dsimp only
    rw [idx_nat, Int.toNat_natCast, List.getElem?_set_self hnl, Option.bind_some]
    dsimp only
    rw [idx_nat, List.getElem?_set_self (by rw [List.length_set]; exact hnl), Option.bind_some, List.set_set, List.set_set]
    congr 2
    show (GSsiCert.mk _ _) = _
    congr 1
    apply List.ext_getElem?
    intro j
    rw [List.getElem?_map]
    cases hy : c.Txs[j]? with
    | none =>
      have hy := List.getElem?_eq_none_iff.1 hy
      exact List.getElem?_eq_none_iff.2 (by rw [List.length_set]; omega)
    | some y =>
      show _ = some (doneF _ _ _ _ _ y)
      unfold doneF
      by_cases hjn : j = n
      · subst hjn
        rw [ha] at hy
        have := Option.some.inj hy
        subst this
        rw [List.getElem?_set_self hnl, if_pos rfl]
      · have hne : y.ID ≠ a.ID := fun e => by
          have hya := h.one (List.mem_of_getElem? hy) ham e
          obtain ⟨p1, p2⟩ := List.getElem?_eq_some_iff.1 hy
          obtain ⟨q1, q2⟩ := List.getElem?_eq_some_iff.1 ha
          rcases Nat.lt_or_gt_of_ne hjn with hh | hh
          · have := List.pairwise_iff_getElem.1 h.ids j n p1 q1 hh
            rw [p2, q2] at this; exact this e
          · have := List.pairwise_iff_getElem.1 h.ids n j q1 p1 hh
            rw [p2, q2] at this; exact this e.symm
        rw [List.getElem?_set_ne (fun e => hjn e.symm), hj j y hy, if_neg hjn, if_neg hne]

/-- What goes. -/
theorem without_m {c : GSsiCert} (h : SC c) (gone : List Int) (hg : gone.length ≤ 1000000) : m36_ssi_without c gone = some ⟨c.Txs.filter (fun x => !decide (x.ID ∈ gone)), ⟨onlyV c.Reads.L gone false⟩⟩ := by
  have hl := h.len
  unfold m36_ssi_without
  rw [collB c.Txs (fun x => if (!decide (x.ID ∈ gone)) = true then [x] else []) (m36_ssi_without_s3 c gone) 1 (fun x => by split <;> simp) (by omega) (fun i x acc hx ha => by
    have hlt := (List.getElem?_eq_some_iff.1 hx).1
    unfold m36_ssi_without_s3
    dsimp only
    rw [if_pos (decide_eq_true (by omega)), idx_nat, hx, Option.bind_some, contains_m _ _ hg, Option.bind_some, wI_id (by omega) (by omega)]
    cases decide (x.ID ∈ gone) with
    | true => rw [if_neg (by decide), if_neg (by decide), List.append_nil]; rfl
    | false => rw [if_pos (by rfl), if_pos (by rw [List.length_singleton]; omega), if_pos (by rfl)]; rfl) (fun acc => by
    unfold m36_ssi_without_s3
    dsimp only
    rw [if_neg (by rw [decide_eq_true_eq]; omega)]), Option.bind_some, flat_opt, List.map_id']
  unfold m36_ssi_without_k1
  rw [drop_m (by have := h.gr.len; omega) _ hg]; rfl
theorem abort_m {c : GSsiCert} (h : SC c) (id : Int) : ((∀ x ∈ c.Txs, x.ID = id → x.State ≠ 1) ∧ m15_ssi_Abort c id = some c) ∨
    ((∃ a ∈ c.Txs, a.ID = id ∧ a.State = 1) ∧ m15_ssi_Abort c id = some ⟨c.Txs.filter (fun x => !decide (x.ID ∈ [id])), ⟨onlyV c.Reads.L [id] false⟩⟩) := by
  unfold m15_ssi_Abort
  rw [show (⟨c.Txs, ⟨c.Reads.L⟩⟩ : GSsiCert) = c from rfl]
  rcases active_m h id with ⟨h1, e⟩ | ⟨n, a, ha, e1, h1, e⟩
  · rw [e, Option.bind_some]
    exact .inl ⟨h1, rfl⟩
  · rw [e, Option.bind_some, if_neg (by rw [decide_eq_true_eq]; omega), without_m h _ (by simp)]
    exact .inr ⟨⟨a, List.mem_of_getElem? ha, e1, h1⟩, rfl⟩
def oldV (l : List GSsiTx) (now : Int) : Int := l.foldl (fun m x => if x.State = 1 then (if x.Begin < m then x.Begin else m) else m) now
theorem oldest_m (c : GSsiCert) (now : Int) (hl : c.Txs.length ≤ 1000000) : m23_ssi_Oldest c now = some (oldV c.Txs now) := by
  unfold m23_ssi_Oldest
  show (iterB _ fuel (now, ((0 : Nat) : Int))).bind _ = _
  rw [iterB_fold (f := m23_ssi_Oldest_s2 c) (fun (m : Int) (i : Nat) => (m, (i : Int))) c.Txs (fun m x => if x.State = 1 then (if x.Begin < m then x.Begin else m) else m) (fun m => m) (by omega) (fun acc i x hx => by
    have hlt := (List.getElem?_eq_some_iff.1 hx).1
    unfold m23_ssi_Oldest_s2
    dsimp only
    rw [if_pos (decide_eq_true (by omega)), idx_nat, hx, Option.bind_some, wI_id (by omega) (by omega)]
    by_cases hs : x.State = 1
    · rw [if_pos (decide_eq_true hs), if_pos hs]; rfl
    · rw [if_neg (by rw [decide_eq_true_eq]; exact hs), if_neg hs]; rfl) (fun acc => by
    unfold m23_ssi_Oldest_s2
    dsimp only
    rw [if_neg (by rw [decide_eq_true_eq]; omega)])]
  rfl
theorem oldV_le {l : List GSsiTx} : ∀ {now m : Int}, m ≤ oldV l now ↔ m ≤ now ∧ ∀ x ∈ l, x.State = 1 → m ≤ x.Begin := by
  induction l with
  | nil => intro now m; simp [oldV]
  | cons a l ih =>
    intro now m
    show m ≤ oldV l _ ↔ _
    rw [ih]
    constructor
    · rintro ⟨h1, h2⟩
      have h1 : m ≤ (if a.State = 1 then (if a.Begin < now then a.Begin else now) else now) := h1
      by_cases hs : a.State = 1
      · rw [if_pos hs] at h1
        split at h1
        · exact ⟨by omega, fun x hx h => by
            rcases List.mem_cons.1 hx with e | hx
            · rw [e]; omega
            · exact h2 x hx h⟩
        · exact ⟨by omega, fun x hx h => by
            rcases List.mem_cons.1 hx with e | hx
            · rw [e]; omega
            · exact h2 x hx h⟩
      · rw [if_neg hs] at h1
        exact ⟨h1, fun x hx h => by
          rcases List.mem_cons.1 hx with e | hx
          · rw [e] at h; exact absurd h hs
          · exact h2 x hx h⟩
    · rintro ⟨h1, h2⟩
      refine ⟨?_, fun x hx h => h2 x (List.mem_cons_of_mem _ hx) h⟩
      show m ≤ (if a.State = 1 then (if a.Begin < now then a.Begin else now) else now)
      by_cases hs : a.State = 1
      · have := h2 a (List.mem_cons_self ..) hs
        rw [if_pos hs]
        split <;> omega
      · rw [if_neg hs]; exact h1
/-- One is Done, and none that is Active lies beside it. -/
def goneV (l : List GSsiTx) (x : GSsiTx) : Bool := decide (x.State = 2) && decide (x.End ≤ oldV l x.End)
theorem goneV_iff {l : List GSsiTx} {x : GSsiTx} : goneV l x = true ↔ x.State = 2 ∧ ∀ a ∈ l, a.State = 1 → x.End ≤ a.Begin := by
  unfold goneV
  rw [Bool.and_eq_true, decide_eq_true_eq, decide_eq_true_eq, oldV_le]
  exact ⟨fun h => ⟨h.1, h.2.2⟩, fun h => ⟨h.1, Int.le_refl _, h.2⟩⟩
theorem clean_m {c : GSsiCert} (h : SC c) : m16_ssi_Clean c = some ⟨c.Txs.filter (fun x => !decide (x.ID ∈ (c.Txs.filter (goneV c.Txs)).map (·.ID))), ⟨onlyV c.Reads.L ((c.Txs.filter (goneV c.Txs)).map (·.ID)) false⟩⟩ := by
  have hl := h.len
  unfold m16_ssi_Clean
  rw [collB c.Txs (fun x => if goneV c.Txs x = true then [x.ID] else []) (m16_ssi_Clean_s3 c) 1 (fun x => by split <;> simp) (by omega) (fun i x acc hx ha => by
    have hlt := (List.getElem?_eq_some_iff.1 hx).1
    unfold m16_ssi_Clean_s3
    dsimp only
    rw [if_pos (decide_eq_true (by omega)), idx_nat, hx, Option.bind_some, show (⟨c.Txs, ⟨c.Reads.L⟩⟩ : GSsiCert) = c from rfl, oldest_m _ _ (by omega), Option.bind_some, wI_id (by omega) (by omega)]
    unfold goneV
    by_cases hs : x.State = 2
    · rw [if_pos (decide_eq_true hs), decide_eq_true hs, Bool.true_and]
      by_cases he : x.End ≤ oldV c.Txs x.End
      · rw [if_pos (decide_eq_true he), if_pos (by rw [List.length_singleton]; omega), if_pos (decide_eq_true he)]; rfl
      · rw [if_neg (by rw [decide_eq_true_eq]; exact he), if_neg (by rw [decide_eq_true_eq]; exact he), List.append_nil]; rfl
    · rw [if_neg (by rw [decide_eq_true_eq]; exact hs), decide_eq_false hs, Bool.false_and, if_neg (by decide), List.append_nil]; rfl) (fun acc => by
    unfold m16_ssi_Clean_s3
    dsimp only
    rw [if_neg (by rw [decide_eq_true_eq]; omega)]), Option.bind_some, flat_opt]
  unfold m16_ssi_Clean_k1
  rw [show (⟨c.Txs, ⟨c.Reads.L⟩⟩ : GSsiCert) = c from rfl, without_m h _ (by rw [List.length_map]; have := List.length_filter_le (goneV c.Txs) c.Txs; omega)]
  rfl
end Go.Proofs.Ytbmciegldpeaiaa.Abs
