/-
  Stores: what nobody sees goes.
-/
import Derived.Test.YtbojepclnfnmcaaK08e
namespace Go.Proofs.Ytbojepclnfnmcaa.Abs


abbrev KC := List UInt8 × GChainChain
def vac1 (o : Int) (p : KC) : List KC := if 0 < (p.2.L.drop (gone p.2.L o)).length then [(p.1, ⟨p.2.L.drop (gone p.2.L o)⟩)] else []
def vacP (o : Int) (K : Keys) (C : List GChainChain) : List KC := (K.zip C).flatMap (vac1 o)

theorem flat_congr {α β : Type} {f g : α → List β} : ∀ {l : List α}, (∀ x ∈ l, f x = g x) → l.flatMap f = l.flatMap g
  | [], _ => rfl
  | x :: l, h => by
    rw [List.flatMap_cons, List.flatMap_cons, h x (List.mem_cons_self ..), flat_congr fun y hy => h y (List.mem_cons_of_mem _ hy)]
theorem zip_maps {α β : Type} : ∀ l : List (α × β), (l.map (·.1)).zip (l.map (·.2)) = l
  | [] => rfl
  | (a, b) :: l => by
    show (a, b) :: (l.map (·.1)).zip (l.map (·.2)) = _
    rw [zip_maps l]
theorem vac1_len (o : Int) (p : KC) : (vac1 o p).length ≤ 1 := by
  unfold vac1; split <;> simp

theorem vacS_m {K : Keys} {C : List GChainChain} {T : Int} {B : Nat} (h : OkS K C T B) (hB : B ≤ 1000) (hK : K.length ≤ 128) (o : Int) :
    m25_store_Vacuum ⟨K, C, T⟩ o = some ⟨(vacP (if T < o then T else o) K C).map (·.1), (vacP (if T < o then T else o) K C).map (·.2), T⟩ := by
  have hcl := h.cl
  have hzl : (K.zip C).length = C.length := by rw [List.length_zip]; omega
  unfold m25_store_Vacuum
  rw [ssane_m h hB hK, Option.bind_some, if_neg (by decide)]
  obtain ⟨v, hv, hr⟩ := iterB_inv (f := m25_store_Vacuum_s3 ⟨K, C, T⟩ o) (P := fun s => ∃ i : Nat, i ≤ C.length ∧ s = ((i : Int), (((K.zip C).take i).flatMap (vac1 (if T < o then T else o))).map (·.1), (((K.zip C).take i).flatMap (vac1 (if T < o then T else o))).map (·.2))) (μ := fun s => C.length - s.1.toNat)
    (R := fun v => v = ((vacP (if T < o then T else o) K C).map (·.1), (vacP (if T < o then T else o) K C).map (·.2))) (by
      rintro _ ⟨i, hi, rfl⟩
      unfold m25_store_Vacuum_s3
      dsimp only
      generalize (if T < o then T else o) = o'
      rcases Nat.lt_or_ge i C.length with hlt | hge
      · left
        have hc := List.getElem?_eq_getElem hlt
        have hx : K[i]? = some (K[i]'(by omega)) := List.getElem?_eq_getElem (by omega)
        have hst := flat_step (f := vac1 o') (zip_get hx hc)
        have hlen : (((K.zip C).take i).flatMap (vac1 o')).length ≤ 128 := by
          refine Nat.le_trans (flat8_len _ (vac1_len o') _) ?_
          rw [List.length_take]; omega
        obtain ⟨h1, h2, h3, h4⟩ := h.cs _ (List.getElem_mem hlt)
        rw [if_pos (decide_eq_true (by omega)), idx_nat, hc, Option.bind_some, vac_eq (by omega) h2, Option.bind_some]
        dsimp only
        by_cases hd : 0 < ((C[i].L.drop (gone C[i].L o')).length : Int)
        · have e : vac1 o' (K[i]'(by omega), C[i]) = [(K[i]'(by omega), ⟨C[i].L.drop (gone C[i].L o')⟩)] := if_pos (by dsimp only; omega)
          rw [if_pos (decide_eq_true hd), idx_nat, hx, Option.bind_some, if_pos (by rw [List.length_map, List.length_singleton]; omega), if_pos (by rw [List.length_map, List.length_singleton]; omega)]
          refine ⟨_, rfl, ⟨i + 1, hlt, ?_⟩, by simp only [wI_id (show -9223372036854775808 ≤ (i : Int) + 1 by omega) (by omega)]; omega⟩
          rw [wI_id (by omega) (by omega), hst, e, List.map_append, List.map_append]; rfl
        · have e : vac1 o' (K[i]'(by omega), C[i]) = [] := if_neg (by dsimp only; omega)
          rw [if_neg (by rw [decide_eq_true_eq]; exact hd)]
          refine ⟨_, rfl, ⟨i + 1, hlt, ?_⟩, by simp only [wI_id (show -9223372036854775808 ≤ (i : Int) + 1 by omega) (by omega)]; omega⟩
          rw [wI_id (by omega) (by omega), hst, e, List.append_nil]; rfl
      · right
        have e : i = C.length := by omega
        subst e
        rw [if_neg (by rw [decide_eq_true_eq]; omega)]
        refine ⟨_, rfl, ?_⟩
        unfold vacP
        rw [← hzl, List.take_length]) fuel (0, [], []) ⟨0, Nat.zero_le _, by simp⟩ (lt_fuel (by show C.length - 0 ≤ _; omega))
  rw [hv, Option.bind_some, hr]
  rfl

theorem last_drop {l : List GChainVer} {n : Nat} (h : n < l.length) : lastTs (l.drop n) = lastTs l := by
  unfold lastTs
  rw [List.length_drop, List.getElem?_drop, show n + (l.length - n - 1) = l.length - 1 by omega]
theorem valC_drop {l : List GChainVer} (h : l.length ≤ 60) (hk : OkC l) {o t : Int} (hot : o ≤ t) : valC (l.drop (gone l o)) t = valC l t := by
  obtain ⟨r, h1, h2⟩ := value_drop (c := ⟨l⟩) h hk hot
  rw [value_m (c := ⟨l⟩) (by show l.length ≤ _; omega)] at h1
  rw [value_m (c := ⟨l.drop (gone l o)⟩) (by show (l.drop (gone l o)).length ≤ _; rw [List.length_drop]; omega)] at h2
  exact Option.some.inj (h2.trans h1.symm)
theorem gone_drop {l : List GChainVer} (hk : OkC l) (o : Int) : gone (l.drop (gone l o)) o = 0 := by
  have hle := pc_le l o
  have hgl := gone_le l o
  have hpd := pc_drop hk o (gone l o) (by omega)
  rcases gone_eq l o with ⟨h1, h2⟩ | ⟨v, h1, h2, h3⟩
  · rw [h2, List.drop_zero, h2]
  · rcases gone_eq (l.drop (gone l o)) o with ⟨_, h5⟩ | ⟨w, h4, h5, h6⟩
    · exact h5
    · rw [hpd] at h4 h5 h6
      cases hd : v.Del with
      | true => rw [hd, if_pos rfl] at h3; omega
      | false =>
        rw [hd, if_neg (by decide)] at h3
        rw [List.getElem?_drop, show gone l o + (pc l o - gone l o - 1) = pc l o - 1 by omega, h2] at h5
        cases h5
        rw [hd, if_neg (by decide)] at h6
        omega
theorem gone_last {l : List GChainVer} (hk : OkC l) (hne : l ≠ []) {o : Int} (h : ¬ 0 < (l.drop (gone l o)).length) : lastTs l ≤ o := by
  have hle := pc_le l o
  have hgl := gone_le l o
  have hpos : 0 < l.length := List.length_pos_iff.2 hne
  rw [List.length_drop] at h
  have hg := List.getElem?_eq_getElem (show l.length - 1 < l.length by omega)
  have := (pc_iff hk o hg).1 (by omega)
  unfold lastTs
  rw [hg]
  exact this

theorem mem_vacP {o : Int} {K : Keys} {C : List GChainChain} {q : KC} (h : q ∈ vacP o K C) : ∃ c, (q.1, c) ∈ K.zip C ∧ q.2 = ⟨c.L.drop (gone c.L o)⟩ ∧ 0 < (c.L.drop (gone c.L o)).length := by
  unfold vacP at h
  obtain ⟨p, hp, hq⟩ := List.mem_flatMap.1 h
  unfold vac1 at hq
  split at hq
  · next hl =>
    rw [List.mem_singleton.1 hq]
    exact ⟨p.2, hp, rfl, hl⟩
  · cases hq

theorem vac_sub (o : Int) : ∀ l : List KC, ((l.flatMap (vac1 o)).map (·.1)).Sublist (l.map (·.1))
  | [] => List.Sublist.slnil
  | p :: l => by
    have ih := vac_sub o l
    rw [List.flatMap_cons]
    unfold vac1
    split
    · exact ih.cons_cons _
    · exact ih.cons _

theorem fst_zip {K : Keys} {C : List GChainChain} (h : C.length = K.length) : (K.zip C).map (·.1) = K := by
  rw [List.map_fst_zip]; omega

theorem vac_ok {K : Keys} {C : List GChainChain} {T : Int} {B : Nat} (h : OkS K C T B) (o : Int) : OkS ((vacP o K C).map (·.1)) ((vacP o K C).map (·.2)) T B := by
  have hsub := vac_sub o (K.zip C)
  rw [fst_zip h.cl] at hsub
  refine ⟨h.t0, h.t1, by rw [List.length_map, List.length_map], fun k hk => h.ks k (hsub.subset hk), h.pw.sublist hsub, fun c hc => ?_⟩
  obtain ⟨q, hq, rfl⟩ := List.mem_map.1 hc
  obtain ⟨d, hd, e, hl⟩ := mem_vacP hq
  obtain ⟨h1, h2, h3, h4⟩ := h.cs d (List.of_mem_zip hd).2
  rw [e]
  refine ⟨fun e0 => ?_, okC_drop h2 _, ?_, ?_⟩
  · have e0 : d.L.drop (gone d.L o) = [] := e0
    rw [e0] at hl; exact absurd hl (Nat.lt_irrefl _)
  · show lastTs (d.L.drop (gone d.L o)) ≤ T
    rw [last_drop (by rw [List.length_drop] at hl; omega)]; exact h3
  · show (d.L.drop (gone d.L o)).length ≤ B
    rw [List.length_drop]; omega
theorem vac_len (o : Int) (K : Keys) (C : List GChainChain) : ((vacP o K C).map (·.1)).length ≤ K.length := by
  have := (vac_sub o (K.zip C)).length_le
  rw [List.length_map, List.length_map, List.length_zip] at this
  show ((((K.zip C).flatMap (vac1 o)).map (·.1))).length ≤ _
  rw [List.length_map]
  omega

theorem vac_ents {K : Keys} {C : List GChainChain} {T : Int} {B : Nat} (h : OkS K C T B) (hB : B ≤ 60) (r : GApiRange) {o t : Int} (hot : o ≤ t) : ents r t ((vacP o K C).map (·.1)) ((vacP o K C).map (·.2)) = ents r t K C := by
  unfold ents
  rw [zip_maps]
  unfold vacP
  rw [List.flatMap_assoc]
  refine flat_congr fun p hp => ?_
  obtain ⟨h1, h2, h3, h4⟩ := h.cs p.2 (List.of_mem_zip hp).2
  have hv := valC_drop (by omega) h2 hot
  unfold vac1
  split
  · rw [List.flatMap_singleton]
    unfold ent
    dsimp only
    rw [hv]
  · next hl =>
    have e0 : p.2.L.drop (gone p.2.L o) = [] := List.eq_nil_of_length_eq_zero (by omega)
    rw [e0] at hv
    have e1 : valC [] t = ([], false) := rfl
    unfold ent
    rw [← hv, e1, Bool.and_false]
    rfl

theorem vac_again {K : Keys} {C : List GChainChain} {T : Int} {B : Nat} (h : OkS K C T B) (o : Int) : vacP o ((vacP o K C).map (·.1)) ((vacP o K C).map (·.2)) = vacP o K C := by
  conv => lhs; unfold vacP
  rw [zip_maps]
  unfold vacP
  rw [List.flatMap_assoc]
  refine flat_congr fun p hp => ?_
  obtain ⟨h1, h2, h3, h4⟩ := h.cs p.2 (List.of_mem_zip hp).2
  have hg := gone_drop h2 o
  unfold vac1
  split
  · next hl =>
    rw [List.flatMap_singleton]
    dsimp only
    rw [hg, List.drop_zero, if_pos hl]
  · rfl

/-- What one key gives to those that changed. -/
def chg (r : GApiRange) (t : Int) (p : KC) : Keys := if hasV r p.1 && decide (t < lastTs p.2.L) then [p.1] else []
def chgs (r : GApiRange) (t : Int) (K : Keys) (C : List GChainChain) : Keys := (K.zip C).flatMap (chg r t)
theorem chg_len (r : GApiRange) (t : Int) (p : KC) : (chg r t p).length ≤ 1 := by
  unfold chg; split <;> simp
theorem changed_m {K : Keys} {C : List GChainChain} {T : Int} {B : Nat} (h : OkS K C T B) (hB : B ≤ 1000) (hK : K.length ≤ 128) (r : GApiRange) (t : Int) : m30_store_Changed ⟨K, C, T⟩ r t = some (chgs r t K C) := by
  have hcl := h.cl
  have hzl : (K.zip C).length = K.length := by rw [List.length_zip]; omega
  unfold m30_store_Changed
  rw [ssane_m h hB hK, Option.bind_some, if_neg (by decide)]
  obtain ⟨v, hv, hr⟩ := iterB_inv (f := m30_store_Changed_s3 ⟨K, C, T⟩ r t) (P := fun s => ∃ i : Nat, i ≤ K.length ∧ s = ((i : Int), ((K.zip C).take i).flatMap (chg r t))) (μ := fun s => K.length - s.1.toNat)
    (R := fun v => v = chgs r t K C) (by
      rintro _ ⟨i, hi, rfl⟩
      unfold m30_store_Changed_s3
      dsimp only
      rcases Nat.lt_or_ge i K.length with hlt | hge
      · left
        have hx := List.getElem?_eq_getElem hlt
        have hc : C[i]? = some (C[i]'(by omega)) := List.getElem?_eq_getElem (by omega)
        have hst := flat_step (f := chg r t) (zip_get hx hc)
        have hlen : (((K.zip C).take i).flatMap (chg r t)).length ≤ 128 := by
          refine Nat.le_trans (flat8_len _ (chg_len r t) _) ?_
          rw [List.length_take]; omega
        rw [if_pos (decide_eq_true (by omega)), idx_nat, hx, Option.bind_some, has_m, Option.bind_some]
        have hnext : ∀ x, chg r t (K[i], C[i]'(by omega)) = x → ((i : Int) + 1, ((K.zip C).take i).flatMap (chg r t) ++ x) = (((i + 1 : Nat) : Int), ((K.zip C).take (i + 1)).flatMap (chg r t)) := fun x e => by rw [hst, e]; rfl
        cases hh : hasV r K[i] with
        | false =>
          rw [if_neg (by decide)]
          refine ⟨_, rfl, ⟨i + 1, hlt, ?_⟩, by simp only [wI_id (show -9223372036854775808 ≤ (i : Int) + 1 by omega) (by omega)]; omega⟩
          rw [wI_id (by omega) (by omega), ← hnext [] (by unfold chg; dsimp only; rw [hh]; rfl), List.append_nil]
        | true =>
          rw [if_pos rfl, idx_nat, hc, Option.bind_some, last_eq (c := C[i]'(by omega)) (by have := (h.cs _ (List.getElem_mem (show i < C.length by omega))).2.2.2; omega), Option.bind_some]
          by_cases ht : t < lastTs (C[i]'(by omega)).L
          · rw [if_pos (decide_eq_true ht), if_pos (by rw [List.length_singleton]; omega)]
            refine ⟨_, rfl, ⟨i + 1, hlt, ?_⟩, by simp only [wI_id (show -9223372036854775808 ≤ (i : Int) + 1 by omega) (by omega)]; omega⟩
            rw [wI_id (by omega) (by omega), ← hnext [K[i]] (by unfold chg; dsimp only; rw [hh, decide_eq_true ht]; rfl)]
          · rw [if_neg (by rw [decide_eq_true_eq]; exact ht)]
            refine ⟨_, rfl, ⟨i + 1, hlt, ?_⟩, by simp only [wI_id (show -9223372036854775808 ≤ (i : Int) + 1 by omega) (by omega)]; omega⟩
            rw [wI_id (by omega) (by omega), ← hnext [] (by unfold chg; dsimp only; rw [hh, decide_eq_false ht]; rfl), List.append_nil]
      · right
        have e : i = K.length := by omega
        subst e
        rw [if_neg (by rw [decide_eq_true_eq]; omega)]
        refine ⟨_, rfl, ?_⟩
        unfold chgs
        rw [← hzl, List.take_length]) fuel (0, []) ⟨0, Nat.zero_le _, by simp⟩ (lt_fuel (by show K.length - 0 ≤ _; omega))
  rw [hv, Option.bind_some, hr]
  rfl
theorem chgs_len (r : GApiRange) (t : Int) (K : Keys) (C : List GChainChain) : (chgs r t K C).length ≤ K.length := by
  refine Nat.le_trans (flat8_len _ (chg_len r t) _) ?_
  rw [List.length_zip]; omega
theorem vac_chgs {K : Keys} {C : List GChainChain} {T : Int} {B : Nat} (h : OkS K C T B) (r : GApiRange) {o t : Int} (hot : o ≤ t) : chgs r t ((vacP o K C).map (·.1)) ((vacP o K C).map (·.2)) = chgs r t K C := by
  unfold chgs
  rw [zip_maps]
  unfold vacP
  rw [List.flatMap_assoc]
  refine flat_congr fun p hp => ?_
  obtain ⟨h1, h2, h3, h4⟩ := h.cs p.2 (List.of_mem_zip hp).2
  unfold vac1
  split
  · next hl =>
    rw [List.flatMap_singleton]
    unfold chg
    dsimp only
    rw [last_drop (by rw [List.length_drop] at hl; omega)]
  · next hl =>
    have := gone_last h2 h1 hl
    unfold chg
    rw [decide_eq_false (show ¬ t < lastTs p.2.L by omega), Bool.and_false]
    rfl
end Go.Proofs.Ytbojepclnfnmcaa.Abs
