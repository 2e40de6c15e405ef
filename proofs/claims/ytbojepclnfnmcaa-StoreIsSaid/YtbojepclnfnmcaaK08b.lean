/-
  Stores: what lay and Install make.
-/
import Derived.Test.YtbojepclnfnmcaaK08
namespace Go.Proofs.Ytbojepclnfnmcaa.Abs


abbrev ver (ts : Int) (w : GApiWrite) : GChainVer := GChainVer.mk ts w.Val w.Del

/-- What lay makes of a chain that was, or was not. -/
def Grew (K : Keys) (C : List GChainChain) (ts : Int) (w : GApiWrite) (c : GChainChain) : Prop := (∃ c0, At K C w.Key c0 ∧ c.L = c0.L ++ [ver ts w]) ∨ ((¬ ∃ c0, At K C w.Key c0) ∧ c.L = [ver ts w])

theorem vOk_ver {ts : Int} {w : GApiWrite} (h1 : 1 ≤ ts) (h2 : ts ≤ 1099511627776) (hw : wOk w = true) : vOk (ver ts w) = true := by
  unfold wOk at hw
  unfold vOk ver
  dsimp only
  rw [decide_eq_true h1, decide_eq_true h2, Bool.true_and, Bool.true_and]
  exact hw

theorem insM_ok {α : Type} {by_ : Nat} {xs : List α} {i : Nat} {x : α} (hi : i ≤ xs.length) (hb : (xs.length + 1) * by_ ≤ 140737488355328) : insM by_ xs (i : Int) [x] = some (xs.take i ++ x :: xs.drop i) := by
  unfold insM
  dsimp only
  rw [if_pos ⟨⟨by omega, by omega⟩, hb⟩, Int.toNat_natCast]

theorem get_ins {α : Type} {xs : List α} {p : Nat} {x : α} (hp : p ≤ xs.length) (i : Nat) : (xs.take p ++ x :: xs.drop p)[i]? = if i < p then xs[i]? else if i = p then some x else xs[i - 1]? := by
  rw [List.getElem?_append, List.length_take, Nat.min_eq_left hp]
  split
  · next h => rw [List.getElem?_take, if_pos h]
  · next h =>
    split
    · next h2 => rw [h2, Nat.sub_self]; rfl
    · next h2 =>
      rw [show i - p = (i - p - 1) + 1 by omega, List.getElem?_cons_succ, List.getElem?_drop]
      congr 1; omega

structure OkP (K : Keys) (C : List GChainChain) (B : Nat) : Prop where
  cl : C.length = K.length
  ks : ∀ k ∈ K, kOk k = true
  pw : PW K
  cs : ∀ c ∈ C, OkC c.L ∧ c.L.length ≤ B

theorem lay_m {K : Keys} {C : List GChainChain} {B : Nat} (h : OkP K C B) (hB : B ≤ 1000) (hK : K.length ≤ 100000) {ts : Int} (ht : 1 ≤ ts ∧ ts ≤ 1099511627776) {w : GApiWrite} (hw : wOk w = true) (hk : kOk w.Key = true)
    (hlast : ∀ c, At K C w.Key c → lastTs c.L < ts) :
    ∃ K' C', m45_store_lays K C ts w = some (ts, K', C') ∧ PW K' ∧ C'.length = K'.length ∧ (∀ k ∈ K', kOk k = true) ∧ K'.length ≤ K.length + 1 ∧ (∃ c, At K' C' w.Key c) ∧
      (∀ c, At K' C' w.Key c → Grew K C ts w c) ∧ (∀ k c, k ≠ w.Key → (At K' C' k c ↔ At K C k c)) := by
  have hcl := h.cl
  have hv := vOk_ver ht.1 ht.2 hw
  unfold m45_store_lays
  rw [finds_m K w.Key (by omega), Option.bind_some]
  cases hh : hit K w.Key with
  | true =>
    rw [if_neg (fun h => Bool.noConfusion h)]
    obtain ⟨c0, hat, hget⟩ := At.of_hit hcl hh
    obtain ⟨hc1, hc2⟩ := h.cs c0 (List.mem_of_getElem? hget)
    have hlt : kat K w.Key < C.length := (List.getElem?_eq_some_iff.1 hget).1
    refine ⟨K, C.set (kat K w.Key) ⟨c0.L ++ [ver ts w]⟩, ?_, h.pw, by rw [List.length_set]; exact hcl, h.ks, by omega, ⟨_, _, hit_get hh, List.getElem?_set_self hlt⟩, ?_, ?_⟩
    · unfold m45_store_lays_k2
      dsimp only
      rw [idx_nat, hget, Option.bind_some, push_new (c := c0) (by omega) hc1 hv (hlast c0 hat), Option.bind_some, if_pos (decide_eq_true rfl), Option.bind_some, Int.toNat_natCast]
    · rintro c ⟨i, h1, h2⟩
      have := pw_inj h.pw h1 (hit_get hh)
      subst this
      rw [List.getElem?_set_self hlt] at h2
      cases h2
      exact .inl ⟨c0, hat, rfl⟩
    · intro k c hne
      constructor
      · rintro ⟨i, h1, h2⟩
        refine ⟨i, h1, ?_⟩
        rw [List.getElem?_set_ne] at h2
        · exact h2
        · intro e; subst e; rw [hit_get hh] at h1; exact hne (Option.some.inj h1).symm
      · rintro ⟨i, h1, h2⟩
        refine ⟨i, h1, ?_⟩
        rw [List.getElem?_set_ne]
        · exact h2
        · intro e; subst e; rw [hit_get hh] at h1; exact hne (Option.some.inj h1).symm
  | false =>
    have hnot : ¬ ∃ c0, At K C w.Key c0 := fun ⟨c0, hc0⟩ => by rw [(At.hit h.pw hc0).1] at hh; cases hh
    have hle := kat_le K w.Key
    have hK' : ins K w.Key = K.take (kat K w.Key) ++ w.Key :: K.drop (kat K w.Key) := by unfold ins; rw [hh]; rfl
    rw [if_pos (show (!((kat K w.Key : Int), false).2) = true from rfl)]
    show ∃ K' C', ((insM 24 K ((kat K w.Key : Nat) : Int) [w.Key]).bind fun v6 => (insM 24 C ((kat K w.Key : Nat) : Int) [(GChainChain.mk ([] : List GChainVer))]).bind fun v7 => m45_store_lays_k2 ts w ((kat K w.Key : Int), false) (v6, v7)) = _ ∧ _
    rw [insM_ok hle (by omega), Option.bind_some, insM_ok (by omega) (by omega), Option.bind_some]
    have hgK := get_ins (xs := K) (x := w.Key) hle
    have hgC := get_ins (xs := C) (x := (GChainChain.mk ([] : List GChainVer))) (p := kat K w.Key) (by omega)
    have hlen : (C.take (kat K w.Key) ++ (GChainChain.mk ([] : List GChainVer)) :: C.drop (kat K w.Key)).length = C.length + 1 := by
      rw [List.length_append, List.length_cons, List.length_take, List.length_drop]; omega
    have hlenK : (K.take (kat K w.Key) ++ w.Key :: K.drop (kat K w.Key)).length = K.length + 1 := by
      rw [List.length_append, List.length_cons, List.length_take, List.length_drop]; omega
    have hpl : kat K w.Key < (C.take (kat K w.Key) ++ (GChainChain.mk ([] : List GChainVer)) :: C.drop (kat K w.Key)).length := by rw [hlen]; omega
    have hgp : (C.take (kat K w.Key) ++ (GChainChain.mk ([] : List GChainVer)) :: C.drop (kat K w.Key))[kat K w.Key]? = some (GChainChain.mk ([] : List GChainVer)) := by
      rw [hgC, if_neg (Nat.lt_irrefl _), if_pos rfl]
    have hgkp : (K.take (kat K w.Key) ++ w.Key :: K.drop (kat K w.Key))[kat K w.Key]? = some w.Key := by
      rw [hgK, if_neg (Nat.lt_irrefl _), if_pos rfl]
    have hpw' : PW (K.take (kat K w.Key) ++ w.Key :: K.drop (kat K w.Key)) := by rw [← hK']; exact ins_pw h.pw
    refine ⟨_, (C.take (kat K w.Key) ++ (GChainChain.mk ([] : List GChainVer)) :: C.drop (kat K w.Key)).set (kat K w.Key) ⟨[] ++ [ver ts w]⟩, ?_, hpw', by rw [List.length_set, hlen, hlenK]; omega, fun k hkm => ?_, by rw [hlenK]; exact Nat.le_refl _,
      ⟨_, _, hgkp, List.getElem?_set_self hpl⟩, ?_, ?_⟩
    · unfold m45_store_lays_k2
      dsimp only
      rw [idx_nat, hgp, Option.bind_some, push_new (c := ⟨[]⟩) (Nat.zero_le _) okC_nil hv (by show (0 : Int) < ts; omega), Option.bind_some, if_pos (decide_eq_true rfl), Option.bind_some, Int.toNat_natCast]
    · rw [← hK'] at hkm
      rcases ins_mem.1 hkm with rfl | hm
      · exact hk
      · exact h.ks k hm
    · rintro c ⟨i, h1, h2⟩
      have := pw_inj hpw' h1 hgkp
      subst this
      rw [List.getElem?_set_self hpl] at h2
      cases h2
      exact .inr ⟨hnot, rfl⟩
    · intro k c hne
      have hK2 : ∀ i, (K.take (kat K w.Key) ++ w.Key :: K.drop (kat K w.Key))[i]? = some k → i ≠ kat K w.Key := fun i hi e => by
        subst e; rw [hgkp] at hi; exact hne (Option.some.inj hi).symm
      constructor
      · rintro ⟨i, h1, h2⟩
        have hip := hK2 i h1
        rw [List.getElem?_set_ne (fun e => hip e.symm), hgC] at h2
        rw [hgK] at h1
        split at h1
        · next hlt => rw [if_pos hlt] at h2; exact ⟨i, h1, h2⟩
        · next hlt =>
          rw [if_neg hlt, if_neg hip] at h2
          exact ⟨i - 1, h1, h2⟩
      · rintro ⟨i, h1, h2⟩
        rcases Nat.lt_or_ge i (kat K w.Key) with hlt | hge
        · refine ⟨i, ?_, ?_⟩
          · rw [hgK, if_pos hlt]; exact h1
          · rw [List.getElem?_set_ne (by omega), hgC, if_pos hlt]; exact h2
        · refine ⟨i + 1, ?_, ?_⟩
          · rw [hgK, if_neg (by omega), if_neg (by omega)]; exact h1
          · rw [List.getElem?_set_ne (by omega), hgC, if_neg (by omega), if_neg (by omega)]; exact h2

theorem At.mem {K : Keys} {C : List GChainChain} (hl : C.length = K.length) {c : GChainChain} (hc : c ∈ C) : ∃ k, At K C k c := by
  obtain ⟨i, hi⟩ := List.mem_iff_getElem?.1 hc
  have hlt := (List.getElem?_eq_some_iff.1 hi).1
  exact ⟨K[i]'(by omega), i, List.getElem?_eq_getElem (by omega), hi⟩

theorem last_snoc (l : List GChainVer) (v : GChainVer) : lastTs (l ++ [v]) = v.Ts := by
  unfold lastTs
  rw [List.length_append, List.length_singleton, Nat.add_sub_cancel, List.getElem?_append_right (Nat.le_refl _), Nat.sub_self]
  rfl

theorem Grew.ok {K : Keys} {C : List GChainChain} {B : Nat} (h : ∀ c ∈ C, OkC c.L ∧ c.L.length ≤ B) {ts : Int} (ht : 1 ≤ ts ∧ ts ≤ 1099511627776) {w : GApiWrite} (hw : wOk w = true) (hlast : ∀ c, At K C w.Key c → lastTs c.L < ts) {c : GChainChain} (g : Grew K C ts w c) :
    OkC c.L ∧ c.L.length ≤ B + 1 ∧ c.L ≠ [] ∧ lastTs c.L = ts := by
  have hv := vOk_ver ht.1 ht.2 hw
  rcases g with ⟨c0, hat, e⟩ | ⟨_, e⟩
  · obtain ⟨i, _, hi⟩ := hat
    obtain ⟨h1, h2⟩ := h c0 (List.mem_of_getElem? hi)
    rw [e]
    exact ⟨okC_snoc h1 hv (hlast c0 ⟨i, ‹_›, hi⟩), by rw [List.length_append, List.length_singleton]; omega, by simp, last_snoc _ _⟩
  · rw [e]
    have := okC_snoc okC_nil hv (by show (0 : Int) < ts; omega)
    exact ⟨this, by show 1 ≤ B + 1; omega, by simp, last_snoc [] _⟩

/-- What stands behind writes that were laid in, one behind the other. -/
structure Laid (K : Keys) (C : List GChainChain) (ts : Int) (l : List GApiWrite) (K' : Keys) (C' : List GChainChain) : Prop where
  pw : PW K'
  cl : C'.length = K'.length
  ks : ∀ k ∈ K', kOk k = true
  len : K'.length ≤ K.length + l.length
  is : ∀ w ∈ l, ∃ c, At K' C' w.Key c
  new : ∀ w ∈ l, ∀ c, At K' C' w.Key c → Grew K C ts w c
  old : ∀ k c, (∀ w ∈ l, w.Key ≠ k) → (At K' C' k c ↔ At K C k c)

theorem lays_m {K : Keys} {C : List GChainChain} {T : Int} {B : Nat} (h : OkS K C T B) (hB : B < 1000) (hK : K.length ≤ 128) {ts : Int} (ht : T < ts ∧ ts ≤ 1099511627776) (l : List GApiWrite) (hl : l.length ≤ 1000)
    (hw : ∀ w ∈ l, wOk w = true) (hk : ∀ w ∈ l, kOk w.Key = true) (hp : PW (l.map (·.Key))) :
    ∃ K' C', iterB (m16_store_Install_s6 l) fuel (0, K, C, ts) = some (K', C', ts) ∧ Laid K C ts l K' C' := by
  have h0 := h.t0
  have hlast0 : ∀ k c, At K C k c → lastTs c.L < ts := fun k c ⟨i, _, hi⟩ => by
    have := (h.cs c (List.mem_of_getElem? hi)).2.2.1
    omega
  have hcs0 : ∀ c ∈ C, OkC c.L ∧ c.L.length ≤ B := fun c hc => ⟨(h.cs c hc).2.1, (h.cs c hc).2.2.2⟩
  obtain ⟨v, hv, hr⟩ := iterB_inv (f := m16_store_Install_s6 l) (P := fun s => ∃ i : Nat, i ≤ l.length ∧ s.1 = (i : Int) ∧ s.2.2.2 = ts ∧ Laid K C ts (l.take i) s.2.1 s.2.2.1) (μ := fun s => l.length - s.1.toNat)
    (R := fun v => v.2.2 = ts ∧ Laid K C ts l v.1 v.2.1) (by
      rintro ⟨_, K1, C1, t1⟩ ⟨i, hi, rfl, ht1, hL⟩
      have ht1 : t1 = ts := ht1
      have hL : Laid K C ts (l.take i) K1 C1 := hL
      unfold m16_store_Install_s6
      dsimp only
      rw [ht1]
      rcases Nat.lt_or_ge i l.length with hlt | hge
      · have hx := List.getElem?_eq_getElem hlt
        have hxm := List.getElem_mem hlt
        rw [if_pos (decide_eq_true (by omega)), idx_nat, hx, Option.bind_some]
        -- the key is new among the writes
        have hfresh : ∀ w ∈ l.take i, w.Key ≠ l[i].Key := fun w hm e => by
          obtain ⟨j, hj⟩ := List.mem_iff_getElem?.1 hm
          rw [List.getElem?_take] at hj
          split at hj
          · next hji =>
            have h1 : (l.map (·.Key))[j]? = some w.Key := by rw [List.getElem?_map, hj]; rfl
            have h2 : (l.map (·.Key))[i]? = some l[i].Key := by rw [List.getElem?_map, hx]; rfl
            have := pw_inj hp h1 (by rw [e]; exact h2)
            omega
          · cases hj
        have hOk1 : ∀ c ∈ C1, OkC c.L ∧ c.L.length ≤ B + 1 := fun c hc => by
          obtain ⟨k, hat⟩ := At.mem hL.cl hc
          by_cases hex : ∃ w ∈ l.take i, w.Key = k
          · obtain ⟨w, hwm, rfl⟩ := hex
            have := Grew.ok hcs0 ⟨by omega, ht.2⟩ (hw w (List.mem_of_mem_take hwm)) (hlast0 _) (hL.new w hwm c hat)
            exact ⟨this.1, this.2.1⟩
          · have := (hL.old k c (fun w hwm e => hex ⟨w, hwm, e⟩)).1 hat
            obtain ⟨j, _, hj⟩ := this
            have := hcs0 c (List.mem_of_getElem? hj)
            exact ⟨this.1, by omega⟩
        have hat1 : ∀ c, At K1 C1 l[i].Key c ↔ At K C l[i].Key c := fun c => hL.old _ c hfresh
        obtain ⟨K2, C2, e2, p2, c2, k2, n2, is2, new2, old2⟩ := lay_m (B := B + 1) ⟨hL.cl, hL.ks, hL.pw, hOk1⟩ (by omega) (by have := hL.len; rw [List.length_take] at this; omega) (ts := ts) ⟨by omega, ht.2⟩ (hw _ hxm) (hk _ hxm) (fun c hc => hlast0 _ c ((hat1 c).1 hc))
        rw [e2, Option.bind_some]
        dsimp only
        refine .inl ⟨_, rfl, ⟨i + 1, hlt, by dsimp only; rw [wI_id (by omega) (by omega)]; rfl, rfl, ⟨p2, c2, k2, ?_, ?_, ?_, ?_⟩⟩, by dsimp only; rw [wI_id (by omega) (by omega)]; omega⟩
        · have := hL.len
          rw [List.length_take] at this ⊢
          show K2.length ≤ _
          omega
        · intro w hwm
          rw [List.take_succ_eq_append_getElem hlt] at hwm
          rcases List.mem_append.1 hwm with hwm | hwm
          · obtain ⟨c, hc⟩ := hL.is w hwm
            exact ⟨c, (old2 _ c (hfresh w hwm)).2 hc⟩
          · rw [List.mem_singleton.1 hwm]; exact is2
        · intro w hwm c hc
          rw [List.take_succ_eq_append_getElem hlt] at hwm
          rcases List.mem_append.1 hwm with hwm | hwm
          · exact hL.new w hwm c ((old2 _ c (hfresh w hwm)).1 hc)
          · rw [List.mem_singleton.1 hwm] at hc ⊢
            rcases new2 c hc with ⟨c0, hc0, e⟩ | ⟨hn, e⟩
            · exact .inl ⟨c0, (hat1 c0).1 hc0, e⟩
            · exact .inr ⟨fun ⟨c0, hc0⟩ => hn ⟨c0, (hat1 c0).2 hc0⟩, e⟩
        · intro k c hne
          have h1 : k ≠ l[i].Key := fun e => hne l[i] (by rw [List.take_succ_eq_append_getElem hlt]; exact List.mem_append_right _ (List.mem_singleton.2 rfl)) e.symm
          have h2 : ∀ w ∈ l.take i, w.Key ≠ k := fun w hwm => hne w (by rw [List.take_succ_eq_append_getElem hlt]; exact List.mem_append_left _ hwm)
          exact (old2 k c h1).trans (hL.old k c h2)
      · have e : i = l.length := by omega
        subst e
        rw [List.take_length] at hL
        rw [if_neg (by rw [decide_eq_true_eq]; omega)]
        exact .inr ⟨_, rfl, rfl, hL⟩) fuel (0, K, C, ts) ⟨0, Nat.zero_le _, rfl, rfl, ⟨h.pw, h.cl, h.ks, by simp, fun w hw => by simp at hw, fun w hw => by simp at hw, fun k c _ => Iff.rfl⟩⟩ (lt_fuel (by show l.length - 0 ≤ _; omega))
  obtain ⟨K', C', T'⟩ := v
  obtain ⟨rfl, hr⟩ := hr
  exact ⟨K', C', hv, hr⟩

abbrev zstore : GStoreStore := GStoreStore.mk ([] : List (List UInt8)) ([] : List GChainChain) 0

theorem install_m {K : Keys} {C : List GChainChain} {T : Int} {B : Nat} (h : OkS K C T B) (hB : B < 1000) (hK : K.length ≤ 128) (ts : Int) (l : List GApiWrite) (hl : l.length ≤ 1000) :
    (∃ e, (e = 1 ∨ (e = 7 ∧ ¬ (T < ts ∧ ts ≤ 1099511627776)) ∨ e = 8) ∧ m16_store_Install ⟨K, C, T⟩ ts l = some (zstore, e)) ∨
    ∃ K' C', m16_store_Install ⟨K, C, T⟩ ts l = some (⟨K', C', ts⟩, 0) ∧ (T < ts ∧ ts ≤ 1099511627776) ∧ (∀ w ∈ l, wOk w = true) ∧ PW (l.map (·.Key)) ∧ K'.length ≤ 128 ∧ Laid K C ts l K' C' ∧ OkS K' C' ts (B + 1) := by
  unfold m16_store_Install
  show (∃ e, _ ∧ (m23_store_Sane ⟨K, C, T⟩).bind _ = _) ∨ ∃ K' C', (m23_store_Sane ⟨K, C, T⟩).bind _ = _ ∧ _
  rw [ssane_m h (by omega) hK, Option.bind_some, if_neg (by decide)]
  obtain ⟨b, hb, hb2⟩ := saneWrites_m l (by omega)
  rw [hb, Option.bind_some]
  cases b with
  | false => exact .inl ⟨1, .inl rfl, rfl⟩
  | true =>
  obtain ⟨hw, hk, hp⟩ := hb2 rfl
  rw [if_neg (by decide)]
  unfold m16_store_Install_k1
  dsimp only
  by_cases h1 : ts ≤ T
  · rw [if_pos (decide_eq_true h1)]; exact .inl ⟨7, .inr (.inl ⟨rfl, by omega⟩), rfl⟩
  rw [if_neg (by rw [decide_eq_true_eq]; exact h1)]
  by_cases h2 : 1099511627776 < ts
  · rw [if_pos (decide_eq_true h2)]; exact .inl ⟨7, .inr (.inl ⟨rfl, by omega⟩), rfl⟩
  rw [if_neg (by rw [decide_eq_true_eq]; exact h2)]
  unfold m16_store_Install_k2
  have hcl := h.cl
  have e1 : m43_slices_Cloneo K = some K := by
    unfold m43_slices_Cloneo
    rw [if_pos (by simp only [List.length_nil]; omega)]; rfl
  have e2 : m44_slices_Cloneo C = some C := by
    unfold m44_slices_Cloneo
    rw [if_pos (by simp only [List.length_nil]; omega)]; rfl
  dsimp only
  rw [e1, Option.bind_some, e2, Option.bind_some]
  obtain ⟨K', C', e3, hL⟩ := lays_m h hB hK (ts := ts) ⟨by omega, by omega⟩ l hl hw hk hp
  rw [e3, Option.bind_some]
  unfold m16_store_Install_k5
  dsimp only
  by_cases h8 : 128 < (K'.length : Int)
  · rw [if_pos (decide_eq_true h8)]; exact .inl ⟨8, .inr (.inr rfl), rfl⟩
  rw [if_neg (by rw [decide_eq_true_eq]; exact h8)]
  refine .inr ⟨K', C', rfl, ⟨by omega, by omega⟩, hw, hp, by omega, hL, ⟨by have := h.t0; omega, by omega, hL.cl, hL.ks, hL.pw, fun c hc => ?_⟩⟩
  obtain ⟨k, hat⟩ := At.mem hL.cl hc
  by_cases hex : ∃ w ∈ l, w.Key = k
  · obtain ⟨w, hwm, rfl⟩ := hex
    have hh := Grew.ok (B := B) (fun c hc => ⟨(h.cs c hc).2.1, (h.cs c hc).2.2.2⟩) ⟨by have := h.t0; omega, by omega⟩ (hw w hwm) (fun c ⟨i, _, hi⟩ => by have := (h.cs c (List.mem_of_getElem? hi)).2.2.1; omega) (hL.new w hwm c hat)
    exact ⟨hh.2.2.1, hh.1, Int.le_of_eq hh.2.2.2, hh.2.1⟩
  · obtain ⟨i, _, hi⟩ := (hL.old k c (fun w hwm e => hex ⟨w, hwm, e⟩)).1 hat
    have := h.cs c (List.mem_of_getElem? hi)
    exact ⟨this.1, this.2.1, by omega, by omega⟩
end Go.Proofs.Ytbojepclnfnmcaa.Abs
