/-
  SsiAlone, SsiStill, SsiCleans, SsiReaders.
-/
import Derived.Test.YtbmciegldpeaiaaO11
namespace Go.Proofs.Ytbmciegldpeaiaa.Abs


theorem readF_none {l : List GSsiTx} {a : GSsiTx} {r : GApiRange} (h : ∀ x ∈ l, passT a r x = false) : l.map (readF l a r) = l := by
  refine (List.map_congr_left fun x hx => ?_).trans (List.map_id l)
  unfold readF
  rw [List.any_eq_false.2 (fun y hy => by rw [h y hy]; decide), h x hx]
  split
  · rw [Bool.or_false]; rfl
  · rfl

/-- One more, who begins at the time that it is, and reads. -/
def txR (id now : Int) (ro : Bool) : GSsiTx := ⟨id, now, 0, 1, false, false, ro, []⟩
structure Fresh (l : List GSsiTx) (id now : Int) : Prop where
  id : ∀ x ∈ l, x.ID ≠ id
  past : ∀ x ∈ l, x.State = 2 → x.End ≤ now
theorem sc_add {c : GSsiCert} (h : SC c) {id now : Int} (ro : Bool) (hf : Fresh c.Txs id now) (h0 : 0 ≤ id) (h1 : 0 ≤ now) (h2 : now ≤ maxTs) (hl : c.Txs.length < 64) : SC ⟨c.Txs ++ [txR id now ro], c.Reads⟩ := by
  have key : ∀ {P : GSsiTx → Prop}, (∀ x ∈ c.Txs, P x) → P (txR id now ro) → ∀ x ∈ c.Txs ++ [txR id now ro], P x := fun h1 h2 x hx => by
    rcases List.mem_append.1 hx with hx | hx
    · exact h1 x hx
    · rw [List.mem_singleton.1 hx]; exact h2
  constructor
  · exact h.gr
  · intro r hr
    obtain ⟨x, hx, e⟩ := h.ri r hr
    exact ⟨x, List.mem_append_left _ hx, e⟩
  · show (c.Txs ++ _).length ≤ 64
    rw [List.length_append, List.length_singleton]; omega
  · exact key h.each ⟨h0, ⟨h1, h2⟩, .inl ⟨rfl, rfl, rfl⟩⟩
  · refine List.pairwise_append.2 ⟨h.ids, List.pairwise_singleton .., fun x hx y hy => ?_⟩
    rw [List.mem_singleton.1 hy]
    exact hf.id x hx
  · exact key (fun x hx => key (h.ends x hx) (fun _ e => by cases e)) (fun y hy e => by cases e)
  · exact key h.keys (by show ([] : Keys).length ≤ 10; decide)
theorem sc_reads {c : GSsiCert} (h : SC c) {rs : List GReadsRead} (hg : Good rs) {id : Int} {r : GApiRange} (hid : ∃ x ∈ c.Txs, x.ID = id) (hn : ∀ x ∈ rs, x ∈ c.Reads.L ∨ x = ⟨id, r⟩) : SC ⟨c.Txs, ⟨rs⟩⟩ := by
  refine ⟨hg, fun x hx => ?_, h.len, h.each, h.ids, h.ends, h.keys⟩
  rcases hn x hx with hx | rfl
  · exact h.ri x hx
  · exact hid
/-- It reads: none is passed by. -/
theorem read_f {c : GSsiCert} (h : SC c) {l : List GSsiTx} {id now : Int} {ro : Bool} (hc : c.Txs = l ++ [txR id now ro]) (hf : Fresh l id now) (r : GApiRange) :
    (∃ e, (e = 1 ∨ (e = 8 ∧ 128 ≤ c.Reads.L.length)) ∧ m19_ssi_Read c id r = some (cN, e)) ∨
    ∃ rs : List GReadsRead, SC ⟨c.Txs, ⟨rs⟩⟩ ∧ rs.length ≤ c.Reads.L.length + 1 ∧ m19_ssi_Read c id r = some (⟨c.Txs, ⟨rs⟩⟩, 0) := by
  have hme : txR id now ro ∈ c.Txs := by rw [hc]; exact List.mem_append_right _ (List.mem_singleton_self _)
  have hnp : ∀ x ∈ c.Txs, passT (txR id now ro) r x = false := fun x hx => by
    rw [hc] at hx
    cases hp : passT (txR id now ro) r x with
    | false => rfl
    | true =>
      obtain ⟨h1, h2, _⟩ := passT_iff.1 hp
      have h2 : now < x.End := h2
      rcases List.mem_append.1 hx with hx | hx
      · have := hf.past x hx h1; omega
      · rw [List.mem_singleton.1 hx] at h1; cases h1
  rcases read_m h id r with ⟨h1, _⟩ | ⟨a, ha, e1, h1, h2 | ⟨⟨x, hx, hp, _⟩, _⟩ | ⟨rs, hg, r1, r2, r3, r4, r5, e⟩⟩
  · exact absurd rfl (h1 _ hme rfl)
  · exact .inl h2
  · rw [show a = txR id now ro from h.one ha hme e1, hnp x hx] at hp; cases hp
  · have : a = txR id now ro := h.one ha hme e1
    subst this
    rw [readF_none hnp] at e
    exact .inr ⟨rs, sc_reads h hg ⟨_, hme, rfl⟩ r3, r4, e⟩

theorem run_s {a0 : List GL11Act} {ρ : Type} (g : T6 → Option ρ) (f : Int × T6 → Option (LB (Int × T6) T6)) (hl : a0.length ≤ 60) (hk : ∀ o ∈ a0, o.Keys.length ≤ 10)
    (hf : ∀ s, f s = if (decide (s.1 < (a0.length : Int))) then ((idx a0 s.1).bind fun u21 => (m11_l11_world_dos (GL11Act.mk u21.What u21.N u21.RO (GApiRange.mk u21.Rng.Lo u21.Rng.Hi u21.Rng.Open) u21.Keys) s.2.1 s.2.2.1 s.2.2.2.1 s.2.2.2.2.1 s.2.2.2.2.2.1 s.2.2.2.2.2.2).bind fun v22 => some (.cont ((wI (s.1 + 1)), v22.1, v22.2.1, v22.2.2.1, v22.2.2.2.1, v22.2.2.2.2.1, v22.2.2.2.2.2))) else (some (.brk (s.2.1, s.2.2.1, s.2.2.2.1, s.2.2.2.2.1, s.2.2.2.2.2.1, s.2.2.2.2.2.2))))
    {v : ρ} (hg : ∀ w, Inv K10 w → Bd w 60 → g (tup w) = some v) : (iterB f fuel (0, ([] : List GSsiTx), ([] : List GReadsRead), 0, ([] : List Int), ([] : List GR11Tx), ([] : List GR10Read))).bind g = some v := by
  obtain ⟨w, hw, h, hb⟩ := runL hl hk f (fun i o w v ho hd => by
    have hlt := (List.getElem?_eq_some_iff.1 ho).1
    rw [hf]
    dsimp only
    rw [if_pos (decide_eq_true (by omega)), idx_nat, ho, Option.bind_some, show m11_l11_world_dos (⟨o.What, o.N, o.RO, ⟨o.Rng.Lo, o.Rng.Hi, o.Rng.Open⟩, o.Keys⟩ : GL11Act) (tup w).1 (tup w).2.1 (tup w).2.2.1 (tup w).2.2.2.1 (tup w).2.2.2.2.1 (tup w).2.2.2.2.2 = some (tup v) from hd, Option.bind_some, wI_id (by omega) (by omega)]
    rfl) (fun w => by
    rw [hf]
    dsimp only
    rw [if_neg (by rw [decide_eq_true_eq]; omega)])
  rw [show iterB f fuel (0, ([] : List GSsiTx), ([] : List GReadsRead), 0, ([] : List Int), ([] : List GR11Tx), ([] : List GR10Read)) = some (tup w) from hw, Option.bind_some]
  exact hg w h hb
theorem Inv.past {w : WL11} (h : Inv K10 w) {x : GSsiTx} (hx : x ∈ w.c.Txs) (hs : x.State = 2) : x.End ≤ w.now := by
  obtain ⟨d, hd, _, _, e, _⟩ := h.don x hx hs
  rw [← e]; exact (h.did0 d hd).2.2.2.1
theorem Inv.idlt {w : WL11} (h : Inv K10 w) {x : GSsiTx} (hx : x ∈ w.c.Txs) : x.ID < w.begun.length := (idx_ltm (h.act x hx)).2.1

theorem sc_nil : SC cN := ⟨Good.nil, by simp, by decide, by simp, List.Pairwise.nil, by simp, by simp⟩

theorem ssiAlone_true (a0 : List GL11Act) (a1 : List GApiRange) (a2 : List (List UInt8)) : m5_l11_SsiAlone a0 a1 a2 = some true := by
  unfold m5_l11_SsiAlone
  rw [awake11, Option.bind_some]
  obtain ⟨v, hv, hs⟩ := small_m a0
  rw [hv, Option.bind_some]
  cases v with
  | false => rfl
  | true =>
  obtain ⟨hl, hk⟩ := hs rfl
  rw [if_neg (by decide)]
  by_cases h20 : (20 : Int) < a1.length
  · rw [if_pos (decide_eq_true h20)]
  rw [if_neg (by rw [decide_eq_true_eq]; exact h20)]
  obtain ⟨v, hv, _⟩ := small_m [(⟨0, 0, false, ⟨[], [], false⟩, a2⟩ : GL11Act)]
  rw [hv, Option.bind_some]
  cases v with
  | false => rfl
  | true =>
  rw [if_neg (by decide)]
  by_cases h10 : (10 : Int) < a2.length
  · rw [if_pos (decide_eq_true h10)]
  rw [if_neg (by rw [decide_eq_true_eq]; exact h10)]
  unfold m5_l11_SsiAlone_k2
  refine run_s _ (m5_l11_SsiAlone_s20 a0) hl hk (fun s => rfl) fun w h hb => ?_
  unfold m5_l11_SsiAlone_k3
  have b1 := hb.now
  have b2 := hb.beg
  obtain ⟨v, hv, c, rfl, hi, hna⟩ := iterB_inv (f := m5_l11_SsiAlone_s17 (tup w)) (P := fun s => ∃ (i : Nat) (c : GSsiCert), i ≤ w.begun.length ∧ s = ((i : Int), c.Txs, c.Reads.L) ∧ Inv K10 { w with c := c } ∧ ∀ x ∈ c.Txs, x.State = 1 → (i : Int) ≤ x.ID) (μ := fun s => w.begun.length - s.1.toNat) (R := fun v => ∃ c : GSsiCert, v = (c.Txs, c.Reads.L) ∧ Inv K10 { w with c := c } ∧ ∀ x ∈ c.Txs, x.State ≠ 1) (by
    rintro _ ⟨i, c, hi, rfl, h, hna⟩
    unfold m5_l11_SsiAlone_s17
    dsimp only
    rcases Nat.lt_or_ge i w.begun.length with hlt | hge
    · rw [if_pos (decide_eq_true (show (i : Int) < ((tup w).2.2.2.1.length : Int) by show (i : Int) < (w.begun.length : Int); omega))]
      obtain ⟨c', e, h', hsub⟩ := inv_abort h (i : Int)
      rw [show m15_ssi_Abort ⟨c.Txs, ⟨c.Reads.L⟩⟩ (i : Int) = some c' from e, Option.bind_some, wI_id (by omega) (by omega)]
      refine .inl ⟨_, rfl, ⟨i + 1, c', hlt, rfl, h', fun x hx hs => ?_⟩, by dsimp only; omega⟩
      obtain ⟨g1, g2⟩ := hsub x hx
      have := hna x g1 hs
      have : x.ID ≠ i := fun e => g2 ⟨e, hs⟩
      omega
    · have e : i = w.begun.length := by omega
      subst e
      rw [if_neg (by rw [decide_eq_true_eq]; show ¬ ((w.begun.length : Int) < w.begun.length); omega)]
      refine .inr ⟨_, rfl, c, rfl, h, fun x hx hs => ?_⟩
      have := hna x hx hs
      have := h.idlt hx
      dsimp only at this
      omega) fuel (0, w.c.Txs, w.c.Reads.L) ⟨0, w.c, Nat.zero_le _, rfl, h, fun x hx _ => (h.each x hx).id⟩ (lt_fuel (by show w.begun.length - 0 ≤ _; omega))
  rw [show iterB (m5_l11_SsiAlone_s17 (tup w)) fuel (0, (tup w).1, (tup w).2.1) = some (c.Txs, c.Reads.L) from hv, Option.bind_some]
  unfold m5_l11_SsiAlone_k4
  obtain ⟨c', e, h', hc'⟩ := inv_clean hi
  rw [show m16_ssi_Clean ⟨(c.Txs, c.Reads.L).1, ⟨(c.Txs, c.Reads.L).2⟩⟩ = some c' from e, Option.bind_some]
  have hT : c'.Txs = [] := by
    rw [hc']
    refine List.filter_eq_nil_iff.2 fun x hx => ?_
    have hs : x.State = 2 := by
      rcases hi.st hx with hs | hs
      · exact absurd hs (hna x hx)
      · exact hs
    rw [goneV_iff.2 ⟨hs, fun a ha h1 => absurd h1 (hna a ha)⟩]; decide
  have hR : c'.Reads.L = [] := by
    refine List.eq_nil_iff_forall_not_mem.2 fun r hr => ?_
    obtain ⟨x, hx, _⟩ := h'.ri r hr
    have hx : x ∈ c'.Txs := hx
    rw [hT] at hx; simp at hx
  rw [hT, hR, if_neg (by decide), if_neg (by decide)]
  unfold m5_l11_SsiAlone_k6
  rw [hT, hR, show (tup w).2.2.1 = w.now from rfl]
  have hmt : w.now ≤ maxTs := by show w.now ≤ 1099511627776; omega
  rcases begin_m sc_nil 1000 w.now false (by decide) h.now0 hmt with ⟨⟨x, hx, _⟩, _⟩ | ⟨_, ⟨h64, _⟩ | ⟨_, e⟩⟩
  · simp at hx
  · simp at h64
  have hF : Fresh [] 1000 w.now := ⟨by simp, by simp⟩
  have hsc : SC ⟨[txR 1000 w.now false], ⟨[]⟩⟩ := sc_add sc_nil false hF (by decide) h.now0 hmt (by decide)
  rw [show m17_ssi_Begin ⟨[], ⟨[]⟩⟩ 1000 w.now false = some (⟨[txR 1000 w.now false], ⟨[]⟩⟩, 0) from e, Option.bind_some]
  obtain ⟨v, hv, hr⟩ := iter_inv (f := m5_l11_SsiAlone_s10 a1 true) (P := fun s => ∃ (i : Nat) (rs : List GReadsRead), i ≤ a1.length ∧ s = ((i : Int), [txR 1000 w.now false], rs) ∧ SC ⟨[txR 1000 w.now false], ⟨rs⟩⟩ ∧ rs.length ≤ i) (μ := fun s => a1.length - s.1.toNat) (R := fun v => match v with | .inl r => r = true | .inr b => ∃ rs : List GReadsRead, b = ([txR 1000 w.now false], rs) ∧ SC ⟨[txR 1000 w.now false], ⟨rs⟩⟩) (by
    rintro _ ⟨i, rs, hi, rfl, hsc, hrl⟩
    unfold m5_l11_SsiAlone_s10
    dsimp only
    rcases Nat.lt_or_ge i a1.length with hlt | hge
    · have hx := List.getElem?_eq_getElem hlt
      rw [if_pos (decide_eq_true (by omega)), idx_nat, hx, Option.bind_some]
      obtain ⟨v, hv, _⟩ := short_m a1[i]
      rw [hv, Option.bind_some]
      cases v with
      | false => exact .inr (.inr ⟨true, rfl, rfl⟩)
      | true =>
      rw [if_neg (by decide), Option.bind_some]
      rcases read_f hsc (l := []) rfl hF a1[i] with ⟨e, he, er⟩ | ⟨rs', hsc', hl', er⟩
      · have he : e = 1 := by
          rcases he with he | he
          · exact he
          · have : 128 ≤ rs.length := he.2
            omega
        subst he
        rw [er, Option.bind_some, if_pos (by show (!decide ((1 : Int) = 0)) = true; rfl), if_neg (by show ¬ (!decide ((1 : Int) = 1)) = true; decide)]
        unfold m5_l11_SsiAlone_k15
        rw [if_neg (by show ¬ decide ((1 : Int) = 0) = true; decide), wI_id (by omega) (by omega)]
        exact .inl ⟨_, rfl, ⟨i + 1, rs, hlt, rfl, hsc, by omega⟩, by dsimp only; omega⟩
      · rw [er, Option.bind_some, if_neg (by show ¬ (!decide ((0 : Int) = 0)) = true; decide)]
        unfold m5_l11_SsiAlone_k15
        rw [if_pos (by show decide ((0 : Int) = 0) = true; rfl), wI_id (by omega) (by omega)]
        exact .inl ⟨_, rfl, ⟨i + 1, rs', hlt, rfl, hsc', by have hl' : rs'.length ≤ rs.length + 1 := hl'; omega⟩, by dsimp only; omega⟩
    · have e : i = a1.length := by omega
      subst e
      rw [if_neg (by rw [decide_eq_true_eq]; omega)]
      exact .inr (.inl ⟨_, rfl, rs, rfl, hsc⟩)) fuel (0, [txR 1000 w.now false], []) ⟨0, [], Nat.zero_le _, rfl, hsc, Nat.le_refl _⟩ (lt_fuel (by show a1.length - 0 ≤ _; omega))
  rw [hv, Option.bind_some]
  cases v with
  | inl r => rw [show r = true from hr]
  | inr b =>
    obtain ⟨rs, rfl, hsc⟩ := hr
    show m5_l11_SsiAlone_k8 a2 true (tup w) (_, 0) ([txR 1000 w.now false], rs) = some true
    unfold m5_l11_SsiAlone_k8
    rw [show (tup w).2.2.1 = w.now from rfl, wI_id (by have := h.now0; omega) (by omega)]
    rcases commit_m hsc 1000 (w.now + 1) a2 (by omega) with ⟨h1, _⟩ | ⟨a, ha, e1, h1, ⟨_, e⟩ | ⟨hm, ⟨hc, _⟩ | ⟨_, ⟨hc, _⟩ | ⟨_, _, e⟩⟩⟩⟩
    · exact absurd rfl (h1 _ (List.mem_singleton_self _) rfl)
    · rw [e]; rfl
    · refine absurd (fun x hx hs => ?_) hc
      rw [List.mem_singleton.1 hx] at hs; cases hs
    · have ha' := List.mem_singleton.1 ha
      subst ha'
      have hn : ∀ x ∈ [txR 1000 w.now false], hitT rs (txR 1000 w.now false) a2 x = false := fun x hx => by
        rw [List.mem_singleton.1 hx]
        unfold hitT
        rw [decide_eq_true rfl]; rfl
      rcases hc with ⟨x, hx, hh, _⟩ | ⟨_, ho⟩
      · rw [hn x hx] at hh; cases hh
      · cases ho
    · rw [e]; rfl

theorem ssiReaders_true (a0 : List GL11Act) (a1 : List GApiRange) : m8_l11_SsiReaders a0 a1 = some true := by
  unfold m8_l11_SsiReaders
  rw [awake11, Option.bind_some]
  obtain ⟨v, hv, hs⟩ := small_m a0
  rw [hv, Option.bind_some]
  cases v with
  | false => rfl
  | true =>
  obtain ⟨hl, hk⟩ := hs rfl
  rw [if_neg (by decide)]
  by_cases h20 : (20 : Int) < a1.length
  · rw [if_pos (decide_eq_true h20)]
  rw [if_neg (by rw [decide_eq_true_eq]; exact h20)]
  unfold m8_l11_SsiReaders_k2
  refine run_s _ (m8_l11_SsiReaders_s15 a0) hl hk (fun s => rfl) fun w h hb => ?_
  unfold m8_l11_SsiReaders_k3
  have b1 := hb.now
  have b2 := hb.beg
  have hmt : w.now ≤ maxTs := by show w.now ≤ 1099511627776; omega
  rw [show (tup w).2.2.1 = w.now from rfl, show (⟨(tup w).1, ⟨(tup w).2.1⟩⟩ : GSsiCert) = w.c from rfl]
  have hF : Fresh w.c.Txs 1000 w.now := ⟨fun x hx => by have := h.idlt hx; omega, fun x hx hs => h.past hx hs⟩
  rcases begin_m h.sc 1000 w.now true (by decide) h.now0 hmt with ⟨⟨x, hx, e⟩, _⟩ | ⟨_, ⟨h64, e⟩ | ⟨h64, e⟩⟩
  · exact absurd e (hF.id x hx)
  · rw [e]; rfl
  have hsc := sc_add h.sc true hF (by decide) h.now0 hmt h64
  rw [show m17_ssi_Begin w.c 1000 w.now true = some (⟨w.c.Txs ++ [txR 1000 w.now true], w.c.Reads⟩, 0) from e, Option.bind_some, if_neg (by show ¬ (!decide ((0 : Int) = 0)) = true; decide)]
  obtain ⟨v, hv, hr⟩ := iter_inv (f := m8_l11_SsiReaders_s8 a1 true) (P := fun s => ∃ (i : Nat) (rs : List GReadsRead), i ≤ a1.length ∧ s = ((i : Int), w.c.Txs ++ [txR 1000 w.now true], rs) ∧ SC ⟨w.c.Txs ++ [txR 1000 w.now true], ⟨rs⟩⟩) (μ := fun s => a1.length - s.1.toNat) (R := fun v => match v with | .inl r => r = true | .inr b => ∃ rs : List GReadsRead, b = (w.c.Txs ++ [txR 1000 w.now true], rs) ∧ SC ⟨w.c.Txs ++ [txR 1000 w.now true], ⟨rs⟩⟩) (by
    rintro _ ⟨i, rs, hi, rfl, hsc⟩
    unfold m8_l11_SsiReaders_s8
    dsimp only
    rcases Nat.lt_or_ge i a1.length with hlt | hge
    · have hx := List.getElem?_eq_getElem hlt
      rw [if_pos (decide_eq_true (by omega)), idx_nat, hx, Option.bind_some]
      obtain ⟨v, hv, _⟩ := small_m [(⟨0, 0, false, a1[i], []⟩ : GL11Act)]
      rw [hv, Option.bind_some]
      cases v with
      | false => exact .inr (.inr ⟨true, rfl, rfl⟩)
      | true =>
      rw [if_neg (by decide), Option.bind_some]
      rcases read_f hsc (l := w.c.Txs) rfl hF a1[i] with ⟨e, he, er⟩ | ⟨rs', hsc', _, er⟩
      · have hgo : ∀ z : GSsiCert × Int, z.2 = e → (∃ s', m8_l11_SsiReaders_k13 ((i : Int), w.c.Txs ++ [txR 1000 w.now true], rs) z () = some (.cont s') ∧ (∃ (i : Nat) (rs : List GReadsRead), i ≤ a1.length ∧ s' = ((i : Int), w.c.Txs ++ [txR 1000 w.now true], rs) ∧ SC ⟨w.c.Txs ++ [txR 1000 w.now true], ⟨rs⟩⟩) ∧ a1.length - s'.1.toNat < a1.length - (i : Int).toNat) := fun z hz => by
          unfold m8_l11_SsiReaders_k13
          rw [hz, if_neg (by rw [decide_eq_true_eq]; rcases he with he | he <;> omega), wI_id (by omega) (by omega)]
          exact ⟨_, rfl, ⟨i + 1, rs, hlt, rfl, hsc⟩, by dsimp only; omega⟩
        rw [er, Option.bind_some]
        left
        rcases he with he | ⟨he, _⟩
        · subst he
          rw [if_pos (by show (!decide ((1 : Int) = 0)) = true; rfl), if_neg (by show ¬ (!decide ((1 : Int) = 1)) = true; decide)]
          exact hgo _ rfl
        · subst he
          rw [if_pos (by show (!decide ((8 : Int) = 0)) = true; rfl), if_pos (by show (!decide ((8 : Int) = 1)) = true; rfl), if_neg (by show ¬ (!decide ((8 : Int) = 8)) = true; decide)]
          exact hgo _ rfl
      · rw [er, Option.bind_some, if_neg (by show ¬ (!decide ((0 : Int) = 0)) = true; decide)]
        unfold m8_l11_SsiReaders_k13
        rw [if_pos (by show decide ((0 : Int) = 0) = true; rfl), wI_id (by omega) (by omega)]
        exact .inl ⟨_, rfl, ⟨i + 1, rs', hlt, rfl, hsc'⟩, by dsimp only; omega⟩
    · have e : i = a1.length := by omega
      subst e
      rw [if_neg (by rw [decide_eq_true_eq]; omega)]
      exact .inr (.inl ⟨_, rfl, rs, rfl, hsc⟩)) fuel (0, w.c.Txs ++ [txR 1000 w.now true], w.c.Reads.L) ⟨0, w.c.Reads.L, Nat.zero_le _, rfl, hsc⟩ (lt_fuel (by show a1.length - 0 ≤ _; omega))
  rw [hv, Option.bind_some]
  cases v with
  | inl r => rw [show r = true from hr]
  | inr b =>
    obtain ⟨rs, rfl, hsc⟩ := hr
    show m8_l11_SsiReaders_k5 true (tup w) (w.c.Txs ++ [txR 1000 w.now true], rs) = some true
    unfold m8_l11_SsiReaders_k5
    rw [show (tup w).2.2.1 = w.now from rfl, wI_id (by have := h.now0; omega) (by omega)]
    have hme : txR 1000 w.now true ∈ w.c.Txs ++ [txR 1000 w.now true] := List.mem_append_right _ (List.mem_singleton_self _)
    have hnh : ∀ x, hitT rs (txR 1000 w.now true) [] x = false := fun x => by
      cases hh : hitT rs (txR 1000 w.now true) [] x with
      | false => rfl
      | true =>
        obtain ⟨_, ⟨r, _, _, hm⟩, _⟩ := hitT_iff.1 hh
        cases hm
    have hany : ∀ l : List GSsiTx, l.any (hitT rs (txR 1000 w.now true) []) = false := fun l => List.any_eq_false.2 fun x _ => by rw [hnh x]; decide
    rcases commit_m hsc 1000 (w.now + 1) [] (by decide) with ⟨h1, _⟩ | ⟨a, ha, e1, h1, ⟨hm, _⟩ | ⟨hm, ⟨hc, _⟩ | ⟨_, ⟨hc, _⟩ | ⟨_, _, e⟩⟩⟩⟩
    · exact absurd rfl (h1 _ hme rfl)
    · have : a = txR 1000 w.now true := hsc.one ha hme e1
      subst this
      refine absurd ⟨?_, by show w.now + 1 ≤ 1099511627776; omega, KS.nil, fun e => e.2 rfl, fun y hy => ?_⟩ hm
      · show w.now < w.now + 1; omega
      · rcases List.mem_append.1 hy with hy | hy
        · rcases h.st hy with hs | hs
          · rcases (h.each y hy).st with ⟨_, e, _⟩ | ⟨e, _⟩
            · have := h.now0; omega
            · rw [hs] at e; cases e
          · have := h.past hy hs; omega
        · rw [List.mem_singleton.1 hy]
          show (0 : Int) < w.now + 1
          have := h.now0; omega
    · exact absurd (fun x hx hs hb k hk => by simp at hk) hc
    · have : a = txR 1000 w.now true := hsc.one ha hme e1
      subst this
      rcases hc with ⟨x, hx, hh, _⟩ | ⟨_, ho⟩
      · rw [hnh x] at hh; cases hh
      · cases ho
    · have : a = txR 1000 w.now true := hsc.one ha hme e1
      subst this
      rw [e, Option.bind_some]
      dsimp only
      have hlen : (w.c.Txs ++ [txR 1000 w.now true]).length ≤ 64 := hsc.len
      have hid : ∀ x, (doneF (w.c.Txs ++ [txR 1000 w.now true]) rs (txR 1000 w.now true) (w.now + 1) [] x).ID = x.ID := fun x => by
        unfold doneF
        split
        · rfl
        · split <;> rfl
      rcases find_c ⟨(w.c.Txs ++ [txR 1000 w.now true]).map (doneF (w.c.Txs ++ [txR 1000 w.now true]) rs (txR 1000 w.now true) (w.now + 1) []), ⟨rs⟩⟩ 1000 (by dsimp only; rw [List.length_map]; omega) with ⟨hno, _⟩ | ⟨x, hx, ex, e⟩
      · exact absurd (hid _) (hno _ (List.mem_map.2 ⟨_, hme, rfl⟩))
      · rw [e, Option.bind_some]
        obtain ⟨y, hy, rfl⟩ := List.mem_map.1 hx
        rw [hid] at ex
        have : y = txR 1000 w.now true := hsc.one hy hme ex
        subst this
        have : doneF (w.c.Txs ++ [txR 1000 w.now true]) rs (txR 1000 w.now true) (w.now + 1) [] (txR 1000 w.now true) = ⟨1000, w.now, w.now + 1, 2, false, false, true, []⟩ := by
          unfold doneF
          rw [if_pos rfl, hany]; rfl
        rw [this]; rfl
end Go.Proofs.Ytbmciegldpeaiaa.Abs
