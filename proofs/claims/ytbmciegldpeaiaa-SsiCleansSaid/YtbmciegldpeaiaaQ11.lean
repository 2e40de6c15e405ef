/-
  SsiAlone, SsiStill, SsiCleans, SsiReaders.
-/
import Derived.Test.YtbmciegldpeaiaaO11
namespace Go.Proofs.Ytbmciegldpeaiaa.Abs


theorem readF_none {l : List GSsiTx} {a : GSsiTx} {r : GApiRange} (h : ∀ x ∈ l, passT a r x = false) : l.map (readF l a r) = l := by
  refine (List.map_congr_left fun x hx => ?_).trans (List.map_id l)
  unfold readF
  rw [List.any_eq_false.2 (fun y hy => by rw [h y hy]; decide), h x hx]
  split
  · rw [Bool.or_false]; rfl
  · rfl

/-- One more, who begins at the time that it is, and reads. -/
def txR (id now : Int) (ro : Bool) : GSsiTx := ⟨id, now, 0, 1, false, false, ro, []⟩
structure Fresh (l : List GSsiTx) (id now : Int) : Prop where
  id : ∀ x ∈ l, x.ID ≠ id
  past : ∀ x ∈ l, x.State = 2 → x.End ≤ now
theorem sc_add {c : GSsiCert} (h : SC c) {id now : Int} (ro : Bool) (hf : Fresh c.Txs id now) (h0 : 0 ≤ id) (h1 : 0 ≤ now) (h2 : now ≤ maxTs) (hl : c.Txs.length < 64) : SC ⟨c.Txs ++ [txR id now ro], c.Reads⟩ := by
  have key : ∀ {P : GSsiTx → Prop}, (∀ x ∈ c.Txs, P x) → P (txR id now ro) → ∀ x ∈ c.Txs ++ [txR id now ro], P x := fun h1 h2 x hx => by
    rcases List.mem_append.1 hx with hx | hx
    · exact h1 x hx
    · rw [List.mem_singleton.1 hx]; exact h2
  constructor
  · exact h.gr
  · intro r hr
    obtain ⟨x, hx, e⟩ := h.ri r hr
    exact ⟨x, List.mem_append_left _ hx, e⟩
  · show (c.Txs ++ _).length ≤ 64
    rw [List.length_append, List.length_singleton]; omega
  · exact key h.each ⟨h0, ⟨h1, h2⟩, .inl ⟨rfl, rfl, rfl⟩⟩
  · refine List.pairwise_append.2 ⟨h.ids, List.pairwise_singleton .., fun x hx y hy => ?_⟩
    rw [List.mem_singleton.1 hy]
    exact hf.id x hx
  · exact key (fun x hx => key (h.ends x hx) (fun _ e => by cases e)) (fun y hy e => by cases e)
  · exact key h.keys (by show ([] : Keys).length ≤ 10; decide)
theorem sc_reads {c : GSsiCert} (h : SC c) {rs : List GReadsRead} (hg : Good rs) {id : Int} {r : GApiRange} (hid : ∃ x ∈ c.Txs, x.ID = id) (hn : ∀ x ∈ rs, x ∈ c.Reads.L ∨ x = ⟨id, r⟩) : SC ⟨c.Txs, ⟨rs⟩⟩ := by
  refine ⟨hg, fun x hx => ?_, h.len, h.each, h.ids, h.ends, h.keys⟩
  rcases hn x hx with hx | rfl
  · exact h.ri x hx
  · exact hid
/-- It reads: none is passed by. -/
theorem read_f {c : GSsiCert} (h : SC c) {l : List GSsiTx} {id now : Int} {ro : Bool} (hc : c.Txs = l ++ [txR id now ro]) (hf : Fresh l id now) (r : GApiRange) :
    (∃ e, (e = 1 ∨ (e = 8 ∧ 128 ≤ c.Reads.L.length)) ∧ m19_ssi_Read c id r = some (cN, e)) ∨
    ∃ rs : List GReadsRead, SC ⟨c.Txs, ⟨rs⟩⟩ ∧ rs.length ≤ c.Reads.L.length + 1 ∧ m19_ssi_Read c id r = some (⟨c.Txs, ⟨rs⟩⟩, 0) := by
  have hme : txR id now ro ∈ c.Txs := by rw [hc]; exact List.mem_append_right _ (List.mem_singleton_self _)
  have hnp : ∀ x ∈ c.Txs, passT (txR id now ro) r x = false := fun x hx => by
    rw [hc] at hx
    cases hp : passT (txR id now ro) r x with
    | false => rfl
    | true =>
      obtain ⟨h1, h2, _⟩ := passT_iff.1 hp
      have h2 : now < x.End := h2
      rcases List.mem_append.1 hx with hx | hx
      · have := hf.past x hx h1; omega
      · rw [List.mem_singleton.1 hx] at h1; cases h1
  rcases read_m h id r with ⟨h1, _⟩ | ⟨a, ha, e1, h1, h2 | ⟨⟨x, hx, hp, _⟩, _⟩ | ⟨rs, hg, r1, r2, r3, r4, r5, e⟩⟩
  · exact absurd rfl (h1 _ hme rfl)
  · exact .inl h2
  · rw [show a = txR id now ro from h.one ha hme e1, hnp x hx] at hp; cases hp
  · have : a = txR id now ro := h.one ha hme e1
    subst this
    rw [readF_none hnp] at e
    exact .inr ⟨rs, sc_reads h hg ⟨_, hme, rfl⟩ r3, r4, e⟩

theorem run_s {a0 : List GL11Act} {ρ : Type} (g : T6 → Option ρ) (f : Int × T6 → Option (LB (Int × T6) T6)) (hl : a0.length ≤ 60) (hk : ∀ o ∈ a0, o.Keys.length ≤ 10)
    (hf : ∀ s, f s = if (decide (s.1 < (a0.length : Int))) then ((idx a0 s.1).bind fun u21 => (m11_l11_world_dos (GL11Act.mk u21.What u21.N u21.RO (GApiRange.mk u21.Rng.Lo u21.Rng.Hi u21.Rng.Open) u21.Keys) s.2.1 s.2.2.1 s.2.2.2.1 s.2.2.2.2.1 s.2.2.2.2.2.1 s.2.2.2.2.2.2).bind fun v22 => some (.cont ((wI (s.1 + 1)), v22.1, v22.2.1, v22.2.2.1, v22.2.2.2.1, v22.2.2.2.2.1, v22.2.2.2.2.2))) else (some (.brk (s.2.1, s.2.2.1, s.2.2.2.1, s.2.2.2.2.1, s.2.2.2.2.2.1, s.2.2.2.2.2.2))))
    {v : ρ} (hg : ∀ w, Inv K10 w → Bd w 60 → g (tup w) = some v) : (iterB f fuel (0, ([] : List GSsiTx), ([] : List GReadsRead), 0, ([] : List Int), ([] : List GR11Tx), ([] : List GR10Read))).bind g = some v := by
  obtain ⟨w, hw, h, hb⟩ := runL hl hk f (fun i o w v ho hd => by
    have hlt := (List.getElem?_eq_some_iff.1 ho).1
    rw [hf]
    dsimp only
    rw [if_pos (decide_eq_true (by omega)), idx_nat, ho, Option.bind_some, show m11_l11_world_dos (⟨o.What, o.N, o.RO, ⟨o.Rng.Lo, o.Rng.Hi, o.Rng.Open⟩, o.Keys⟩ : GL11Act) (tup w).1 (tup w).2.1 (tup w).2.2.1 (tup w).2.2.2.1 (tup w).2.2.2.2.1 (tup w).2.2.2.2.2 = some (tup v) from hd, Option.bind_some, wI_id (by omega) (by omega)]
    rfl) (fun w => by
    rw [hf]
    dsimp only
    rw [if_neg (by rw [decide_eq_true_eq]; omega)])
  rw [show iterB f fuel (0, ([] : List GSsiTx), ([] : List GReadsRead), 0, ([] : List Int), ([] : List GR11Tx), ([] : List GR10Read)) = some (tup w) from hw, Option.bind_some]
  exact hg w h hb
theorem Inv.past {w : WL11} (h : Inv K10 w) {x : GSsiTx} (hx : x ∈ w.c.Txs) (hs : x.State = 2) : x.End ≤ w.now := by
  obtain ⟨d, hd, _, _, e, _⟩ := h.don x hx hs
  rw [← e]; exact (h.did0 d hd).2.2.2.1
theorem Inv.idlt {w : WL11} (h : Inv K10 w) {x : GSsiTx} (hx : x ∈ w.c.Txs) : x.ID < w.begun.length := (idx_ltm (h.act x hx)).2.1

theorem sc_nil : SC cN := ⟨Good.nil, by simp, by decide, by simp, List.Pairwise.nil, by simp, by simp⟩

end Go.Proofs.Ytbmciegldpeaiaa.Abs
