/-
  The document's Offer is the program's.
-/
import Derived.Test.YtlpanhfojeaamaaDoorH16
namespace Go.Proofs.YtlpanhfojeaamaaDoor.Abs

def insG (r : GR05Req) : List GR05Req → List GR05Req
  | [] => [r]
  | x :: l => if r.Seq < x.Seq then r :: x :: l else x :: insG r l
theorem insG_map (r : GR05Req) : ∀ (l : List GR05Req), hasW (l.map rq) r.Seq = false → (insG r l).map rq = insW (rq r) (l.map rq)
  | [], _ => rfl
  | x :: l, h => by
    unfold hasW at h
    rw [List.map_cons, List.any_cons, Bool.or_eq_false_iff] at h
    have hne : ¬ x.Seq = r.Seq := of_decide_eq_false h.1
    unfold insG
    rw [List.map_cons, insW]
    by_cases hlt : r.Seq < x.Seq
    · rw [if_pos hlt, if_neg (show ¬ (rq x).Seq < (rq r).Seq by show ¬ x.Seq < r.Seq; omega)]
      rfl
    · rw [if_neg hlt, if_pos (show (rq x).Seq < (rq r).Seq by show x.Seq < r.Seq; omega), List.map_cons, insG_map r l h.2]
theorem lay_loop (a : GR16Pipe) (r : GR05Req) (hl : a.Wait.length ≤ 1000000) : ∃ d l, iterB (m15_r16_Offer_s8 a r) fuel (false, 0, ([] : List GR05Req)) = some (d, l) ∧ l.length ≤ 2000000 ∧ (if d then l else l ++ [r]) = insG r a.Wait := by
  obtain ⟨v, hv, h1, h2⟩ := iterB_inv (f := m15_r16_Offer_s8 a r) (P := fun t => ∃ (i : Nat) (d : Bool) (l : List GR05Req), i ≤ a.Wait.length ∧ t = (d, (i : Int), l) ∧ l.length ≤ i + 1 ∧ l ++ (if d then a.Wait.drop i else insG r (a.Wait.drop i)) = insG r a.Wait) (μ := fun t => a.Wait.length - t.2.1.toNat)
    (R := fun v => v.2.length ≤ 2000000 ∧ (if v.1 then v.2 else v.2 ++ [r]) = insG r a.Wait) (by
    rintro _ ⟨i, d, l, hi, rfl, hll, he⟩
    unfold m15_r16_Offer_s8
    rcases Nat.lt_or_ge i a.Wait.length with hlt | hge
    · left
      rw [if_pos (decide_eq_true (by show (i : Int) < _; omega))]
      dsimp only
      have hx : a.Wait[i]? = some a.Wait[i] := List.getElem?_eq_getElem hlt
      rw [List.drop_eq_getElem_cons hlt, insG] at he
      rw [idx_nat, hx]
      simp only [Option.bind_some]
      have k9 : ∀ (d2 : Bool) (l2 : List GR05Req), l2.length ≤ i + 1 → (if d2 then a.Wait.drop (i + 1) else insG r (a.Wait.drop (i + 1))) = (if d2 then a.Wait.drop (i + 1) else insG r (a.Wait.drop (i + 1))) → l2 ++ a.Wait[i] :: (if d2 then a.Wait.drop (i + 1) else insG r (a.Wait.drop (i + 1))) = insG r a.Wait →
          ∃ s', m15_r16_Offer_k9 a (d, (i : Int), l) (d2, l2) = some (.cont s') ∧ (∃ (i : Nat) (d : Bool) (l : List GR05Req), i ≤ a.Wait.length ∧ s' = (d, (i : Int), l) ∧ l.length ≤ i + 1 ∧ l ++ (if d then a.Wait.drop i else insG r (a.Wait.drop i)) = insG r a.Wait) ∧ a.Wait.length - s'.2.1.toNat < a.Wait.length - (i : Int).toNat := fun d2 l2 hl2 _ he2 => by
        unfold m15_r16_Offer_k9
        dsimp only
        rw [idx_nat, hx]
        simp only [Option.bind_some]
        rw [if_pos (by rw [List.length_singleton]; omega), wI_id (by omega) (by omega)]
        refine ⟨_, rfl, ⟨i + 1, d2, l2 ++ [a.Wait[i]], by omega, rfl, by rw [List.length_append, List.length_singleton]; omega, ?_⟩, by dsimp only; omega⟩
        rw [List.append_assoc]
        exact he2
      by_cases h : r.Seq < (a.Wait[i]).Seq
      · rw [if_pos (decide_eq_true h)]
        rw [if_pos h] at he
        cases d
        · rw [if_pos (by rfl), if_pos (by rw [List.length_singleton]; omega)]
          rw [if_neg (by simp)] at he
          have hr : (GR05Req.mk r.Kind r.Seq r.Token r.Attempt r.RO r.Key r.Val (GApiRange.mk r.Rng.Lo r.Rng.Hi r.Rng.Open)) = r := by cases r; rfl
          rw [hr]
          have hl' : l.length ≤ i := by
            have := congrArg List.length he
            have hg : (insG r a.Wait).length = a.Wait.length + 1 := by
              have : ∀ l : List GR05Req, (insG r l).length = l.length + 1 := fun l => by
                induction l with
                | nil => rfl
                | cons x l ih => unfold insG; split <;> simp [ih]
              exact this _
            rw [hg, List.length_append, List.length_cons, List.length_cons, List.length_drop] at this
            omega
          exact k9 true (l ++ [r]) (by rw [List.length_append, List.length_singleton]; omega) rfl (by rw [List.append_assoc]; exact he)
        · rw [if_neg (by simp)]
          rw [if_pos rfl] at he
          exact k9 true l hll rfl he
      · rw [if_neg (by rw [decide_eq_true_eq]; exact h)]
        rw [if_neg h] at he
        cases d
        · exact k9 false l hll rfl he
        · exact k9 true l hll rfl he
    · right
      rw [if_neg (by rw [decide_eq_true_eq]; show ¬ (i : Int) < _; omega)]
      rw [List.drop_eq_nil_of_le hge, insG] at he
      refine ⟨_, rfl, by dsimp only; omega, ?_⟩
      rw [← he]
      cases d
      · rfl
      · simp) fuel (false, 0, ([] : List GR05Req)) ⟨0, false, [], Nat.zero_le _, rfl, by simp, by simp⟩ (lt_fuel (by dsimp only; omega))
  exact ⟨v.1, v.2, hv, h1, h2⟩

theorem find_map (s : Int) (l : List GR05Reply) : ((l.map rp).find? fun x => decide (x.Seq = s)) = (l.find? fun x => decide (x.Seq = s)).map rp := by
  induction l with
  | nil => rfl
  | cons x l ih =>
    rw [List.map_cons, List.find?_cons, List.find?_cons, ih]
    show (match decide (x.Seq = s) with | true => _ | false => _) = _
    cases decide (x.Seq = s) <;> rfl
abbrev zrr : GR05Reply := GR05Reply.mk 0 0 0 0 false ([] : List UInt8) ([] : List GApiKV)
/-- What the document's Offer answers, in its own terms. -/
def thO (x : GPipePipe × GMsgReply × Bool × Int) : GR16Pipe × GR05Reply × Bool × Int := (th x.1, pr x.2.1, x.2.2.1, x.2.2.2)
theorem roffer_m (a : GR16Pipe) (r : GR05Req) (hf : FewR a) (hp0 : FewP (ou a)) : m15_r16_Offer a r = some (thO (offerM (ou a) (rq r))) := by
  unfold m15_r16_Offer offerM
  rw [show m28_r16_Sane _ = some (saneB (ou a)) from rsaneP_m a hf, show m31_r05_SaneReq _ = some (saneReq (rq r)) from saneRef_m r]
  simp only [Option.bind_some]
  cases hsp : saneB (ou a) with
  | false => rw [if_pos (show (!false) = true from rfl), if_neg (fun h => absurd h.1 (by simp))]; rfl
  | true =>
    cases hsr : saneReq (rq r) with
    | false => rw [if_neg (show ¬ (!true) = true by simp), if_pos (show (!false) = true from rfl), if_neg (fun h => absurd h.2 (by simp))]; rfl
    | true =>
      have hp := saneB_true.1 hsp
      rw [if_neg (show ¬ (!true) = true by simp), if_neg (show ¬ (!true) = true by simp), if_pos ⟨rfl, rfl⟩]
      unfold m15_r16_Offer_k1 offer1
      have hpl := hf.pl
      rw [show (ou a).Past = a.Past.map rp from rfl, show (rq r).Seq = r.Seq from rfl, find_map]
      obtain ⟨b, hb, hR⟩ := iter_inv (f := m15_r16_Offer_s15 a r) (P := fun t => ∃ i : Nat, i ≤ a.Past.length ∧ t = (i : Int) ∧ (a.Past.find? fun x => decide (x.Seq = r.Seq)) = (a.Past.drop i).find? fun x => decide (x.Seq = r.Seq)) (μ := fun t => a.Past.length - t.toNat)
        (R := fun v => match v with | .inl v => ∃ x, (a.Past.find? fun x => decide (x.Seq = r.Seq)) = some x ∧ v = (a, x, true, 0) | .inr _ => (a.Past.find? fun x => decide (x.Seq = r.Seq)) = none) (by
        rintro _ ⟨i, hi, rfl, he⟩
        unfold m15_r16_Offer_s15
        rcases Nat.lt_or_ge i a.Past.length with hlt | hge
        · rw [if_pos (decide_eq_true (by omega)), idx_nat, List.getElem?_eq_getElem hlt]
          simp only [Option.bind_some]
          rw [List.drop_eq_getElem_cons hlt, List.find?_cons] at he
          by_cases h : (a.Past[i]).Seq = r.Seq
          · rw [decide_eq_true h] at he ⊢
            rw [if_pos rfl]
            exact .inr (.inr ⟨_, rfl, _, he, rfl⟩)
          · rw [decide_eq_false h] at he ⊢
            rw [if_neg (by simp), wI_id (by omega) (by omega)]
            exact .inl ⟨_, rfl, ⟨i + 1, by omega, rfl, he⟩, by omega⟩
        · rw [if_neg (by rw [decide_eq_true_eq]; omega)]
          rw [List.drop_eq_nil_of_le hge] at he
          exact .inr (.inl ⟨(), rfl, he⟩)) fuel 0 ⟨0, Nat.zero_le _, rfl, rfl⟩ (lt_fuel (by omega))
      rw [hb]
      cases b with
      | inl v =>
        obtain ⟨x, hx, rfl⟩ := hR
        rw [hx]
        show some (a, x, true, (0 : Int)) = some (th (ou a), pr (rp x), true, 0)
        rw [th_ou, pr_rp]
      | inr u =>
        rw [show (a.Past.find? fun x => decide (x.Seq = r.Seq)) = none from hR]
        simp only [Option.bind_some, Option.map_none]
        unfold m15_r16_Offer_k2
        have hq : 0 ≤ r.Seq ∧ r.Seq ≤ 4294967295 := sane_seq hsr
        have n0 : 0 ≤ a.Next := hp.n0
        have n1 : a.Next ≤ 4294967296 := hp.n1
        rw [show (ou a).Next = a.Next from rfl, show (ou a).Wait = a.Wait.map rq from rfl]
        by_cases h1 : r.Seq < a.Next
        · rw [if_pos (decide_eq_true h1), if_pos h1]; rfl
        rw [if_neg (by rw [decide_eq_true_eq]; exact h1), if_neg h1, show m36_r16_waits _ r.Seq = some (posW (a.Wait.map rq) r.Seq) from waits_m a r.Seq hf.w]
        simp only [Option.bind_some]
        rw [posW_nonneg]
        by_cases h2 : hasW (a.Wait.map rq) r.Seq = true
        · rw [if_pos h2, if_pos h2]
          show some (a, zrr, false, (0 : Int)) = some (th (ou a), zrr, false, 0)
          rw [th_ou]
        rw [if_neg h2, if_neg h2, wI_id (by omega) (by omega)]
        by_cases h3 : a.Next + 8 ≤ r.Seq
        · rw [if_pos (decide_eq_true h3), if_pos h3]; rfl
        rw [if_neg (by rw [decide_eq_true_eq]; exact h3), if_neg h3]
        have h2' : hasW (a.Wait.map rq) r.Seq = false := by simpa using h2
        obtain ⟨g1, g2, g3, g4, _⟩ := win_accept hp (s := r.Seq) (by show a.Next ≤ _; omega) (by show _ < a.Next + 8; omega) hq.2 h2'
        rw [show m37_r15_Accept _ r.Seq = _ from raccept_m (b := a.Win.Base) (u := a.Win.Bits) hp.s g1 g2 g3]
        simp only [Option.bind_some]
        obtain ⟨d, l, hlo, hll, hins⟩ := lay_loop a r hf.w
        rw [hlo]
        simp only [Option.bind_some]
        have hr : (GR05Req.mk r.Kind r.Seq r.Token r.Attempt r.RO r.Key r.Val (GApiRange.mk r.Rng.Lo r.Rng.Hi r.Rng.Open)) = r := by cases r; rfl
        have hend : th (offP (ou a) (rq r)) = GR16Pipe.mk (GR15Window.mk (acceptM a.Win.Base a.Win.Bits r.Seq).1.1 (acceptM a.Win.Base a.Win.Bits r.Seq).1.2) a.Next (insG r a.Wait) a.Past := by
          show GR16Pipe.mk (GR15Window.mk (acceptM a.Win.Base a.Win.Bits r.Seq).1.1 (acceptM a.Win.Base a.Win.Bits r.Seq).1.2) a.Next ((insW (rq r) (a.Wait.map rq)).map qr) ((a.Past.map rp).map pr) = _
          rw [← insG_map r a.Wait h2', List.map_map, List.map_map, show qr ∘ rq = id from funext qr_rq, show pr ∘ rp = id from funext pr_rp, List.map_id, List.map_id]
        show _ = some (th (offP (ou a) (rq r)), zrr, false, (0 : Int))
        rw [hend, ← hins]
        unfold m15_r16_Offer_k5 m15_r16_Offer_k6
        rw [hr]
        cases d
        · rw [if_pos (by rfl), if_pos (by rw [List.length_singleton]; dsimp only; omega)]
          rfl
        · rw [if_neg (by simp)]
          rfl
end Go.Proofs.YtlpanhfojeaamaaDoor.Abs
