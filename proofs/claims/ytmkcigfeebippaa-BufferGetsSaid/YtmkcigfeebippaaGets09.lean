/-
  What is set is got; there are sixteen; set twice is set once.
-/
import Derived.Test.YtmkcigfeebippaaL09
namespace Go.Proofs.Ytmkcigfeebippaa.Abs

theorem nn {b : Bool} (h : b = false) : ¬ b = true := fun h' => by rw [h] at h'; cases h'
theorem key_bool (a b : List UInt8) : (a == b) = decide (a = b) := by
  by_cases h : a = b
  · subst h; simp
  · simp [h]

theorem bufferGets_true (a0 : List GApiWrite) (a1 : List UInt8) : m3_l09_BufferGets a0 a1 = some true := by
  unfold m3_l09_BufferGets
  rw [awake09, Option.bind_some]
  obtain ⟨b, hb, hf⟩ := fewW_m a0
  rw [hb, Option.bind_some]
  cases b with
  | false => rfl
  | true =>
  obtain ⟨hl, -⟩ := hf rfl
  rw [if_neg (nn (by rfl))]
  by_cases hk : (50 : Int) < a1.length
  · rw [if_pos (decide_eq_true hk)]
  rw [if_neg (by rw [decide_eq_true_eq]; exact hk)]
  unfold m3_l09_BufferGets_k2
  obtain ⟨v, hv, hr⟩ := iterB_inv (f := m3_l09_BufferGets_s7 a0 a1) (P := fun s => ∃ (i : Nat) (is : Bool) (b : List GApiWrite) (w : GApiWrite), i ≤ a0.length ∧ s = (is, (i : Int), b, w.Key, w.Val, w.Del) ∧ Good b ∧ (is = true → w ∈ b ∧ w.Key = a1) ∧ (is = false → w = ⟨[], [], false⟩ ∧ ∀ x ∈ b, wk x ≠ a1))
    (μ := fun s => a0.length - s.2.1.toNat) (R := fun v => ∃ (is : Bool) (b : List GApiWrite) (w : GApiWrite), v = (is, b, w.Key, w.Val, w.Del) ∧ Good b ∧ (is = true → w ∈ b ∧ w.Key = a1) ∧ (is = false → w = ⟨[], [], false⟩ ∧ ∀ x ∈ b, wk x ≠ a1)) (by
    rintro _ ⟨i, is, b, w, hi, rfl, hg, h1, h2⟩
    unfold m3_l09_BufferGets_s7
    dsimp only
    rcases Nat.lt_or_ge i a0.length with hlt | hge
    · left
      rw [if_pos (decide_eq_true (by omega)), idx_nat, List.getElem?_eq_getElem hlt, Option.bind_some, wI_id (by omega) (by omega)]
      rcases set_any hg a0[i] with ⟨hs, hg', hw⟩ | ⟨e, he, hs⟩
      · rw [hs, Option.bind_some]
        dsimp only
        rw [if_neg (nn (by rfl)), Option.bind_some]
        rw [key_bool]
        by_cases hkk : a0[i].Key = a1
        · rw [if_pos (decide_eq_true hkk), Option.bind_some]
          refine ⟨_, rfl, ⟨i + 1, true, setR b a0[i], a0[i], hlt, rfl, hg', fun _ => ⟨setR_mem.2 (.inl rfl), hkk⟩, fun h => (by cases h)⟩, by dsimp only; omega⟩
        · rw [if_neg (by rw [decide_eq_true_eq]; exact hkk)]
          refine ⟨_, rfl, ⟨i + 1, is, setR b a0[i], w, hlt, rfl, hg', fun h => ?_, fun h => ?_⟩, by dsimp only; omega⟩
          · obtain ⟨p1, p2⟩ := h1 h
            exact ⟨setR_mem.2 (.inr ⟨p1, fun e => hkk (by rw [← p2]; exact e.symm)⟩), p2⟩
          · obtain ⟨p1, p2⟩ := h2 h
            refine ⟨p1, fun x hx => ?_⟩
            rcases setR_mem.1 hx with rfl | ⟨hx, _⟩
            · exact hkk
            · exact p2 x hx
      · rw [hs, Option.bind_some]
        dsimp only
        rw [if_pos (by rw [decide_eq_false he]; rfl)]
        exact ⟨_, rfl, ⟨i + 1, is, b, w, hlt, rfl, hg, h1, h2⟩, by dsimp only; omega⟩
    · right
      have e : i = a0.length := by omega
      subst e
      rw [if_neg (by rw [decide_eq_true_eq]; omega)]
      exact ⟨_, rfl, is, b, w, rfl, hg, h1, h2⟩) fuel (false, 0, [], [], [], false) ⟨0, false, [], ⟨[], [], false⟩, Nat.zero_le _, rfl, Good.nil, fun h => (by cases h), fun _ => ⟨rfl, fun x hx => (by simp at hx)⟩⟩ (lt_fuel (by show a0.length - 0 ≤ _; omega))
  obtain ⟨is, b, w, rfl, hg, h1, h2⟩ := hr
  rw [hv, Option.bind_some]
  unfold m3_l09_BufferGets_k3
  dsimp only
  have hlb := hg.len
  rw [get_m (by omega), Option.bind_some]
  have hfind : b.find? (fun w => w.Key == a1) = if is then some w else none := by
    cases is with
    | true =>
      obtain ⟨p1, p2⟩ := h1 rfl
      rw [← p2]
      exact get_some (kf := wk) hg.rise.dist p1
    | false => exact get_none (kf := wk) (h2 rfl).2
  cases is with
  | true =>
    rw [hfind]
    show (if true = true then (if ((true : Bool) == true) = true then _ else _) else _) = _
    rw [if_pos rfl, if_pos rfl]
    rw [show (⟨w.Key, w.Val, w.Del⟩ : GApiWrite) = w from rfl]
    show (m12_r09_Same [w] [w]).bind _ = _
    rw [same_m (by simp), sane_m hg]
    rfl
  | false =>
    obtain ⟨rfl, -⟩ := h2 rfl
    rw [hfind]
    show (if true = true then (if ((false : Bool) == false) = true then _ else _) else _) = _
    rw [if_pos rfl, if_pos (by rfl)]
    show (m12_r09_Same [⟨[], [], false⟩] [⟨[], [], false⟩]).bind _ = _
    rw [same_m (by decide), sane_m hg]
    rfl

/-- Writes, one behind the other. -/
theorem grown_m {l : List GApiWrite} (hl : l.length ≤ 1000000) : ∃ b, m17_l09_grown l = some ⟨b⟩ ∧ Good b ∧ ∀ w ∈ b, w ∈ l := by
  unfold m17_l09_grown
  obtain ⟨v, hv, hr⟩ := iterB_inv (f := m17_l09_grown_s2 l) (P := fun s => ∃ (i : Nat) (b : List GApiWrite), i ≤ l.length ∧ s = ((i : Int), b) ∧ Good b ∧ ∀ w ∈ b, w ∈ l) (μ := fun s => l.length - s.1.toNat) (R := fun b => Good b ∧ ∀ w ∈ b, w ∈ l) (by
    rintro _ ⟨i, b, hi, rfl, hg, hm⟩
    unfold m17_l09_grown_s2
    dsimp only
    rcases Nat.lt_or_ge i l.length with hlt | hge
    · left
      rw [if_pos (decide_eq_true (by omega)), idx_nat, List.getElem?_eq_getElem hlt, Option.bind_some, wI_id (by omega) (by omega)]
      rcases set_any hg l[i] with ⟨hs, hg', hw⟩ | ⟨e, he, hs⟩
      · rw [hs, Option.bind_some]
        dsimp only
        rw [if_pos (by rfl)]
        refine ⟨_, rfl, ⟨i + 1, _, hlt, rfl, hg', fun w hw => ?_⟩, by dsimp only; omega⟩
        rcases setR_mem.1 hw with rfl | ⟨hw, _⟩
        · exact List.getElem_mem _
        · exact hm w hw
      · rw [hs, Option.bind_some]
        dsimp only
        rw [if_neg (by rw [decide_eq_true_eq]; exact he)]
        exact ⟨_, rfl, ⟨i + 1, b, hlt, rfl, hg, hm⟩, by dsimp only; omega⟩
    · right
      have e : i = l.length := by omega
      subst e
      rw [if_neg (by rw [decide_eq_true_eq]; omega)]
      exact ⟨_, rfl, hg, hm⟩) fuel (0, []) ⟨0, [], Nat.zero_le _, rfl, Good.nil, fun w h => (by simp at h)⟩ (lt_fuel (by show l.length - 0 ≤ _; omega))
  rw [hv]
  exact ⟨v, rfl, hr⟩

/-- Set, in all its ways, told by one condition. -/
def okW (b : List GApiWrite) (w : GApiWrite) : Prop := swV w = true ∧ (wk w ∈ b.map wk ∨ b.length < 16)
theorem set_iff {b : List GApiWrite} (h : Good b) (w : GApiWrite) : (okW b w ∧ m10_buffer_Set ⟨b⟩ w = some (⟨setR b w⟩, 0) ∧ Good (setR b w)) ∨ (¬ okW b w ∧ ∃ e : Int, e ≠ 0 ∧ (swV w = true → e = 8) ∧ m10_buffer_Set ⟨b⟩ w = some (⟨[]⟩, e)) := by
  by_cases hc : okW b w
  · obtain ⟨h1, h2⟩ := set_ok h hc.1 hc.2
    exact .inl ⟨hc, h1, h2⟩
  · exact .inr ⟨hc, set_bad h hc⟩

theorem setR_eq {a b : List GApiWrite} (ha : RiseK wk a) (hb : RiseK wk b) {x y : GApiWrite} (h : ∀ z, (z = x ∨ z ∈ a ∧ wk z ≠ wk x) ↔ (z = y ∨ z ∈ b ∧ wk z ≠ wk y)) : setR a x = setR b y :=
  rise_ext (setR_rise ha x) (setR_rise hb y) fun z => by rw [setR_mem, setR_mem]; exact h z

theorem bufferAgain_true (a0 : List GApiWrite) (a1 a2 : GApiWrite) : m6_l09_BufferAgain a0 a1 a2 = some true := by
  unfold m6_l09_BufferAgain
  rw [awake09, Option.bind_some]
  obtain ⟨b, hb, hf⟩ := fewW_m a0
  rw [hb, Option.bind_some]
  cases b with
  | false => rfl
  | true =>
  obtain ⟨hl, -⟩ := hf rfl
  rw [if_neg (nn (by rfl))]
  obtain ⟨b, hb, -⟩ := fewW_m [a1, a2]
  rw [hb, Option.bind_some]
  cases b with
  | false => rfl
  | true =>
  rw [if_neg (nn (by rfl))]
  unfold m6_l09_BufferAgain_k2
  obtain ⟨b, hb, hg, -⟩ := grown_m (l := a0) (by omega)
  rw [hb, Option.bind_some]
  rcases set_iff hg a1 with ⟨hc, hs, hg'⟩ | ⟨hc, e, he, -, hs⟩
  · rw [hs, Option.bind_some]
    dsimp only
    have hc' : okW (setR b a1) a1 := ⟨hc.1, .inl (List.mem_map.2 ⟨a1, setR_mem.2 (.inl rfl), rfl⟩)⟩
    obtain ⟨hs2, hg2⟩ := set_ok hg' hc'.1 hc'.2
    rw [hs2, Option.bind_some]
    dsimp only
    have e2 : setR (setR b a1) a1 = setR b a1 := setR_eq (setR_rise hg.rise a1) hg.rise fun z => by
      rw [setR_mem]
      constructor
      · rintro (h | ⟨h | h, h'⟩)
        · exact .inl h
        · exact .inl h
        · exact .inr h
      · rintro (h | h)
        · exact .inl h
        · exact .inr ⟨.inr h, h.2⟩
    have hlg := hg'.len
    rw [if_neg (nn (by rfl)), if_neg (nn (by rfl)), e2, same_m (by omega), Option.bind_some, if_neg (nn (by rfl))]
    unfold m6_l09_BufferAgain_k6
    dsimp only
    rcases set_iff hg' a2 with ⟨hp, hps, hpg⟩ | ⟨_, e, he, -, hs'⟩
    · rw [hps, Option.bind_some]
      rcases set_iff hg a2 with ⟨hq, hqs, hqg⟩ | ⟨_, e, he, -, hs'⟩
      · rw [hqs, Option.bind_some]
        dsimp only
        rcases set_iff hqg a1 with ⟨hr, hrs, hrg⟩ | ⟨_, e, he, -, hs'⟩
        · rw [hrs, Option.bind_some]
          dsimp only
          rw [if_neg (nn (by rfl)), if_neg (nn (by rfl)), if_neg (nn (by rfl)), key_bool]
          by_cases hk : a1.Key = a2.Key
          · rw [if_pos (decide_eq_true hk)]
          · rw [if_neg (by rw [decide_eq_true_eq]; exact hk)]
            unfold m6_l09_BufferAgain_k10
            dsimp only
            have e3 : setR (setR b a1) a2 = setR (setR b a2) a1 := setR_eq (setR_rise hg.rise a1) (setR_rise hg.rise a2) fun z => by
              rw [setR_mem, setR_mem]
              constructor
              · rintro (h | ⟨h | h, h'⟩)
                · exact .inr ⟨.inl h, by rw [h]; exact fun e => hk e.symm⟩
                · exact .inl h
                · exact .inr ⟨.inr ⟨h.1, h'⟩, h.2⟩
              · rintro (h | ⟨h | h, h'⟩)
                · exact .inr ⟨.inl h, by rw [h]; exact fun e => hk e⟩
                · exact .inl h
                · exact .inr ⟨.inr ⟨h.1, h'⟩, h.2⟩
            have := hpg.len
            rw [if_pos rfl, e3, same_m (by rw [← e3]; omega)]
            rfl
        · rw [hs', Option.bind_some]
          dsimp only
          rw [if_neg (nn (by rfl)), if_neg (nn (by rfl)), if_pos (by rw [decide_eq_false he]; rfl)]
      · rw [hs', Option.bind_some]
        obtain ⟨v, hv⟩ : ∃ v, m10_buffer_Set ⟨[]⟩ a1 = some v := by
          rcases set_iff Good.nil a1 with ⟨_, h, _⟩ | ⟨_, _, _, _, h⟩ <;> exact ⟨_, h⟩
        dsimp only
        rw [hv, Option.bind_some, if_neg (nn (by rfl)), if_pos (by rw [decide_eq_false he]; rfl)]
    · rw [hs', Option.bind_some]
      have any : ∀ {c : List GApiWrite}, Good c → ∀ w, ∃ d v, m10_buffer_Set ⟨c⟩ w = some (⟨d⟩, v) ∧ Good d := fun hc w => by
        rcases set_iff hc w with ⟨_, h, h'⟩ | ⟨_, _, _, _, h⟩
        · exact ⟨_, _, h, h'⟩
        · exact ⟨_, _, h, Good.nil⟩
      obtain ⟨d, v, h1, h2⟩ := any hg a2
      rw [h1, Option.bind_some]
      obtain ⟨d', v', h3, _⟩ := any h2 a1
      dsimp only
      rw [h3, Option.bind_some, if_pos (by rw [decide_eq_false he]; rfl)]
  · rw [hs, Option.bind_some]
    dsimp only
    obtain ⟨v, hv⟩ : ∃ v, m10_buffer_Set ⟨[]⟩ a1 = some v := by
      rcases set_iff Good.nil a1 with ⟨_, h, _⟩ | ⟨_, _, _, _, h⟩ <;> exact ⟨_, h⟩
    rw [hv, Option.bind_some, if_pos (by rw [decide_eq_false he]; rfl), if_pos rfl]
    rfl
end Go.Proofs.Ytmkcigfeebippaa.Abs
