/-
  What streams do.
-/
import Derived.Test.YtoojcpiigkmhiaaG04
namespace Go.Proofs.Ytoojcpiigkmhiaa.Abs

theorem awake04 : m10_l04_awake = some true := by decide +kernel

def dead4 (e : Int) : Bool := decide (e = 4) || decide (e = 5)
/-- May a stream be? -/
def saneS (b : List UInt8) (d : Int) : Bool := if dead4 d then decide (b.length = 0) else if d ≠ 0 then false else decide ((opn b).1 = 2)
theorem deadly_m (e : Int) : m27_stream_deadly e = some (dead4 e) := by
  unfold m27_stream_deadly dead4
  by_cases h : e = 4
  · rw [if_pos (decide_eq_true h), decide_eq_true h]; rfl
  · rw [if_neg (by simpa using h), decide_eq_false h, Bool.false_or]
theorem rd0 (b : List UInt8) : (rdS b 0).2.2 = (opn b).1 := by
  have := rdS_at b 0 (Nat.zero_le _)
  rw [show ((0 : Nat) : Int) = 0 from rfl, List.drop_zero] at this
  rw [this]
  by_cases h : (opn b).1 = 0
  · rw [if_pos h, h]
  · rw [if_neg h]
theorem len0 (b : List UInt8) : decide ((b.length : Int) = 0) = decide (b.length = 0) := by
  by_cases h : b.length = 0
  · rw [decide_eq_true h, decide_eq_true (by omega)]
  · rw [decide_eq_false h, decide_eq_false (by omega)]
theorem opn_len0 {b : List UInt8} (h : b.length = 0) : (opn b).1 = 2 := by
  rw [List.eq_nil_of_length_eq_zero h]; rfl
theorem Sane_m (s : GStreamStream) (h : s.Buf.length ≤ 100000000) : m17_stream_Sane s = some (saneS s.Buf s.Dead) := by
  unfold m17_stream_Sane saneS
  rw [deadly_m]
  simp only [Option.bind_some]
  cases hd : dead4 s.Dead with
  | true => rw [if_pos rfl, if_pos rfl, len0]
  | false =>
    simp only [Bool.false_eq_true, if_false]
    by_cases h0 : s.Dead = 0
    · rw [if_neg (by simp [h0]), if_neg (by simp [h0]), Read_m _ _ h]
      simp only [Option.bind_some]
      rw [rd0, len0]
      by_cases hb : s.Buf.length = 0
      · rw [if_pos (decide_eq_true hb), decide_eq_true (opn_len0 hb)]
      · rw [if_neg (by simpa using hb)]
    · rw [if_pos (by simpa using h0), if_pos h0]
theorem rSane_m (s : GR04Stream) (h : s.Buf.length ≤ 100000000) : m18_r04_Sane s = some (saneS s.Buf s.Dead) := by
  unfold m18_r04_Sane saneS
  by_cases h0 : s.Dead = 0
  · rw [if_neg (by simp [h0]), if_neg (by rw [h0]; decide), if_neg (by simp [h0]), rRead_m _ _ h]
    simp only [Option.bind_some]
    rw [rd0, len0]
    by_cases hb : s.Buf.length = 0
    · rw [if_pos (decide_eq_true hb), decide_eq_true (opn_len0 hb)]
    · rw [if_neg (by simpa using hb)]
  · rw [if_pos (by simpa using h0)]
    unfold dead4
    by_cases h4 : s.Dead = 4
    · rw [if_pos (decide_eq_true h4), len0, if_pos (by simp [h4])]
    · rw [if_neg (by simpa using h4)]
      by_cases h5 : s.Dead = 5
      · rw [if_pos (decide_eq_true h5), len0, if_pos (by simp [h5])]
      · rw [if_neg (by simpa using h5), if_neg (by simp [h4, h5]), if_pos h0]

theorem rest_m (b : List UInt8) (n : Nat) (hn : n ≤ b.length) (h : b.length ≤ 100000000) : m28_stream_rest b (n : Int) = some (b.drop n) := by
  unfold m28_stream_rest
  rw [cut_of (by omega) (by omega) (by omega)]
  simp only [Option.bind_some]
  have e : (b.drop ((n : Nat) : Int).toNat).take ((b.length : Int).toNat - ((n : Nat) : Int).toNat) = b.drop n := by
    rw [Int.toNat_natCast]
    exact List.take_of_length_le (by rw [List.length_drop]; omega)
  rw [e]
  have hl : (b.drop n).length ≤ 100000000 := by rw [List.length_drop]; omega
  generalize b.drop n = c at hl
  have hr : (List.replicate (c.length : Int).toNat (0 : UInt8)).length = c.length := by rw [List.length_replicate]; omega
  have hc : c.take (List.replicate (c.length : Int).toNat (0 : UInt8)).length ++ (List.replicate (c.length : Int).toNat (0 : UInt8)).drop c.length = c := by
    rw [hr, List.take_of_length_le (Nat.le_refl _), List.drop_of_length_le (by rw [hr]; exact Nat.le_refl _), List.append_nil]
  have hm : Nat.min c.length c.length = c.length := Nat.min_self _
  rw [if_pos (by omega), if_pos (by omega), hc, hr, hm, cut_of (by omega) (by omega) (by omega)]
  simp only [Option.bind_some]
  rw [if_pos (by omega)]
  simp
/-- What a stream is behind frames that were read: what is left, or why it is dead. -/
def left (r : List UInt8) (e : Int) : List UInt8 := if dead4 e then [] else r
def err4 (e : Int) : Int := if dead4 e then e else 0
theorem allS_cut {b r : List UInt8} {l : List (List UInt8)} {e : Int} (h : AllS b l r e) : b.drop (l.flatMap fr).length = r ∧ (l.flatMap fr).length ≤ b.length := by
  constructor
  · conv => lhs; arg 2; rw [h.1]
    exact List.drop_left
  · rw [h.1, List.length_append]; omega
theorem Feed_m (s : GStreamStream) (b : List UInt8) (hs : saneS s.Buf s.Dead = true) (h0 : s.Dead = 0) (hl : s.Buf.length + b.length ≤ 1000000) {l : List (List UInt8)} {r : List UInt8} {e : Int} (h : AllS (s.Buf ++ b) l r e) :
    m11_stream_Feed s b = some (⟨left r e, err4 e⟩, l, err4 e) := by
  unfold m11_stream_Feed
  rw [Sane_m _ (by show s.Buf.length ≤ _; omega)]
  simp only [Option.bind_some]
  show (if (!saneS s.Buf s.Dead) = true then _ else _) = _
  rw [hs, if_neg (by simp), if_neg (by simp [h0]), m25_slices_Concato_m _ (by simp; omega) (by simp)]
  simp only [Option.bind_some]
  have hf : [s.Buf, b].flatten = s.Buf ++ b := by simp
  rw [hf, All_m (by rw [List.length_append]; omega) h]
  simp only [Option.bind_some]
  rw [deadly_m]
  simp only [Option.bind_some]
  unfold left err4
  cases hd : dead4 e with
  | true => rfl
  | false =>
    have hc := allS_cut h
    rw [if_neg (by simp), rest_m _ _ hc.2 (by rw [List.length_append]; omega), hc.1]
    rfl
theorem Feed_bad (s : GStreamStream) (b : List UInt8) (hs : saneS s.Buf s.Dead = false) (hl : s.Buf.length ≤ 1000000) : m11_stream_Feed s b = some (⟨[], 0⟩, [], 1) := by
  unfold m11_stream_Feed
  rw [Sane_m _ (by show s.Buf.length ≤ _; omega)]
  simp only [Option.bind_some]
  show (if (!saneS s.Buf s.Dead) = true then _ else _) = _
  rw [hs]
  rfl
theorem Feed_dead (s : GStreamStream) (b : List UInt8) (hs : saneS s.Buf s.Dead = true) (h0 : s.Dead ≠ 0) (hl : s.Buf.length ≤ 1000000) : m11_stream_Feed s b = some (s, [], 13) := by
  unfold m11_stream_Feed
  rw [Sane_m _ (by show s.Buf.length ≤ _; omega)]
  simp only [Option.bind_some]
  show (if (!saneS s.Buf s.Dead) = true then _ else _) = _
  rw [hs, if_neg (by simp), if_pos (by simpa using h0)]
theorem stpR_vals {r : List UInt8} {e : Int} (h : stpR r e) : (e = 0 ∧ r = []) ∨ (e = 2 ∧ opn r = (2, [])) ∨ (dead4 e = true ∧ opn r = (e, []) ∧ e ≠ 0 ∧ e ≠ 2) := by
  rcases h with ⟨h1, h2⟩ | ⟨h1, h2, h3⟩
  · exact .inl ⟨h2, h1⟩
  · have h4 : (opn r).1 = e := by rw [h3]
    rcases opn_fst r with h | h | h | h
    · exact absurd (h4.symm.trans h) h2
    · have : e = 2 := h4.symm.trans h.1
      subst this; exact .inr (.inl ⟨rfl, h3⟩)
    · have : e = 4 := h4.symm.trans h.1
      subst this; exact .inr (.inr ⟨rfl, h3, by decide, by decide⟩)
    · have : e = 5 := h4.symm.trans h.1
      subst this; exact .inr (.inr ⟨rfl, h3, by decide, by decide⟩)
theorem sane_left {b r : List UInt8} {l : List (List UInt8)} {e : Int} (h : AllS b l r e) : saneS (left r e) (err4 e) = true := by
  unfold saneS left err4
  rcases stpR_vals h.2.2 with ⟨rfl, rfl⟩ | ⟨rfl, h1⟩ | ⟨h1, h2, _⟩
  · rfl
  · simp [dead4, h1]
  · simp [h1]
/-- More bytes behind. -/
theorem allS_more {b r : List UInt8} {l : List (List UInt8)} {e : Int} (h : AllS b l r e) (hd : dead4 e = true) (c : List UInt8) : AllS (b ++ c) l (r ++ c) e := by
  rcases stpR_vals h.2.2 with ⟨rfl, _⟩ | ⟨rfl, _⟩ | ⟨_, h2, h3, h4⟩
  · cases hd
  · cases hd
  · refine ⟨by rw [h.1, List.append_assoc], h.2.1, .inr ⟨fun hc => ?_, h3, ?_⟩⟩
    · have : r = [] := (List.append_eq_nil_iff.1 hc).1
      rw [this] at h2
      exact h4 (congrArg Prod.fst h2).symm
    · rw [opn_bad_app (e := e) (by rw [h2]) h4, h2]
theorem allS_lens {b r : List UInt8} {l : List (List UInt8)} {e : Int} (h : AllS b l r e) : l.length ≤ b.length ∧ r.length ≤ b.length := by
  have h1 := congrArg List.length h.1
  rw [List.length_append] at h1
  have h2 : l.length ≤ (l.flatMap fr).length := by
    clear h h1
    induction l with
    | nil => simp
    | cons p l ih => rw [List.flatMap_cons, List.length_append, fr_len, List.length_cons]; omega
  omega
theorem allS_app {b c r r' : List UInt8} {l l' : List (List UInt8)} {e e' : Int} (h : AllS b l r e) (h' : AllS (r ++ c) l' r' e') : AllS (b ++ c) (l ++ l') r' e' :=
  ⟨by rw [h.1, List.append_assoc, h'.1, List.flatMap_append, List.append_assoc], fun p hp => (List.mem_append.1 hp).elim (h.2.1 p) (h'.2.1 p), h'.2.2⟩
theorem left_len (r : List UInt8) (e : Int) : (left r e).length ≤ r.length := by unfold left; split <;> simp

/-- What comes out of pieces is what comes out of them all. -/
theorem fed_m (ps : List (List UInt8)) (hl : ps.flatten.length ≤ 1000000) (hn : ps.length ≤ 1000000) {l : List (List UInt8)} {r : List UInt8} {e : Int} (h : AllS ps.flatten l r e) :
    m21_l04_fed ps = some (⟨left r e, err4 e⟩, l, err4 e) := by
  unfold m21_l04_fed
  obtain ⟨b, hb, hr⟩ := iterB_inv (f := m21_l04_fed_s2 ps) (P := fun s => ∃ (i : Nat) (l : List (List UInt8)) (r : List UInt8) (e : Int), i ≤ ps.length ∧ AllS (ps.take i).flatten l r e ∧ s = (err4 e, (i : Int), left r e, err4 e, l)) (μ := fun s => ps.length - s.2.1.toNat)
    (R := fun b => ∃ l r e, AllS ps.flatten l r e ∧ b = (err4 e, left r e, err4 e, l)) (by
    rintro _ ⟨i, l, r, e, hi, ha, rfl⟩
    unfold m21_l04_fed_s2
    dsimp only
    have hpre : (ps.take i).flatten.length ≤ ps.flatten.length := by
      have : ps.flatten = (ps.take i).flatten ++ (ps.drop i).flatten := by rw [← List.flatten_append, List.take_append_drop]
      rw [this, List.length_append]; omega
    rcases Nat.lt_or_ge i ps.length with hlt | hge
    · left
      have hstep : (ps.take (i + 1)).flatten = (ps.take i).flatten ++ ps[i] := by rw [List.take_succ_eq_append_getElem hlt, List.flatten_append]; simp only [List.flatten_cons, List.flatten_nil, List.append_nil]
      have hpre1 : (ps.take (i + 1)).flatten.length ≤ ps.flatten.length := by
        have : ps.flatten = (ps.take (i + 1)).flatten ++ (ps.drop (i + 1)).flatten := by rw [← List.flatten_append, List.take_append_drop]
        rw [this, List.length_append]; omega
      rw [hstep, List.length_append] at hpre1
      have hal := allS_lens ha
      have hll := left_len r e
      rw [if_pos (decide_eq_true (by omega)), idx_nat, List.getElem?_eq_getElem hlt]
      simp only [Option.bind_some]
      cases hd : dead4 e with
      | true =>
        have hne : err4 e ≠ 0 := by
          unfold err4; rw [hd, if_pos rfl]
          rcases stpR_vals ha.2.2 with ⟨rfl, _⟩ | ⟨rfl, _⟩ | ⟨_, _, h3, _⟩
          · cases hd
          · cases hd
          · exact h3
        rw [Feed_dead ⟨left r e, err4 e⟩ _ (sane_left ha) hne (by show (left r e).length ≤ _; omega)]
        simp only [Option.bind_some, List.append_nil]
        rw [if_pos (by simp; omega), if_neg (by simpa using hne), wI_id (by omega) (by omega)]
        refine ⟨_, rfl, ⟨i + 1, l, r ++ ps[i], e, hlt, by rw [hstep]; exact allS_more ha hd _, ?_⟩, by show ps.length - ((i : Int) + 1).toNat < ps.length - (i : Int).toNat; omega⟩
        unfold left; rw [hd]; rfl
      | false =>
        have h0 : err4 e = 0 := by unfold err4; rw [hd]; rfl
        have hlf : left r e = r := by unfold left; rw [hd]; rfl
        obtain ⟨l2, r2, e2, h2⟩ := allS_ex (r ++ ps[i]) (by rw [List.length_append]; omega)
        have hs := sane_left ha
        have hal2 := allS_lens h2
        rw [List.length_append] at hal2
        rw [Feed_m ⟨left r e, err4 e⟩ _ hs h0 (by show (left r e).length + _ ≤ _; omega) (l := l2) (r := r2) (e := e2) (by show AllS (left r e ++ _) _ _ _; rw [hlf]; exact h2)]
        simp only [Option.bind_some]
        rw [if_pos (by omega), h0, if_pos (decide_eq_true rfl), wI_id (by omega) (by omega)]
        exact ⟨_, rfl, ⟨i + 1, l ++ l2, r2, e2, hlt, by rw [hstep]; exact allS_app ha h2, rfl⟩, by show ps.length - ((i : Int) + 1).toNat < ps.length - (i : Int).toNat; omega⟩
    · right
      rw [if_neg (by rw [decide_eq_true_eq]; omega)]
      rw [List.take_of_length_le hge] at ha
      exact ⟨_, rfl, l, r, e, ha, rfl⟩) fuel (0, 0, [], 0, []) ⟨0, [], [], 0, Nat.zero_le _, ⟨rfl, by simp, .inl ⟨rfl, rfl⟩⟩, rfl⟩ (lt_fuel (by show ps.length - 0 ≤ _; omega))
  obtain ⟨l', r', e', h', rfl⟩ := hr
  obtain ⟨rfl, rfl, rfl⟩ := allS_uniq h h'
  rw [hb]
  rfl

def wantsS (b : List UInt8) : Int := if b.length < 6 then 6 - (b.length : Int) else 6 + (hd2 b : Int) - (b.length : Int)
theorem hd2_lt' {b : List UInt8} : hd2 b < 65536 := hd2_lt
theorem Wants_m (s : GStreamStream) (hs : saneS s.Buf s.Dead = true) (hl : s.Buf.length ≤ 1000000) : m19_stream_Wants s = some (if s.Dead = 0 then wantsS s.Buf else 0) := by
  unfold m19_stream_Wants
  rw [Sane_m _ (by show s.Buf.length ≤ _; omega)]
  simp only [Option.bind_some]
  show (if (!saneS s.Buf s.Dead) = true then _ else _) = _
  rw [hs, if_neg (by simp)]
  by_cases h0 : s.Dead = 0
  · rw [if_neg (by simp [h0]), if_pos h0]
    unfold m19_stream_Wants_k1 wantsS m31_enc_News
    by_cases h6 : s.Buf.length < 6
    · rw [if_pos (decide_eq_true (by omega)), if_pos h6, wI_id (by omega) (by omega)]
    · rw [if_neg (by rw [decide_eq_true_eq]; omega), if_neg h6]
      simp only [Option.bind_some]
      rw [show m32_enc_Reader_Us 2 0 0 s.Buf = some (vn (s.Buf.take 2) 2, 0, 2) from U_read 2 0 s.Buf (by decide) (by decide) (by omega) (by omega)]
      simp only [Option.bind_some]
      have hh : (vn (s.Buf.take 2) 2).toNat = hd2 s.Buf := rfl
      have hlt := hd2_lt (b := s.Buf)
      rw [hh, wI_id (n := (hd2 s.Buf : Int)) (by omega) (by omega), wI_id (n := 6 + (hd2 s.Buf : Int)) (by omega) (by omega), wI_id (by omega) (by omega)]
  · rw [if_pos (by simpa using h0), if_neg h0]
theorem rWants_m (s : GR04Stream) (hl : s.Buf.length ≤ 1000000) : m20_r04_Wants s = some (if saneS s.Buf s.Dead = true ∧ s.Dead = 0 then wantsS s.Buf else 0) := by
  unfold m20_r04_Wants
  rw [rSane_m _ (by omega)]
  simp only [Option.bind_some]
  cases hs : saneS s.Buf s.Dead with
  | false => rw [if_pos (by rfl), if_neg (by simp)]
  | true =>
    rw [if_neg (by simp)]
    by_cases h0 : s.Dead = 0
    · rw [if_neg (by simp [h0]), if_pos ⟨rfl, h0⟩]
      unfold m20_r04_Wants_k1 wantsS
      by_cases h6 : s.Buf.length < 6
      · rw [if_pos (decide_eq_true (by omega)), if_pos h6, wI_id (by omega) (by omega)]
      · rw [if_neg (by rw [decide_eq_true_eq]; omega), if_neg h6, show (0 : Int) = ((0 : Nat) : Int) from rfl, idx_nat, show (1 : Int) = ((1 : Nat) : Int) from rfl, idx_nat, List.getElem?_eq_getElem (show 0 < s.Buf.length by omega), List.getElem?_eq_getElem (show 1 < s.Buf.length by omega)]
        simp only [Option.bind_some]
        have hh := hd2_get s.Buf (by omega)
        have hx := s.Buf[0].toNat_lt
        have hy := s.Buf[1].toNat_lt
        have ex : (s.Buf[0].toBitVec.toNat : Int) = (s.Buf[0].toNat : Int) := rfl
        have ey : (s.Buf[1].toBitVec.toNat : Int) = (s.Buf[1].toNat : Int) := rfl
        rw [ex, ey]
        clear ex ey
        generalize s.Buf[0].toNat = x at *
        generalize s.Buf[1].toNat = y at *
        rw [wI_id (n := (x : Int)) (by omega) (by omega), wI_id (n := (y : Int)) (by omega) (by omega), wI_id (n := 6 + (x : Int)) (by omega) (by omega)]
        have h2 : wI (256 * (y : Int)) = 256 * (y : Int) := wI_id (by omega) (by omega)
        rw [h2, wI_id (n := 6 + (x : Int) + 256 * (y : Int)) (by omega) (by omega), wI_id (by omega) (by omega), hh]
        congr 1
        omega
    · rw [if_pos (by simpa using h0), if_neg (fun h => h0 h.2)]
theorem Wants_bad (s : GStreamStream) (hs : saneS s.Buf s.Dead = false) (hl : s.Buf.length ≤ 1000000) : m19_stream_Wants s = some 0 := by
  unfold m19_stream_Wants
  rw [Sane_m _ (by show s.Buf.length ≤ _; omega)]
  simp only [Option.bind_some]
  show (if (!saneS s.Buf s.Dead) = true then _ else _) = _
  rw [hs]
  rfl
theorem rFeed_m (s : GR04Stream) (b : List UInt8) (hl : s.Buf.length + b.length ≤ 900000) {l : List (List UInt8)} {r : List UInt8} {e : Int} (h : AllS (s.Buf ++ b) l r e) :
    m13_r04_Feed s b = some (if saneS s.Buf s.Dead = true then if s.Dead = 0 then (⟨left r e, err4 e⟩, l, err4 e) else (s, [], 13) else (⟨[], 0⟩, [], 1)) := by
  unfold m13_r04_Feed
  rw [rSane_m _ (by show s.Buf.length ≤ _; omega)]
  simp only [Option.bind_some]
  show (if (!saneS s.Buf s.Dead) = true then _ else _) = _
  cases hs : saneS s.Buf s.Dead with
  | false => rfl
  | true =>
    rw [if_neg (by simp), if_pos rfl]
    by_cases h0 : s.Dead = 0
    · rw [if_neg (by simp [h0]), if_pos h0, if_pos (by simp; omega), if_pos (by simp; omega), List.nil_append, rAll_m (by rw [List.length_append]; omega) h]
      simp only [Option.bind_some]
      unfold left err4 dead4
      by_cases h4 : e = 4
      · rw [if_pos (decide_eq_true h4)]; simp [h4]
      · rw [if_neg (by simpa using h4)]
        by_cases h5 : e = 5
        · rw [if_pos (decide_eq_true h5)]; simp [h5]
        · rw [if_neg (by simpa using h5), if_neg (by simp [h4, h5]), if_neg (by simp [h4, h5])]
          unfold m13_r04_Feed_k5
          have hc := allS_cut h
          dsimp only
          rw [List.nil_append, cut_of (by omega) (by omega) (by omega)]
          simp only [Option.bind_some]
          have e1 : ((s.Buf ++ b).drop (((l.flatMap fr).length : Nat) : Int).toNat).take (((s.Buf ++ b).length : Int).toNat - (((l.flatMap fr).length : Nat) : Int).toNat) = r := by
            rw [Int.toNat_natCast, Int.toNat_natCast, hc.1]
            have := congrArg List.length hc.1
            rw [List.length_drop] at this
            exact List.take_of_length_le (by omega)
          rw [e1]
    · rw [if_pos (by simpa using h0), if_neg h0]
theorem Same_m (a b : GR04Stream) : m14_r04_Same a b = some (decide (a.Buf = b.Buf ∧ a.Dead = b.Dead)) := by
  unfold m14_r04_Same
  by_cases h : a.Buf = b.Buf
  · rw [if_pos (by simpa using h)]
    congr 1
    by_cases hd : a.Dead = b.Dead <;> simp [h, hd]
  · rw [if_neg (by simpa using h), decide_eq_false (fun hc => h hc.1)]
theorem Same_refl (a b : GR04Stream) (h : a.Buf = b.Buf) (h2 : a.Dead = b.Dead) : m14_r04_Same a b = some true := by rw [Same_m, decide_eq_true ⟨h, h2⟩]
theorem Lists_refl (l : List (List UInt8)) (h : l.length ≤ 1000000000) : m16_r03_Lists l l = some true := by rw [Lists_m _ _ h]; simp
end Go.Proofs.Ytoojcpiigkmhiaa.Abs
