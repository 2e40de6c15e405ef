/-
  Requests: which may be, what is written of them, what is read back.
-/
import Derived.Test.YtljkjkkpogkgbaaDoorR05b
namespace Go.Proofs.YtljkjkkpogkgbaaDoor.Abs

def within (a n : Int) : Bool := decide (0 ≤ a) && decide (a ≤ n)
theorem within_m (a n : Int) : m58_msg_within a n = some (within a n) := by
  unfold m58_msg_within within
  by_cases h : 0 ≤ a
  · rw [if_pos (decide_eq_true h), decide_eq_true h]; rfl
  · rw [if_neg (by rw [decide_eq_true_eq]; exact h), decide_eq_false h]; rfl
def saneNum (b : Bool) (a n : Int) : Bool := if b then within a n else decide (a = 0)
theorem saneNum_m (b : Bool) (a n : Int) : m59_msg_saneNum b a n = some (saneNum b a n) := by
  unfold m59_msg_saneNum saneNum
  rw [within_m]
  cases b <;> rfl
def saneBytes (b : Bool) (x : List UInt8) (lo hi : Int) : Bool := if b then decide (lo ≤ (x.length : Int)) && decide ((x.length : Int) ≤ hi) else decide ((x.length : Int) = 0)
theorem saneBytes_m (b : Bool) (x : List UInt8) (lo hi : Int) : m60_msg_saneBytes b x lo hi = some (saneBytes b x lo hi) := by
  unfold m60_msg_saneBytes saneBytes
  cases b
  · rfl
  · by_cases h : lo ≤ (x.length : Int)
    · rw [decide_eq_true h]; rfl
    · rw [decide_eq_false h]; rfl
def saneRng (b : Bool) (r : GApiRange) : Bool := if b then decide ((r.Lo.length : Int) ≤ 16) && saneBytes (!r.Open) r.Hi 0 16 else decide ((r.Lo.length : Int) = 0) && (decide ((r.Hi.length : Int) = 0) && !r.Open)
theorem saneRng_m (b : Bool) (r : GApiRange) : m61_msg_saneRng b r = some (saneRng b r) := by
  unfold m61_msg_saneRng saneRng
  rw [saneBytes_m]
  cases b
  · by_cases h : (r.Lo.length : Int) = 0
    · rw [decide_eq_true h]
      by_cases h2 : (r.Hi.length : Int) = 0
      · rw [decide_eq_true h2]; rfl
      · rw [decide_eq_false h2]; rfl
    · rw [decide_eq_false h]; rfl
  · by_cases h : (r.Lo.length : Int) ≤ 16
    · rw [decide_eq_true h]; rfl
    · rw [decide_eq_false h]; rfl
def saneReq (g : GMsgReq) : Bool :=
  okKind g.Kind && (within g.Seq 4294967295 && (saneNum (parts g.Kind).token_ g.Token 1099511627776 && (saneNum (parts g.Kind).attempt_ g.Attempt 65535 && (((parts g.Kind).ro_ || !g.RO) && (saneBytes (parts g.Kind).key_ g.Key 1 16 && (saneBytes (parts g.Kind).val_ g.Val 0 32 && saneRng (parts g.Kind).rng_ g.Rng))))))
theorem saneReq_m (g : GMsgReq) : m18_msg_SaneReq g = some (saneReq g) := by
  unfold m18_msg_SaneReq saneReq
  simp only [partsOf_m, isKind_m, within_m, saneNum_m, saneBytes_m, saneRng_m, Option.bind_some]
  cases okKind g.Kind
  · rfl
  cases within g.Seq 4294967295
  · rfl
  cases saneNum (parts g.Kind).token_ g.Token 1099511627776
  · rfl
  cases saneNum (parts g.Kind).attempt_ g.Attempt 65535
  · rfl
  cases (parts g.Kind).ro_ <;> cases g.RO <;> cases saneBytes (parts g.Kind).key_ g.Key 1 16 <;> cases saneBytes (parts g.Kind).val_ g.Val 0 32 <;> rfl

theorem lenz {α : Type} {x : List α} (h : (x.length : Int) = 0) : x = [] := List.length_eq_zero_iff.1 (by omega)
theorem vo_num {b : Bool} {a n : Int} {w : Nat} (h : saneNum b a n = true) (hn : n < 2 ^ (8 * w)) (hn2 : n ≤ 9223372036854775807) : VO b 0 (VU w) a := by
  unfold saneNum at h
  cases b with
  | false => exact (show a = 0 from of_decide_eq_true h)
  | true =>
    simp only [if_true, within, Bool.and_eq_true, decide_eq_true_eq] at h
    exact VU_of h.1 (by omega) (by omega)
theorem vo_bytes {b : Bool} {x : List UInt8} {lo : Int} {n : Nat} (h : saneBytes b x lo n = true) : VO b [] (fun u => u.length ≤ n) x := by
  unfold saneBytes at h
  cases b with
  | false => exact lenz (of_decide_eq_true h)
  | true =>
    simp only [if_true, Bool.and_eq_true, decide_eq_true_eq] at h
    show x.length ≤ n
    omega
theorem vo_rng {b : Bool} {r : GApiRange} (h : saneRng b r = true) : VO b ([], false, []) VG (r.Lo, r.Open, r.Hi) := by
  unfold saneRng at h
  cases b with
  | false =>
    simp only [Bool.false_eq_true, if_false, Bool.and_eq_true, decide_eq_true_eq, Bool.not_eq_true'] at h
    show (r.Lo, r.Open, r.Hi) = _
    rw [lenz h.1, lenz h.2.1, h.2.2]
  | true =>
    simp only [if_true, Bool.and_eq_true, decide_eq_true_eq] at h
    refine ⟨by have := h.1; show r.Lo.length ≤ 16; omega, trivial, ?_⟩
    have h2 := h.2
    unfold saneBytes at h2
    cases ho : r.Open with
    | true => rw [ho] at h2; rw [lenz (of_decide_eq_true h2)]; simp
    | false =>
      rw [ho] at h2
      simp only [Bool.not_false, if_true, Bool.and_eq_true, decide_eq_true_eq] at h2
      show r.Hi.length ≤ 16
      omega
theorem sane_VR {g : GMsgReq} (h : saneReq g = true) : VR (tupOf g) := by
  unfold saneReq at h
  simp only [Bool.and_eq_true] at h
  obtain ⟨h1, h2, h3, h4, h5, h6, h7, h8⟩ := h
  have hk : 1 ≤ g.Kind ∧ g.Kind ≤ 11 := by simpa [okKind] using h1
  have hs : 0 ≤ g.Seq ∧ g.Seq ≤ 4294967295 := by simpa [within] using h2
  refine ⟨VU_of (by show 0 ≤ g.Kind; omega) (by show g.Kind < 2 ^ (8 * 1); omega) (by show g.Kind ≤ _; omega), VU_of (by show 0 ≤ g.Seq; omega) (by show g.Seq < 2 ^ (8 * 4); omega) (by show g.Seq ≤ _; omega), h1, vo_num h3 (by decide) (by decide), vo_num h4 (by decide) (by decide), ?_, vo_bytes h6, vo_bytes h7, vo_rng h8⟩
  show VO (parts g.Kind).ro_ false (fun _ => True) g.RO
  cases hr : (parts g.Kind).ro_ with
  | true => trivial
  | false => rw [hr] at h5; exact (show g.RO = false by simpa using h5)

/-! What is written -/
theorem eU_len (n : Nat) (x : Int) : (eU n x).length = n := by simp [eU, le8_len]
theorem eF_len (b : Bool) : (eF b).length = 1 := by simp [eF, le8_len]
theorem ls2_len (u : List UInt8) : (ls2 u).length = 2 + u.length := by simp [ls2, le8_len]
theorem putU {a : List UInt8} {x : Int} (n : Nat) (hn : n ≤ 8) (h : a.length ≤ 1000000) : m33_enc_U a (BitVec.ofInt 64 x) n = some (a ++ eU n x) := by
  rw [U_m a _ _ h]
  have : (w8 (n : Int)).toNat = n := by unfold w8; split <;> split <;> omega
  rw [this]; rfl
theorem putL {a x : List UInt8} (h : a.length ≤ 500000) (hx : x.length ≤ 65535) : m35_enc_List a x = some (a ++ ls2 x) := by
  rw [List_m a x h, Nat.min_eq_right hx, List.take_length, List.append_assoc]; rfl
theorem putF {a : List UInt8} {b : Bool} (h : a.length ≤ 1000000) : m34_msg_putFlag a b = some (a ++ eF b) := by
  unfold m34_msg_putFlag
  cases b
  · rw [if_neg (by simp), U_m a _ _ h]; rfl
  · rw [if_pos rfl, U_m a _ _ h]; rfl

theorem eO_ite {α : Type} (b : Bool) (enc : α → List UInt8) (x : α) (a : List UInt8) : a ++ eO b enc x = if b then a ++ enc x else a := by
  cases b <;> simp [eO]
section
variable {g : GMsgReq} {v : GMsgParts}
theorem p9 {b : List UInt8} (h : b.length ≤ 1000) (hv : VO v.rng_ ([], false, []) VG (g.Rng.Lo, g.Rng.Open, g.Rng.Hi)) : m11_msg_PutReq_k9 g v b = some (b ++ eO v.rng_ eG (g.Rng.Lo, g.Rng.Open, g.Rng.Hi), 0) := by
  unfold m11_msg_PutReq_k9 m11_msg_PutReq_k10
  rw [eO_ite]
  cases hb : v.rng_
  · rfl
  · rw [hb] at hv
    obtain ⟨h1, _, h2⟩ := (show VG _ from hv)
    simp only at h1 h2
    simp only [if_true]
    rw [putL (by omega) (by omega)]
    simp only [Option.bind_some]
    rw [putF (by simp only [List.length_append, ls2_len]; omega)]
    simp only [Option.bind_some]
    rw [putL (by simp only [List.length_append, ls2_len, eF_len]; omega) (by omega)]
    simp [eG]
theorem p8 {b : List UInt8} (h : b.length ≤ 900) (hv : VO v.val_ [] (fun u => u.length ≤ 32) g.Val) (hr : VO v.rng_ ([], false, []) VG (g.Rng.Lo, g.Rng.Open, g.Rng.Hi)) : m11_msg_PutReq_k8 g v b = some (b ++ (eO v.val_ ls2 g.Val ++ eO v.rng_ eG (g.Rng.Lo, g.Rng.Open, g.Rng.Hi)), 0) := by
  unfold m11_msg_PutReq_k8
  rw [← List.append_assoc, eO_ite v.val_]
  cases hb : v.val_
  · exact p9 (by omega) hr
  · rw [hb] at hv
    have hv' : g.Val.length ≤ 32 := hv
    simp only [if_true]
    rw [putL (by omega) (by omega)]
    simp only [Option.bind_some]
    exact p9 (by simp only [List.length_append, ls2_len]; omega) hr
theorem p7 {b : List UInt8} (h : b.length ≤ 800) (hk : VO v.key_ [] (fun u => u.length ≤ 16) g.Key) (hv : VO v.val_ [] (fun u => u.length ≤ 32) g.Val) (hr : VO v.rng_ ([], false, []) VG (g.Rng.Lo, g.Rng.Open, g.Rng.Hi)) :
    m11_msg_PutReq_k7 g v b = some (b ++ (eO v.key_ ls2 g.Key ++ (eO v.val_ ls2 g.Val ++ eO v.rng_ eG (g.Rng.Lo, g.Rng.Open, g.Rng.Hi))), 0) := by
  unfold m11_msg_PutReq_k7
  rw [← List.append_assoc, eO_ite v.key_]
  cases hb : v.key_
  · exact p8 (by omega) hv hr
  · rw [hb] at hk
    have hk' : g.Key.length ≤ 16 := hk
    simp only [if_true]
    rw [putL (by omega) (by omega)]
    simp only [Option.bind_some]
    exact p8 (by simp only [List.length_append, ls2_len]; omega) hv hr
theorem p6 {b : List UInt8} (h : b.length ≤ 700) (hk : VO v.key_ [] (fun u => u.length ≤ 16) g.Key) (hv : VO v.val_ [] (fun u => u.length ≤ 32) g.Val) (hr : VO v.rng_ ([], false, []) VG (g.Rng.Lo, g.Rng.Open, g.Rng.Hi)) :
    m11_msg_PutReq_k6 g v b = some (b ++ (eO v.ro_ eF g.RO ++ (eO v.key_ ls2 g.Key ++ (eO v.val_ ls2 g.Val ++ eO v.rng_ eG (g.Rng.Lo, g.Rng.Open, g.Rng.Hi)))), 0) := by
  unfold m11_msg_PutReq_k6
  rw [← List.append_assoc, eO_ite v.ro_]
  cases hb : v.ro_
  · exact p7 (by omega) hk hv hr
  · simp only [if_true]
    rw [putF (by omega)]
    simp only [Option.bind_some]
    exact p7 (by simp only [List.length_append, eF_len]; omega) hk hv hr
theorem p5 {b : List UInt8} (h : b.length ≤ 600) (hk : VO v.key_ [] (fun u => u.length ≤ 16) g.Key) (hv : VO v.val_ [] (fun u => u.length ≤ 32) g.Val) (hr : VO v.rng_ ([], false, []) VG (g.Rng.Lo, g.Rng.Open, g.Rng.Hi)) :
    m11_msg_PutReq_k5 g v b = some (b ++ (eO v.attempt_ (eU 2) g.Attempt ++ (eO v.ro_ eF g.RO ++ (eO v.key_ ls2 g.Key ++ (eO v.val_ ls2 g.Val ++ eO v.rng_ eG (g.Rng.Lo, g.Rng.Open, g.Rng.Hi))))), 0) := by
  unfold m11_msg_PutReq_k5
  rw [← List.append_assoc, eO_ite v.attempt_]
  cases hb : v.attempt_
  · exact p6 (by omega) hk hv hr
  · simp only [if_true]
    rw [show (2 : Int) = ((2 : Nat) : Int) from rfl, putU 2 (by decide) (by omega)]
    simp only [Option.bind_some]
    exact p6 (by simp only [List.length_append, eU_len]; omega) hk hv hr
end
theorem putReq_m (g : GMsgReq) : m11_msg_PutReq g = some (if saneReq g then (eR (tupOf g), 0) else ([], 1)) := by
  unfold m11_msg_PutReq
  rw [saneReq_m]
  simp only [Option.bind_some, partsOf_m]
  cases hs : saneReq (GMsgReq.mk g.Kind g.Seq g.Token g.Attempt g.RO g.Key g.Val (GApiRange.mk g.Rng.Lo g.Rng.Hi g.Rng.Open)) with
  | false =>
    rfl
  | true =>
    have hs' : saneReq g = true := hs
    obtain ⟨_, _, _, ht, ha, hro, hk, hv, hr⟩ := sane_VR hs'
    simp only [Bool.not_true, Bool.false_eq_true, if_false, if_true]
    rw [show (1 : Int) = ((1 : Nat) : Int) from rfl, show (4 : Int) = ((4 : Nat) : Int) from rfl, show (8 : Int) = ((8 : Nat) : Int) from rfl, putU 1 (by decide) (by simp)]
    simp only [Option.bind_some]
    rw [putU 4 (by decide) (by simp [eU_len])]
    simp only [Option.bind_some]
    have key : (if (parts g.Kind).token_ = true then (m33_enc_U (([] ++ eU 1 g.Kind) ++ eU 4 g.Seq) (BitVec.ofInt 64 g.Token) ((8 : Nat) : Int)).bind fun v18 => m11_msg_PutReq_k5 g (parts g.Kind) v18 else m11_msg_PutReq_k5 g (parts g.Kind) (([] ++ eU 1 g.Kind) ++ eU 4 g.Seq)) = some (eR (tupOf g), 0) := by
      have e : eR (tupOf g) = ([] ++ eU 1 g.Kind ++ eU 4 g.Seq) ++ (eO (parts g.Kind).token_ (eU 8) g.Token ++ (eO (parts g.Kind).attempt_ (eU 2) g.Attempt ++ (eO (parts g.Kind).ro_ eF g.RO ++ (eO (parts g.Kind).key_ ls2 g.Key ++ (eO (parts g.Kind).val_ ls2 g.Val ++ eO (parts g.Kind).rng_ eG (g.Rng.Lo, g.Rng.Open, g.Rng.Hi)))))) := by
        simp only [eR, tupOf, eP, List.nil_append, List.append_assoc]
      rw [e, ← List.append_assoc ([] ++ eU 1 g.Kind ++ eU 4 g.Seq), eO_ite (parts g.Kind).token_]
      cases (parts g.Kind).token_
      · exact p5 (by simp [eU_len]) hk hv hr
      · simp only [if_true]
        rw [putU 8 (by decide) (by simp [eU_len])]
        simp only [Option.bind_some]
        exact p5 (by simp [eU_len]) hk hv hr
    exact key

/-! What is read -/
theorem end_m (e : Int) (p : Nat) (d : List UInt8) (h : p ≤ d.length) (hd : d.length ≤ 100000000) : m50_enc_Reader_Ends e p d = some (if e ≠ 0 then e else if p < d.length then 3 else 0, (p : Int)) := by
  unfold m50_enc_Reader_Ends m71_enc_Reader_Errs
  simp only [Option.bind_some]
  by_cases he : e = 0
  · rw [if_neg (by simp [he]), places_m _ _ _ h hd, if_neg (by simp [he])]
    simp only [Option.bind_some, List.length_drop]
    by_cases hp : p < d.length
    · rw [if_pos (by rw [decide_eq_true_eq]; omega), if_pos hp]
    · rw [if_neg (by rw [decide_eq_true_eq]; omega), if_neg hp]
  · rw [if_pos (by simp [he]), if_pos he]

theorem readReq_any (d : List UInt8) (hd : d.length ≤ 100000000) : ∃ g e, m14_msg_ReadReq d = some (g, e) ∧ (e = 0 → saneReq g = true ∧ d = eR (tupOf g)) ∧ (e ≠ 0 → g = zreq) := by
  obtain ⟨x, e', p', hr, hp, _, hs, _, _⟩ := RReq_rs.run 0 0 d (Nat.zero_le _) hd
  rw [readReq_eq]
  rw [show (0 : Int) = ((0 : Nat) : Int) from rfl] at hr ⊢
  rw [hr]
  simp only [Option.bind_some]
  rw [end_m _ _ _ hp hd]
  simp only [Option.bind_some, saneReq_m]
  by_cases he : e' = 0
  · subst he
    obtain ⟨_, h2⟩ := hs rfl
    by_cases hlt : p' < d.length
    · exact ⟨zreq, 3, by simp [hlt], fun h => absurd h (by decide), fun _ => rfl⟩
    · have hz : d.drop p' = [] := List.drop_eq_nil_iff.2 (by omega)
      rw [hz, List.append_nil, List.drop_zero] at h2
      cases hsn : saneReq (reqOf x) with
      | true => exact ⟨reqOf x, 0, by simp [hlt], fun _ => ⟨hsn, by rw [tupOf_req]; exact h2⟩, fun h => absurd rfl h⟩
      | false => exact ⟨zreq, 3, by simp [hlt], fun h => absurd h (by decide), fun _ => rfl⟩
  · exact ⟨zreq, e', by simp [he], fun h => absurd h he, fun _ => rfl⟩

theorem readReq_back {g : GMsgReq} (h : saneReq g = true) (hl : (eR (tupOf g)).length ≤ 1000) : m14_msg_ReadReq (eR (tupOf g)) = some (g, 0) := by
  obtain ⟨x, e', p', hr, hp, _, _, hc, _⟩ := RReq_rs.run 0 0 (eR (tupOf g)) (Nat.zero_le _) (by omega)
  obtain ⟨rfl, rfl, h3⟩ := hc rfl (tupOf g) [] (sane_VR h) (by simp)
  have hp' : p' = (eR (tupOf g)).length := by
    have := List.drop_eq_nil_iff.1 h3.symm
    omega
  rw [readReq_eq]
  rw [show (0 : Int) = ((0 : Nat) : Int) from rfl] at hr ⊢
  rw [hr]
  simp only [Option.bind_some]
  rw [show ((0 : Nat) : Int) = 0 from rfl, end_m _ _ _ hp (by omega)]
  simp only [Option.bind_some, saneReq_m]
  rw [hp', reqOf_tup, h]
  simp
theorem readReq_more {g : GMsgReq} (h : saneReq g = true) (hl : (eR (tupOf g)).length ≤ 1000) (y : UInt8) : m14_msg_ReadReq (eR (tupOf g) ++ [y]) = some (zreq, 3) := by
  obtain ⟨x, e', p', hr, hp, _, _, hc, _⟩ := RReq_rs.run 0 0 (eR (tupOf g) ++ [y]) (Nat.zero_le _) (by simp; omega)
  obtain ⟨rfl, rfl, h3⟩ := hc rfl (tupOf g) [y] (sane_VR h) (by simp)
  have hp' : p' < (eR (tupOf g) ++ [y]).length := by
    have := congrArg List.length h3
    rw [List.length_drop] at this
    simp at this ⊢
    omega
  rw [readReq_eq]
  rw [show (0 : Int) = ((0 : Nat) : Int) from rfl] at hr ⊢
  rw [hr]
  simp only [Option.bind_some]
  rw [show ((0 : Nat) : Int) = 0 from rfl, end_m _ _ _ hp (by simp; omega), if_neg (by simp), if_pos hp']
  rfl
theorem readReq_less {g : GMsgReq} (h : saneReq g = true) (hl : (eR (tupOf g)).length ≤ 1000) {d x : List UInt8} (hx : eR (tupOf g) = d ++ x) (hne : x ≠ []) : m14_msg_ReadReq d = some (zreq, 2) := by
  have hdl : d.length ≤ 100000000 := by
    have := congrArg List.length hx
    simp at this; omega
  obtain ⟨u, e', p', hr, hp, _, _, _, ht⟩ := RReq_rs.run 0 0 d (Nat.zero_le _) hdl
  obtain rfl := ht rfl (tupOf g) x (sane_VR h) (by simpa using hx) hne
  rw [readReq_eq]
  rw [show (0 : Int) = ((0 : Nat) : Int) from rfl] at hr ⊢
  rw [hr]
  simp only [Option.bind_some]
  rw [end_m _ _ _ hp hdl]
  rfl
theorem eR_len {g : GMsgReq} (h : saneReq g = true) : 5 ≤ (eR (tupOf g)).length ∧ (eR (tupOf g)).length ≤ 200 := by
  obtain ⟨_, _, _, ht, ha, hro, hk, hv, hr⟩ := sane_VR h
  have l1 : (eO (parts g.Kind).token_ (eU 8) g.Token).length ≤ 8 := by unfold eO; split <;> simp [eU_len]
  have l2 : (eO (parts g.Kind).attempt_ (eU 2) g.Attempt).length ≤ 2 := by unfold eO; split <;> simp [eU_len]
  have l3 : (eO (parts g.Kind).ro_ eF g.RO).length ≤ 1 := by unfold eO; split <;> simp [eF_len]
  have l4 : (eO (parts g.Kind).key_ ls2 g.Key).length ≤ 18 := by
    unfold eO; split
    · rename_i hb
      have hb' : (parts (tupOf g).1).key_ = true := hb
      rw [hb'] at hk
      have : g.Key.length ≤ 16 := hk
      rw [ls2_len]; omega
    · simp
  have l5 : (eO (parts g.Kind).val_ ls2 g.Val).length ≤ 34 := by
    unfold eO; split
    · rename_i hb
      have hb' : (parts (tupOf g).1).val_ = true := hb
      rw [hb'] at hv
      have : g.Val.length ≤ 32 := hv
      rw [ls2_len]; omega
    · simp
  have l6 : (eO (parts g.Kind).rng_ eG (g.Rng.Lo, g.Rng.Open, g.Rng.Hi)).length ≤ 37 := by
    unfold eO; split
    · rename_i hb
      have hb' : (parts (tupOf g).1).rng_ = true := hb
      rw [hb'] at hr
      obtain ⟨a, _, b⟩ := (show VG (g.Rng.Lo, g.Rng.Open, g.Rng.Hi) from hr)
      simp only [eG, List.length_append, ls2_len, eF_len]
      simp only at a b
      omega
    · simp
  simp only [eR, tupOf, eP, List.length_append, eU_len, List.length_nil]
  omega
end Go.Proofs.YtljkjkkpogkgbaaDoor.Abs
