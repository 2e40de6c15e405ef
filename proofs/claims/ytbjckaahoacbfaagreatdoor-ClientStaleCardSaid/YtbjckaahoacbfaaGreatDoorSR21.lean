/- . -/
import Derived.Test.YtbjckaahoacbfaaGreatDoorSQ21
namespace Go.Proofs.YtbjckaahoacbfaaGreatDoor.Abs
open mg (F2 eR Qf)
def J2 (c : Cl) : Cl := if (Rj (wI (c.Sent + 1))).2 = false then Zk c else if 60000 < c.Out.length then Aln c else Aly {c with Sent := wI (c.Sent + 1), Left := (Rj (wI (c.Sent + 1))).1}
theorem Aem {c : Cl} (h : Fit c) (h9 : c.Phase = 9 → c.Tasks ≠ []) : Eg c = some (J2 c) := by
 unfold Eg J2
 rw [h.cfg, show pl.Plan = ⟨4, 30, 4⟩ from rfl, Abx, Option.bind_some, ← h.cfg]
 cases hd : (Rj (wI (c.Sent + 1))).2 with
 | false => rw [if_pos (by rfl), if_pos rfl, Ac9 h h9, Option.bind_some]
 | true =>
  rw [if_neg (by decide), if_neg (by decide)]
  unfold E6
  rw [Option.bind_some]
  by_cases h2 : 60000 < c.Out.length
  ·rw [if_pos (decide_eq_true (by omega)), if_pos h2, Ajj h, Option.bind_some]
  ·rw [if_neg (by rw [decide_eq_true_eq]; omega), if_neg h2, Att (by exact ⟨h.cfg, h.tk, h.dn, h.tr, h.ou⟩), Option.bind_some]
theorem Ama {n : Int} (h : (Rj n).2 = true) : 0 ≤ n ∧ n ≤ 3 ∧ 0 ≤ (Rj n).1 ∧ (Rj n).1 ≤ 30 := by
 unfold Rj at h ⊢
 split
 ·exact ⟨by omega, by omega, by decide, by decide⟩
 split
 ·exact ⟨by omega, by omega, by decide, by decide⟩
 split
 ·exact ⟨by omega, by omega, by decide, by decide⟩
 split
 ·exact ⟨by omega, by omega, by decide, by decide⟩
 ·rename_i h0 h1 h2 h3
  rw [if_neg h0, if_neg h1, if_neg h2, if_neg h3] at h
  cases h
theorem Inv.sendAgain {l : List Int} {n : Nat} {c : Cl} (h : Inv l n c) (h11 : c.Phase ≠ 11) : Inv l n (J2 c) := by
 unfold J2
 split
 ·exact h.lose h11
 split
 ·exact h.die
 ·rename_i h1 h2
  have hb := Ama (by simpa using h1)
  exact Inv.lay ⟨⟨h.cfg, h.ep, h.sq, h.at_, ⟨hb.1, hb.2.1⟩, ⟨hb.2.2.1, by have := hb.2.2.2; show (Rj (wI (c.Sent + 1))).1 ≤ 50; omega⟩, h.re, h.tk, h.ts, h.st, h.ou, h.ll, h.dc, h.tr, h.nb, h.lb⟩, h.ph, h.wk, h.wi, h.rq, h.du⟩ (by show c.Out.length ≤ 60000; omega)
def Amb (c : Cl) : Cl := match c.Tasks with
 | [] => J2 c
 | t :: _ => if c.Phase = 8 then V6 c t else if c.Phase = 10 then Alr c t else J2 c
theorem Aoz {c : Cl} (h : c.Tasks = []) : Amb c = J2 c := by unfold Amb; split <;> simp_all
theorem Af8 {c : Cl} {t : Am} {ts : List Am} (h : c.Tasks = t :: ts) : Amb c = if c.Phase = 8 then V6 c t else if c.Phase = 10 then Alr c t else J2 c := by unfold Amb; split <;> simp_all
theorem Asr {l : List Int} {n : Nat} {c : Cl} (h : Inv l n c) (h11 : c.Phase ≠ 11) : Hf c = some (Amb c) ∧ Inv l n (Amb c) := by
 have h9 : c.Phase = 9 → c.Tasks ≠ [] := fun h9 => (h.wk (by omega) (by omega)).1
 unfold Hf
 by_cases p8 : c.Phase = 8
 ·obtain ⟨t, ts, ht⟩ := h.tasks (by omega) (by omega)
  have hi : idx c.Tasks 0 = some t := by rw [ht]; rfl
  rw [if_pos (decide_eq_true p8), Ajo h.fit hi, Af8 ht, if_pos p8]
  exact ⟨rfl, h.begin (by omega) (h.du h11) ht (h.wk (by omega) (by omega)).2⟩
 rw [if_neg (by rw [decide_eq_true_eq]; exact p8)]
 by_cases p10 : c.Phase = 10
 ·obtain ⟨t, ts, ht⟩ := h.tasks (by omega) (by omega)
  have hi : idx c.Tasks 0 = some t := by rw [ht]; rfl
  rw [if_pos (decide_eq_true p10), Aq9 h.fit hi, Af8 ht, if_neg p8, if_pos p10]
  exact ⟨rfl, h.ask (by omega) (h.du h11) ht (h.wk (by omega) (by omega)).2⟩
 rw [if_neg (by rw [decide_eq_true_eq]; exact p10), Aem h.fit h9]
 have e : Amb c = J2 c := by
  rcases Il c with ht | ⟨t, ts, ht⟩
  ·exact Aoz ht
  ·rw [Af8 ht, if_neg p8, if_neg p10]
 rw [e]
 exact ⟨rfl, h.sendAgain h11⟩
def Ac0 (c : Cl) (n : Int) : Int := if wI (c.Left - n) > 0 then wI (c.Left - n) else 0
theorem Aro {c : Cl} {n : Int} (h : 0 ≤ c.Left ∧ c.Left ≤ 50) (hk : 0 ≤ n ∧ n ≤ 1073741824) : 0 ≤ Ac0 c n ∧ Ac0 c n ≤ 50 := by unfold Ac0; rw [Dl (by omega) (by omega)]; split <;> omega
def Ael (c : Cl) (n : Int) : Cl := if c.Phase = 0 ∨ c.Phase = 1 ∨ c.Phase = 11 then c else if c.Left ≤ n then Amb {c with Left := Ac0 c n} else {c with Left := Ac0 c n}
theorem Inv.left {l : List Int} {n : Nat} {c : Cl} (h : Inv l n c) {k : Int} (hk : 0 ≤ k ∧ k ≤ 1073741824) : Inv l n {c with Left := Ac0 c k} :=
 ⟨⟨h.cfg, h.ep, h.sq, h.at_, h.se, Aro h.le hk, h.re, h.tk, h.ts, h.st, h.ou, h.ll, h.dc, h.tr, h.nb, h.lb⟩, h.ph, h.wk, h.wi, h.rq, h.du⟩
theorem Aup {l : List Int} {n : Nat} {c : Cl} (h : Inv l n c) {k : Int} (hk : 0 ≤ k ∧ k ≤ 1073741824) : Ii c k = some (Ael c k, 0) ∧ Inv l n (Ael c k) := by
 have hi := h.left hk
 have hT : Inv l n (Ael c k) := by
  unfold Ael
  split
  ·exact h
  split
  ·exact (Asr hi (by show c.Phase ≠ 11; omega)).2
  ·exact hi
 refine ⟨?_, hT⟩
 unfold Ii
 rw [Ti h, Option.bind_some, if_neg (by decide), Tx, Option.bind_some]
 ·rw [decide_eq_true hk.1, decide_eq_true hk.2, if_neg (by decide)]
  unfold Lm Ael
  by_cases p0 : c.Phase = 0
  ·rw [if_pos (decide_eq_true p0), if_pos (.inl p0)]
  rw [if_neg (by rw [decide_eq_true_eq]; exact p0), Ac6, Option.bind_some]
  by_cases hg : c.Phase = 1 ∨ c.Phase = 11
  ·rw [decide_eq_true hg, if_pos rfl, if_pos (.inr hg)]
  rw [decide_eq_false hg, if_neg (by decide), if_neg (by omega)]
  unfold Lk
  by_cases hl : c.Left ≤ k
  ·rw [if_pos (decide_eq_true hl), if_pos hl]
   have hd := (Asr hi (by show c.Phase ≠ 11; omega)).1
   unfold Ac0 at hd ⊢
   rw [hd, Option.bind_some]
   rfl
  ·rw [if_neg (by rw [decide_eq_true_eq]; exact hl), if_neg hl]
   rfl
theorem Aqg {l : List Int} {n : Nat} {c : Cl} (h : Inv l n c) {k : Int} (hk : ¬ (0 ≤ k ∧ k ≤ 1073741824)) : Ii c k = some (C4, 1) := by
 unfold Ii
 rw [Ti h, Option.bind_some, if_neg (by decide), Tx, Option.bind_some, if_pos (by by_cases h0 : 0 ≤ k <;> by_cases h1 : k ≤ 1073741824 <;> simp [h0, h1] <;> omega)]
def Aqs (c : Cl) : Cl := R8 {c with Phase := 2, Seq := 0} ⟨1, 0, 3, c.Epoch, false, [], [], Bu⟩
theorem Aug {l : List Int} {n : Nat} {c : Cl} (h : Inv l n c) : (c.Phase ≠ 1 ∧ Ew c = some (C4, 7)) ∨ (c.Phase = 1 ∧ Ew c = some (Aqs c, 0) ∧ Inv l n (Aqs c)) := by
 unfold Ew
 rw [Ti h, Option.bind_some, if_neg (by decide)]
 by_cases p1 : c.Phase = 1
 ·right
  have hw : c.Cfg.Who = 3 := by rw [h.cfg]; rfl
  have hp0 := h.toPre.ph (by omega) (p := 2) (by decide)
  have hp : Pre l n {c with Phase := 2, Seq := 0} := ⟨hp0.cfg, hp0.ep, ⟨Int.le_refl _, by show (0 : Int) ≤ 4294967296; omega⟩, hp0.at_, hp0.se, hp0.le, hp0.re, hp0.tk, hp0.ts, hp0.st, hp0.ou, hp0.ll, hp0.dc, hp0.tr, hp0.nb, hp0.lb⟩
  have he := h.ep
  rw [decide_eq_true p1, if_neg (by decide), hw, Ya hp.fit, Option.bind_some]
  exact ⟨p1, rfl, hp.send ⟨by show (1 : Int) ≤ 2; omega, by show (2 : Int) ≤ 10; omega⟩ (fun h3 => absurd (show (3 : Int) ≤ 2 from h3) (by omega)) (h.du (by omega)) (fun x x0 x1 => Anr (by show (0 : Int) ≤ 3; omega) (by show (3 : Int) ≤ 1099511627776; omega) (by show 0 ≤ c.Epoch; omega) (by show c.Epoch ≤ 65535; omega) x0 x1)⟩
 ·left
  rw [decide_eq_false p1, if_pos (by rfl)]
  exact ⟨p1, rfl⟩
def Aju (c : Cl) : Cl := if c.Phase = 1 ∨ c.Phase = 11 then c else Zk c
theorem At7 {l : List Int} {n : Nat} {c : Cl} (h : Inv l n c) : Ly c = some (Aju c) ∧ Inv l n (Aju c) := by
 unfold Ly Aju
 rw [Ti h, Option.bind_some, if_neg (by decide), Ac6, Option.bind_some]
 by_cases hg : c.Phase = 1 ∨ c.Phase = 11
 ·rw [decide_eq_true hg, if_pos rfl, if_pos hg]
  exact ⟨rfl, h⟩
 ·rw [decide_eq_false hg, if_neg (by decide), if_neg hg, Ac9 h.fit (fun h9 => (h.wk (by omega) (by omega)).1), Option.bind_some]
  exact ⟨rfl, h.lose (by omega)⟩
def Ajs (c : Cl) : Cl := {c with Out := []}
theorem Arw {l : List Int} {n : Nat} {c : Cl} (h : Inv l n c) : Kv c = some (Ajs c, c.Out) ∧ Inv l n (Ajs c) := by
 unfold Kv
 rw [Ti h, Option.bind_some, if_neg (by decide)]
 exact ⟨rfl, ⟨h.cfg, h.ep, h.sq, h.at_, h.se, h.le, h.re, h.tk, h.ts, h.st, by show 0 ≤ 65536; omega, h.ll, h.dc, h.tr, h.nb, h.lb⟩, h.ph, h.wk, h.wi, h.rq, h.du⟩
def Adj (c : Cl) (t : Am) : Cl := {c with Tasks := c.Tasks ++ [t]}
def Asf (c : Cl) (t : Am) : Cl := if c.Phase = 0 then U4 (Adj c t) else Adj c t
def Yn (c : Cl) (t : Am) : Prop := TS t ∧ c.Phase ≠ 11 ∧ (∀ u ∈ c.Tasks, u.Token ≠ t.Token) ∧ c.Tasks.length < 8
theorem Arj {l : List Int} {n : Nat} {c : Cl} (h : Inv l n c) {t : Am} (hs : Yn c t) (hb : l.length < 1000) : Pre (l ++ [t.Token]) n (Adj c t) := by
 obtain ⟨s1, s2, s3, s4⟩ := hs
 refine ⟨h.cfg, h.ep, h.sq, h.at_, h.se, h.le, h.re, ⟨by show (c.Tasks ++ [t]).length ≤ 8; simp; omega, ?_⟩, ?_, h.st, h.ou, ?_, h.dc, h.tr, h.nb, by simp; omega⟩
 ·show ((c.Tasks ++ [t]).map (·.Token)).Nodup
  rw [List.map_append, List.nodup_append]
  refine ⟨h.tk.2, by simp, fun a ha b hb => ?_⟩
  rw [List.mem_map] at ha
  obtain ⟨u, hu, rfl⟩ := ha
  simp at hb
  rw [hb]
  exact s3 u hu
 ·intro u hu
  rcases List.mem_append.1 (show u ∈ c.Tasks ++ [t] from hu) with hu | hu
  ·exact ⟨(h.ts u hu).1, List.mem_append_left _ (h.ts u hu).2⟩
  ·rw [List.mem_singleton] at hu; subst hu; exact ⟨s1, by simp⟩
 ·have hw : W (Adj c t) = W c ++ [t] := by
   unfold W Adj
   dsimp only
   split
   ·rename_i h9
    obtain ⟨a, bs, ha⟩ := h.tasks (by omega) (by omega)
    rw [ha]; rfl
   ·rfl
  rw [hw, List.map_append, ← h.ll, List.append_assoc]
  rfl
theorem Arm {l : List Int} {n : Nat} {c : Cl} (h : Inv l n c) {t : Am} (hs : Yn c t) (hb : l.length < 1000) : Inv (l ++ [t.Token]) n (Asf c t) := by
 have hp := Arj h hs hb
 have hd := h.du hs.2.1
 unfold Asf
 split
 ·rename_i p0
  exact hp.goOn (by show c.Phase ≠ 9; omega) hd
 ·rename_i p0
  exact ⟨hp, h.ph, fun h1 h2 => ⟨by show c.Tasks ++ [t] ≠ []; simp, (h.wk h1 h2).2⟩, fun h1 => absurd h1 (by have := hs.2.1; show ¬ (c.Phase = 0 ∨ c.Phase = 11); omega), h.rq, fun _ => hd⟩
theorem Adi (t : Am) (h : t.Prog.Ops.length ≤ 1000) : ∃ v, Dq t = some v ∧ (v = true → TS t) := by
 have : ∃ v, Dq t = some v := by
  unfold Dq
  obtain ⟨v, hv, -⟩ := pg.psane_m t.Prog (by omega)
  rw [Tx, Option.bind_some, hv]
  split <;> exact ⟨_, rfl⟩
 obtain ⟨v, hv⟩ := this
 exact ⟨v, hv, fun h1 => ⟨by rw [hv, h1], h⟩⟩
theorem Aw6 {l : List Int} {n : Nat} {c : Cl} (h : Inv l n c) {t : Am} (ho : t.Prog.Ops.length ≤ 1000) : (∃ x e, e ≠ 0 ∧ D1 c t = some (x, e)) ∨ (Yn c t ∧ D1 c t = some (Asf c t, 0)) := by
 obtain ⟨v, hv, hvt⟩ := Adi t ho
 unfold D1
 rw [Ti h, Option.bind_some, if_neg (by decide), hv, Option.bind_some]
 cases v with
 | false => exact .inl ⟨_, 1, by decide, by rw [if_pos (by rfl)]⟩
 | true =>
  rw [if_neg (by decide)]
  by_cases p11 : c.Phase = 11
  ·exact .inl ⟨_, 13, by decide, by rw [if_pos (decide_eq_true p11)]⟩
  rw [if_neg (by rw [decide_eq_true_eq]; exact p11)]
  have h8 := h.tk.1
  by_cases hm : ∀ u ∈ c.Tasks, u.Token ≠ t.Token
  ·rw [Acx (by omega) hm, Option.bind_some, if_neg (by decide)]
   by_cases hl : 8 ≤ (c.Tasks.length : Int)
   ·exact .inl ⟨_, 8, by decide, by rw [if_pos (decide_eq_true hl)]⟩
   rw [if_neg (by rw [decide_eq_true_eq]; exact hl), Ue _ (by simp; omega) (by simp), Option.bind_some, show [c.Tasks, [t]].flatten = c.Tasks ++ [t] from by simp]
   refine .inr ⟨⟨hvt rfl, p11, hm, by omega⟩, ?_⟩
   have hf : Fit (Adj c t) := ⟨h.fit.cfg, by show (c.Tasks ++ [t]).length ≤ 8; simp; omega, h.fit.dn, h.fit.tr, h.fit.ou⟩
   unfold Asf
   by_cases p0 : c.Phase = 0
   ·rw [if_pos (decide_eq_true p0), if_pos p0]
    have hg := Aij hf
    unfold Adj at hg
    rw [hg, Option.bind_some]
    rfl
   ·rw [if_neg (by rw [decide_eq_true_eq]; exact p0), if_neg p0]
    rfl
  ·left
   have hlt : c.Tasks.findIdx (fun u => decide (u.Token = t.Token)) < c.Tasks.length := by
    rw [List.findIdx_lt_length]
    apply Classical.byContradiction
    intro hn
    exact hm fun u hu he => hn ⟨u, hu, decide_eq_true he⟩
   rw [Aba _ _ (by omega), if_pos hlt, Option.bind_some, if_pos (decide_eq_true (by omega))]
   exact ⟨_, 7, by decide, rfl⟩
end Go.Proofs.YtbjckaahoacbfaaGreatDoor.Abs
