/-
 What is done with a client, thing by thing.
-/
import Derived.Test.YtbjckaahoacbfaaGreatDoorTQ21
set_option linter.unusedVariables false
set_option linter.unusedSimpArgs false
namespace Go.Proofs.YtbjckaahoacbfaaGreatDoor.Abs
open mg (Fdz eR Oi)
def I7 (c : Cl) : Cl := if (Qd (wI (c.Sent + 1))).2 = false then Ww c else if 60000 < c.Out.length then Aff c else Agy {c with Sent := wI (c.Sent + 1), Left := (Qd (wI (c.Sent + 1))).1}
theorem Ab6 {c : Cl} (h : Fit c) (h9 : c.Phase = 9 → c.Tasks ≠ []) : Ea c = some (I7 c) := by
 unfold Ea I7
 rw [h.cfg, show pl.Plan = ⟨4, 30, 4⟩ from rfl, Yx, Option.bind_some, ← h.cfg]
 cases hd : (Qd (wI (c.Sent + 1))).2 with
 | false => rw [if_pos (by rfl), if_pos rfl, Zt h h9, Option.bind_some]
 | true =>
  rw [if_neg (by decide), if_neg (by decide)]
  unfold Es
  rw [Option.bind_some]
  by_cases h2 : 60000 < c.Out.length
  ·rw [if_pos (decide_eq_true (by omega)), if_pos h2, Ags h, Option.bind_some]
  ·rw [if_neg (by rw [decide_eq_true_eq]; omega), if_neg h2, Aov (by exact ⟨h.cfg, h.tk, h.dn, h.tr, h.ou⟩), Option.bind_some]
theorem Ai5 {n : Int} (h : (Qd n).2 = true) : 0 ≤ n ∧ n ≤ 3 ∧ 0 ≤ (Qd n).1 ∧ (Qd n).1 ≤ 30 := by
 unfold Qd at h ⊢
 split
 ·exact ⟨by omega, by omega, by decide, by decide⟩
 split
 ·exact ⟨by omega, by omega, by decide, by decide⟩
 split
 ·exact ⟨by omega, by omega, by decide, by decide⟩
 split
 ·exact ⟨by omega, by omega, by decide, by decide⟩
 ·rename_i h0 h1 h2 h3
  rw [if_neg h0, if_neg h1, if_neg h2, if_neg h3] at h
  cases h
theorem Inv.sendAgain {l : List Int} {n : Nat} {c : Cl} (h : Inv l n c) (h11 : c.Phase ≠ 11) : Inv l n (I7 c) := by
 unfold I7
 split
 ·exact h.lose h11
 split
 ·exact h.die
 ·rename_i h1 h2
  have hb := Ai5 (by simpa using h1)
  exact Inv.lay ⟨⟨h.cfg, h.ep, h.sq, h.at_, ⟨hb.1, hb.2.1⟩, ⟨hb.2.2.1, by have := hb.2.2.2; show (Qd (wI (c.Sent + 1))).1 ≤ 50; omega⟩, h.re, h.tk, h.ts, h.st, h.ou, h.ll, h.dc, h.tr, h.nb, h.lb⟩, h.ph, h.wk, h.wi, h.rq, h.du⟩ (by show c.Out.length ≤ 60000; omega)
def Aj0 (c : Cl) : Cl := match c.Tasks with
 | [] => I7 c
 | t :: _ => if c.Phase = 8 then Sp c t else if c.Phase = 10 then Af3 c t else I7 c
theorem Aku {c : Cl} (h : c.Tasks = []) : Aj0 c = I7 c := by unfold Aj0; split <;> simp_all
theorem Adp {c : Cl} {t : As} {ts : List As} (h : c.Tasks = t :: ts) : Aj0 c = if c.Phase = 8 then Sp c t else if c.Phase = 10 then Af3 c t else I7 c := by unfold Aj0; split <;> simp_all
theorem Aon {l : List Int} {n : Nat} {c : Cl} (h : Inv l n c) (h11 : c.Phase ≠ 11) : Gy c = some (Aj0 c) ∧ Inv l n (Aj0 c) := by
 have h9 : c.Phase = 9 → c.Tasks ≠ [] := fun h9 => (h.wk (by omega) (by omega)).1
 unfold Gy
 by_cases p8 : c.Phase = 8
 ·obtain ⟨t, ts, ht⟩ := h.tasks (by omega) (by omega)
  have hi : idx c.Tasks 0 = some t := by rw [ht]; rfl
  rw [if_pos (decide_eq_true p8), Af8 h.fit hi, Adp ht, if_pos p8]
  exact ⟨rfl, h.begin (by omega) (h.du h11) ht (h.wk (by omega) (by omega)).2⟩
 rw [if_neg (by rw [decide_eq_true_eq]; exact p8)]
 by_cases p10 : c.Phase = 10
 ·obtain ⟨t, ts, ht⟩ := h.tasks (by omega) (by omega)
  have hi : idx c.Tasks 0 = some t := by rw [ht]; rfl
  rw [if_pos (decide_eq_true p10), Al6 h.fit hi, Adp ht, if_neg p8, if_pos p10]
  exact ⟨rfl, h.ask (by omega) (h.du h11) ht (h.wk (by omega) (by omega)).2⟩
 rw [if_neg (by rw [decide_eq_true_eq]; exact p10), Ab6 h.fit h9]
 have e : Aj0 c = I7 c := by
  rcases Gp c with ht | ⟨t, ts, ht⟩
  ·exact Aku ht
  ·rw [Adp ht, if_neg p8, if_neg p10]
 rw [e]
 exact ⟨rfl, h.sendAgain h11⟩
def Zj (c : Cl) (n : Int) : Int := if wI (c.Left - n) > 0 then wI (c.Left - n) else 0
theorem Any {c : Cl} {n : Int} (h : 0 ≤ c.Left ∧ c.Left ≤ 50) (hk : 0 ≤ n ∧ n ≤ 1073741824) : 0 ≤ Zj c n ∧ Zj c n ≤ 50 := by unfold Zj; rw [Dh (by omega) (by omega)]; split <;> omega
def Aao (c : Cl) (n : Int) : Cl := if c.Phase = 0 ∨ c.Phase = 1 ∨ c.Phase = 11 then c else if c.Left ≤ n then Aj0 {c with Left := Zj c n} else {c with Left := Zj c n}
theorem Inv.left {l : List Int} {n : Nat} {c : Cl} (h : Inv l n c) {k : Int} (hk : 0 ≤ k ∧ k ≤ 1073741824) : Inv l n {c with Left := Zj c k} :=
 ⟨⟨h.cfg, h.ep, h.sq, h.at_, h.se, Any h.le hk, h.re, h.tk, h.ts, h.st, h.ou, h.ll, h.dc, h.tr, h.nb, h.lb⟩, h.ph, h.wk, h.wi, h.rq, h.du⟩
theorem Aol {l : List Int} {n : Nat} {c : Cl} (h : Inv l n c) {k : Int} (hk : 0 ≤ k ∧ k ≤ 1073741824) : Hu c k = some (Aao c k, 0) ∧ Inv l n (Aao c k) := by
 have hi := h.left hk
 have hT : Inv l n (Aao c k) := by
  unfold Aao
  split
  ·exact h
  split
  ·exact (Aon hi (by show c.Phase ≠ 11; omega)).2
  ·exact hi
 refine ⟨?_, hT⟩
 unfold Hu
 rw [Rg h, Option.bind_some, if_neg (by decide), Rm, Option.bind_some]
 ·rw [decide_eq_true hk.1, decide_eq_true hk.2, if_neg (by decide)]
  unfold Kh Aao
  by_cases p0 : c.Phase = 0
  ·rw [if_pos (decide_eq_true p0), if_pos (.inl p0)]
  rw [if_neg (by rw [decide_eq_true_eq]; exact p0), Aae, Option.bind_some]
  by_cases hg : c.Phase = 1 ∨ c.Phase = 11
  ·rw [decide_eq_true hg, if_pos rfl, if_pos (.inr hg)]
  rw [decide_eq_false hg, if_neg (by decide), if_neg (by omega)]
  unfold Kk
  by_cases hl : c.Left ≤ k
  ·rw [if_pos (decide_eq_true hl), if_pos hl]
   have hd := (Aon hi (by show c.Phase ≠ 11; omega)).1
   unfold Zj at hd ⊢
   rw [hd, Option.bind_some]
   rfl
  ·rw [if_neg (by rw [decide_eq_true_eq]; exact hl), if_neg hl]
   rfl
theorem Amz {l : List Int} {n : Nat} {c : Cl} (h : Inv l n c) {k : Int} (hk : ¬ (0 ≤ k ∧ k ≤ 1073741824)) : Hu c k = some (Cy, 1) := by
 unfold Hu
 rw [Rg h, Option.bind_some, if_neg (by decide), Rm, Option.bind_some, if_pos (by by_cases h0 : 0 ≤ k <;> by_cases h1 : k ≤ 1073741824 <;> simp [h0, h1] <;> omega)]
def Aiy (c : Cl) : Cl := Mw {c with Phase := 2, Seq := 0} ⟨1, 0, 3, c.Epoch, false, [], [], Bt⟩
theorem Apz {l : List Int} {n : Nat} {c : Cl} (h : Inv l n c) : (c.Phase ≠ 1 ∧ Em c = some (Cy, 7)) ∨ (c.Phase = 1 ∧ Em c = some (Aiy c, 0) ∧ Inv l n (Aiy c)) := by
 unfold Em
 rw [Rg h, Option.bind_some, if_neg (by decide)]
 by_cases p1 : c.Phase = 1
 ·right
  have hw : c.Cfg.Who = 3 := by rw [h.cfg]; rfl
  have hp0 := h.toPre.ph (by omega) (p := 2) (by decide)
  have hp : Pre l n {c with Phase := 2, Seq := 0} := ⟨hp0.cfg, hp0.ep, ⟨Int.le_refl _, by show (0 : Int) ≤ 4294967296; omega⟩, hp0.at_, hp0.se, hp0.le, hp0.re, hp0.tk, hp0.ts, hp0.st, hp0.ou, hp0.ll, hp0.dc, hp0.tr, hp0.nb, hp0.lb⟩
  have he := h.ep
  rw [decide_eq_true p1, if_neg (by decide), hw, Wy hp.fit, Option.bind_some]
  exact ⟨p1, rfl, hp.send ⟨by show (1 : Int) ≤ 2; omega, by show (2 : Int) ≤ 10; omega⟩ (fun h3 => absurd (show (3 : Int) ≤ 2 from h3) (by omega)) (h.du (by omega)) (fun x x0 x1 => Ajn (by show (0 : Int) ≤ 3; omega) (by show (3 : Int) ≤ 1099511627776; omega) (by show 0 ≤ c.Epoch; omega) (by show c.Epoch ≤ 65535; omega) x0 x1)⟩
 ·left
  rw [decide_eq_false p1, if_pos (by rfl)]
  exact ⟨p1, rfl⟩
def Agz (c : Cl) : Cl := if c.Phase = 1 ∨ c.Phase = 11 then c else Ww c
theorem Ap4 {l : List Int} {n : Nat} {c : Cl} (h : Inv l n c) : Kp c = some (Agz c) ∧ Inv l n (Agz c) := by
 unfold Kp Agz
 rw [Rg h, Option.bind_some, if_neg (by decide), Aae, Option.bind_some]
 by_cases hg : c.Phase = 1 ∨ c.Phase = 11
 ·rw [decide_eq_true hg, if_pos rfl, if_pos hg]
  exact ⟨rfl, h⟩
 ·rw [decide_eq_false hg, if_neg (by decide), if_neg hg, Zt h.fit (fun h9 => (h.wk (by omega) (by omega)).1), Option.bind_some]
  exact ⟨rfl, h.lose (by omega)⟩
def Ahw (c : Cl) : Cl := {c with Out := []}
theorem Alz {l : List Int} {n : Nat} {c : Cl} (h : Inv l n c) : J6 c = some (Ahw c, c.Out) ∧ Inv l n (Ahw c) := by
 unfold J6
 rw [Rg h, Option.bind_some, if_neg (by decide)]
 exact ⟨rfl, ⟨h.cfg, h.ep, h.sq, h.at_, h.se, h.le, h.re, h.tk, h.ts, h.st, by show 0 ≤ 65536; omega, h.ll, h.dc, h.tr, h.nb, h.lb⟩, h.ph, h.wk, h.wi, h.rq, h.du⟩
def Xb (c : Cl) (t : As) : Cl := {c with Tasks := c.Tasks ++ [t]}
def Als (c : Cl) (t : As) : Cl := if c.Phase = 0 then Qm (Xb c t) else Xb c t
def Vn (c : Cl) (t : As) : Prop := TS t ∧ c.Phase ≠ 11 ∧ (∀ u ∈ c.Tasks, u.Token ≠ t.Token) ∧ c.Tasks.length < 8
theorem Af1 {l : List Int} {n : Nat} {c : Cl} (h : Inv l n c) {t : As} (hs : Vn c t) (hb : l.length < 1000) : Pre (l ++ [t.Token]) n (Xb c t) := by
 obtain ⟨s1, s2, s3, s4⟩ := hs
 refine ⟨h.cfg, h.ep, h.sq, h.at_, h.se, h.le, h.re, ⟨by show (c.Tasks ++ [t]).length ≤ 8; simp; omega, ?_⟩, ?_, h.st, h.ou, ?_, h.dc, h.tr, h.nb, by simp; omega⟩
 ·show ((c.Tasks ++ [t]).map (·.Token)).Nodup
  rw [List.map_append, List.nodup_append]
  refine ⟨h.tk.2, by simp, fun a ha b hb => ?_⟩
  rw [List.mem_map] at ha
  obtain ⟨u, hu, rfl⟩ := ha
  simp at hb
  rw [hb]
  exact s3 u hu
 ·intro u hu
  rcases List.mem_append.1 (show u ∈ c.Tasks ++ [t] from hu) with hu | hu
  ·exact ⟨(h.ts u hu).1, List.mem_append_left _ (h.ts u hu).2⟩
  ·rw [List.mem_singleton] at hu; subst hu; exact ⟨s1, by simp⟩
 ·have hw : W (Xb c t) = W c ++ [t] := by
   unfold W Xb
   dsimp only
   split
   ·rename_i h9
    obtain ⟨a, bs, ha⟩ := h.tasks (by omega) (by omega)
    rw [ha]; rfl
   ·rfl
  rw [hw, List.map_append, ← h.ll, List.append_assoc]
  rfl
theorem Alt {l : List Int} {n : Nat} {c : Cl} (h : Inv l n c) {t : As} (hs : Vn c t) (hb : l.length < 1000) : Inv (l ++ [t.Token]) n (Als c t) := by
 have hp := Af1 h hs hb
 have hd := h.du hs.2.1
 unfold Als
 split
 ·rename_i p0
  exact hp.goOn (by show c.Phase ≠ 9; omega) hd
 ·rename_i p0
  exact ⟨hp, h.ph, fun h1 h2 => ⟨by show c.Tasks ++ [t] ≠ []; simp, (h.wk h1 h2).2⟩, fun h1 => absurd h1 (by have := hs.2.1; show ¬ (c.Phase = 0 ∨ c.Phase = 11); omega), h.rq, fun _ => hd⟩
theorem Aak (t : As) (h : t.Prog.Ops.length ≤ 1000) : ∃ v, Df t = some v ∧ (v = true → TS t) := by
 have : ∃ v, Df t = some v := by
  unfold Df
  obtain ⟨v, hv, -⟩ := pg.psane_m t.Prog (by omega)
  rw [Rm, Option.bind_some, hv]
  split <;> exact ⟨_, rfl⟩
 obtain ⟨v, hv⟩ := this
 exact ⟨v, hv, fun h1 => ⟨by rw [hv, h1], h⟩⟩
theorem Atn {l : List Int} {n : Nat} {c : Cl} (h : Inv l n c) {t : As} (ho : t.Prog.Ops.length ≤ 1000) : (∃ x e, e ≠ 0 ∧ Dl c t = some (x, e)) ∨ (Vn c t ∧ Dl c t = some (Als c t, 0)) := by
 obtain ⟨v, hv, hvt⟩ := Aak t ho
 unfold Dl
 rw [Rg h, Option.bind_some, if_neg (by decide), hv, Option.bind_some]
 cases v with
 | false => exact .inl ⟨_, 1, by decide, by rw [if_pos (by rfl)]⟩
 | true =>
  rw [if_neg (by decide)]
  by_cases p11 : c.Phase = 11
  ·exact .inl ⟨_, 13, by decide, by rw [if_pos (decide_eq_true p11)]⟩
  rw [if_neg (by rw [decide_eq_true_eq]; exact p11)]
  have h8 := h.tk.1
  by_cases hm : ∀ u ∈ c.Tasks, u.Token ≠ t.Token
  ·rw [Aar (by omega) hm, Option.bind_some, if_neg (by decide)]
   by_cases hl : 8 ≤ (c.Tasks.length : Int)
   ·exact .inl ⟨_, 8, by decide, by rw [if_pos (decide_eq_true hl)]⟩
   rw [if_neg (by rw [decide_eq_true_eq]; exact hl), Sd _ (by simp; omega) (by simp), Option.bind_some, show [c.Tasks, [t]].flatten = c.Tasks ++ [t] from by simp]
   refine .inr ⟨⟨hvt rfl, p11, hm, by omega⟩, ?_⟩
   have hf : Fit (Xb c t) := ⟨h.fit.cfg, by show (c.Tasks ++ [t]).length ≤ 8; simp; omega, h.fit.dn, h.fit.tr, h.fit.ou⟩
   unfold Als
   by_cases p0 : c.Phase = 0
   ·rw [if_pos (decide_eq_true p0), if_pos p0]
    have hg := Agl hf
    unfold Xb at hg
    rw [hg, Option.bind_some]
    rfl
   ·rw [if_neg (by rw [decide_eq_true_eq]; exact p0), if_neg p0]
    rfl
  ·left
   have hlt : c.Tasks.findIdx (fun u => decide (u.Token = t.Token)) < c.Tasks.length := by
    rw [List.findIdx_lt_length]
    apply Classical.byContradiction
    intro hn
    exact hm fun u hu he => hn ⟨u, hu, decide_eq_true he⟩
   rw [Y3 _ _ (by omega), if_pos hlt, Option.bind_some, if_pos (decide_eq_true (by omega))]
   exact ⟨_, 7, by decide, rfl⟩
end Go.Proofs.YtbjckaahoacbfaaGreatDoor.Abs
