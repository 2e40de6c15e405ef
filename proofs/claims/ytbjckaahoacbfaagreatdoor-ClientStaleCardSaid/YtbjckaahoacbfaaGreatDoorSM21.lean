/- . -/
import Derived.Test.YtbjckaahoacbfaaGreatDoorSL21
namespace Go.Proofs.YtbjckaahoacbfaaGreatDoor.Abs
open mg (F2 eR Qf)
theorem Ahs (o : B9) (ro : Bool) (h : Cn o ro = some true) (hw : o.What = 4) : o.Rng.Lo.length ≤ 16 ∧ o.Rng.Hi.length ≤ 16 ∧ (o.Rng.Open = true → o.Rng.Hi.length = 0) := by
 have kr : Eh o.Rng = some true → o.Rng.Lo.length ≤ 16 ∧ o.Rng.Hi.length ≤ 16 ∧ (o.Rng.Open = true → o.Rng.Hi.length = 0) := fun h => by
  unfold Eh at h
  obtain ⟨v, hv, h⟩ := Ag h
  cases v with
  | false => rw [if_neg (by decide)] at h; cases h
  | true =>
   rw [if_pos rfl] at h
   split at h
   ·rename_i h1
    have h1 := of_decide_eq_true h1
    split at h
    ·rename_i h2
     have h2 := of_decide_eq_true h2
     refine ⟨by omega, by omega, fun hO => ?_⟩
     unfold G2 at hv
     split at hv
     ·split at hv
      ·have := Option.some.inj hv
       rw [Bool.not_eq_true', decide_eq_false_iff_not] at this
       omega
      ·cases hv
     ·cases hv
    ·cases h
   ·cases h
 have k3 : C6 o () = some true → Eh o.Rng = some true := fun h => by
  unfold C6 at h
  rw [hw] at h
  rw [if_neg (by decide), if_neg (by decide)] at h
  unfold C8 at h
  rw [if_neg (by decide), hw, if_pos (by decide)] at h
  obtain ⟨v, hv, h⟩ := Ag h
  rw [hv, h]
 unfold Cn at h
 obtain ⟨v, -, h⟩ := Ag h
 split at h
 ·cases h
 obtain ⟨v, -, h⟩ := Ag h
 split at h
 ·cases h
 obtain ⟨v, -, h⟩ := Ag h
 split at h
 ·cases h
 obtain ⟨v, -, h⟩ := Ag h
 split at h
 ·cases h
 unfold Fl at h
 obtain ⟨v, -, h⟩ := Ag h
 obtain ⟨w, -, h⟩ := Ag h
 split at h
 ·cases h
 split at h
 ·split at h
  ·cases h
  ·exact kr (k3 h)
 ·exact kr (k3 h)
theorem Amq {o : B9} {ro : Bool} {s : A1} {q : B7} (h : Cn o ro = some true) (h1 : 1 ≤ o.What) (h4 : o.What ≤ 4) (hq : Er o s = some q) {x : Int} (x0 : 0 ≤ x) (x1 : x ≤ 4294967295) : F2 {q with Seq := x} = true := by
 have hx : mg.within x 4294967295 = true := by unfold mg.within; simp [x0, x1]
 unfold Er at hq
 by_cases w1 : o.What = 1
 ·rw [if_pos (decide_eq_true w1)] at hq
  obtain rfl := Option.some.inj hq
  have hk := pg.saneOp_key o ro h h1 (by omega)
  have hk' : mg.saneBytes true o.Key 1 16 = true := by unfold mg.saneBytes; simp; omega
  show (true && (mg.within x 4294967295 && (true && (true && (true && (mg.saneBytes true o.Key 1 16 && (true && true))))))) = true
  rw [hx, hk']; rfl
 rw [if_neg (by rw [decide_eq_true_eq]; exact w1)] at hq
 by_cases w2 : o.What = 2
 ·rw [if_pos (decide_eq_true w2)] at hq
  split at hq
  ·obtain ⟨u, -, hq⟩ := Ag hq
   rw [pg.val_m, Option.bind_some] at hq
   obtain rfl := Option.some.inj hq
   have hk := pg.saneOp_key o ro h h1 (by omega)
   have hk' : mg.saneBytes true o.Key 1 16 = true := by unfold mg.saneBytes; simp; omega
   show (true && (mg.within x 4294967295 && (true && (true && (true && (mg.saneBytes true o.Key 1 16 && (true && true))))))) = true
   rw [hx, hk']; rfl
  ·cases hq
 rw [if_neg (by rw [decide_eq_true_eq]; exact w2)] at hq
 by_cases w3 : o.What = 3
 ·rw [if_pos (decide_eq_true w3)] at hq
  obtain rfl := Option.some.inj hq
  have hk := pg.saneOp_key o ro h h1 (by omega)
  have hk' : mg.saneBytes true o.Key 1 16 = true := by unfold mg.saneBytes; simp; omega
  show (true && (mg.within x 4294967295 && (true && (true && (true && (mg.saneBytes true o.Key 1 16 && (true && true))))))) = true
  rw [hx, hk']; rfl
 rw [if_neg (by rw [decide_eq_true_eq]; exact w3)] at hq
 obtain rfl := Option.some.inj hq
 obtain ⟨r1, r2, r3⟩ := Ahs o ro h (by omega)
 have hr : mg.saneRng true o.Rng = true := by
  unfold mg.saneRng mg.saneBytes
  cases hO : o.Rng.Open with
  | false => simp; omega
  | true => have := r3 hO; simp [this]; omega
 show (true && (mg.within x 4294967295 && (true && (true && (true && (true && (true && mg.saneRng true o.Rng))))))) = true
 rw [hx, hr]; rfl
theorem Al7 {t : Am} (ht : TS t) (s : A1) (hb : (Rw t.Prog s).2.2 = true) {x : Int} (x0 : 0 ≤ x) (x1 : x ≤ 4294967295) : F2 {(Rw t.Prog s).1 with Seq := x} = true := by
 obtain ⟨-, hs⟩ := ht.sane
 obtain ⟨v, hv, hg⟩ := pg.psane_m t.Prog (by have := ht.2; omega)
 rw [hs] at hv
 obtain rfl := Option.some.inj hv
 unfold Rw at hb ⊢
 by_cases h0 : 0 ≤ s.PC
 ·rcases pg.next_m t.Prog s ht.2 hs (hg rfl).1 h0 with ⟨q, u, o, h, -, -, -, -, hi, hw, -, -, -, hq⟩ | ⟨u, h, -⟩
  ·rw [h]
   exact Amq (pg.psane_ops (by have := ht.2; omega) hs o (List.mem_of_getElem? (Vy hi).2)) hw.1 hw.2 hq x0 x1
  ·rw [h] at hb; cases hb
 ·rw [pg.next_no t.Prog s (.inr ⟨hs, by omega⟩)] at hb
  cases hb
def W (c : Cl) : List Am := if c.Phase = 9 then c.Tasks.drop 1 else c.Tasks
structure Pre (l : List Int) (n : Nat) (c : Cl) : Prop where
 cfg : c.Cfg = pl
 ep : 1 ≤ c.Epoch ∧ c.Epoch ≤ 65535
 sq : 0 ≤ c.Seq ∧ c.Seq ≤ 4294967296
 at_ : 0 ≤ c.Attempt ∧ c.Attempt ≤ 3
 se : 0 ≤ c.Sent ∧ c.Sent ≤ 3
 le : 0 ≤ c.Left ∧ c.Left ≤ 50
 re : 0 ≤ c.Resets ∧ c.Resets ≤ 1001
 tk : c.Tasks.length ≤ 8 ∧ (c.Tasks.map (·.Token)).Nodup
 ts : ∀ t ∈ c.Tasks, TS t ∧ t.Token ∈ l
 st : Sw c.In.Buf c.In.Dead = true
 ou : c.Out.length ≤ 65536
 ll : c.Done.map (·.Token) ++ (W c).map (·.Token) = l
 dc : ∀ x ∈ c.Done, 1 ≤ x.Code ∧ x.Code ≤ 4
 tr : c.Tried.length ≤ n
 nb : n ≤ 1000000
 lb : l.length ≤ 1000
def Du (c : Cl) : Prop := (∀ x ∈ c.Done, x.Code = 4 → x.Ts ≠ 0) ∧ c.Resets ≤ 2
structure Inv (l : List Int) (n : Nat) (c : Cl) : Prop extends Pre l n c where
 ph : 0 ≤ c.Phase ∧ c.Phase ≤ 11
 wk : 3 ≤ c.Phase → c.Phase ≤ 10 → c.Tasks ≠ [] ∧ 0 < c.Attempt
 wi : c.Phase = 0 ∨ c.Phase = 11 → c.Tasks = []
 rq : (2 ≤ c.Phase ∧ c.Phase ≤ 7) ∨ c.Phase = 9 → F2 c.Req = true
 du : c.Phase ≠ 11 → Du c
theorem Pre.dn {l : List Int} {n : Nat} {c : Cl} (h : Pre l n c) : c.Done.length ≤ 1000 := by
 have h1 := congrArg List.length h.ll
 have := h.lb
 simp at h1
 omega
theorem Pre.fit {l : List Int} {n : Nat} {c : Cl} (h : Pre l n c) : Fit c :=
 ⟨h.cfg, h.tk.1, by have := h.dn; omega, by have := h.tr; have := h.nb; omega, h.ou⟩
theorem Pre.ph {l : List Int} {n : Nat} {c : Cl} (h : Pre l n c) (h9 : c.Phase ≠ 9) {p : Int} (hp : p ≠ 9) : Pre l n {c with Phase := p} :=
 ⟨h.cfg, h.ep, h.sq, h.at_, h.se, h.le, h.re, h.tk, h.ts, h.st, h.ou, by rw [← h.ll]; unfold W; dsimp only; rw [if_neg hp, if_neg h9], h.dc, h.tr, h.nb, h.lb⟩
theorem Am6 (c : Cl) : (Afs c).map (·.Token) = (W c).map (·.Token) := by
 unfold Afs W
 rcases Il c with hts | ⟨t, ts, hts⟩
 ·rw [hts]; dsimp only; split <;> rfl
 ·rw [hts]
  by_cases h9 : c.Phase = 9
  ·rw [if_pos h9]; dsimp only; rw [if_pos h9]; simp
  ·rw [if_neg h9]; dsimp only; rw [if_neg h9]; simp
theorem Ak5 (c : Cl) : ∀ x ∈ Afs c, 1 ≤ x.Code ∧ x.Code ≤ 4 := by
 intro x hx
 have hf : 1 ≤ Ace c ∧ Ace c ≤ 4 := by unfold Ace; split <;> (try split) <;> (try split) <;> omega
 unfold Afs at hx
 rcases Il c with hts | ⟨t, ts, hts⟩
 ·rw [hts] at hx; cases hx
 ·rw [hts] at hx
  dsimp only at hx
  rw [List.mem_append] at hx
  rcases hx with hx | hx
  ·split at hx
   ·cases hx
   ·rw [List.mem_singleton] at hx; subst hx; exact hf
  ·rw [List.mem_map] at hx
   obtain ⟨u, -, rfl⟩ := hx
   exact ⟨by show (1 : Int) ≤ 3; omega, by show (3 : Int) ≤ 4; omega⟩
theorem Pre.die {l : List Int} {n : Nat} {c : Cl} (h : Pre l n c) : Inv l n (Aln c) := by
 refine ⟨⟨h.cfg, h.ep, h.sq, h.at_, h.se, ⟨by show (0 : Int) ≤ 0; omega, by show (0 : Int) ≤ 50; omega⟩, h.re, ⟨by show 0 ≤ 8; omega, List.nodup_nil⟩, fun t ht => (by cases ht), h.st, h.ou, ?_, ?_, h.tr, h.nb, h.lb⟩, ⟨by show (0 : Int) ≤ 11; omega, Int.le_refl _⟩, fun _ h2 => absurd (show (11 : Int) ≤ 10 from h2) (by omega), fun _ => rfl, fun h1 => ?_, fun h1 => absurd rfl h1⟩
 ·show (c.Done ++ Afs c).map (·.Token) ++ (W (Aln c)).map (·.Token) = l
  rw [List.map_append, Am6, h.ll, show W (Aln c) = [] from rfl]
  simp
 ·intro x hx
  rcases List.mem_append.1 (show x ∈ c.Done ++ Afs c from hx) with hx | hx
  ·exact h.dc x hx
  ·exact Ak5 c x hx
 ·have h1 : (2 ≤ (11 : Int) ∧ (11 : Int) ≤ 7) ∨ (11 : Int) = 9 := h1
  omega
theorem Inv.lay {l : List Int} {n : Nat} {c : Cl} (h : Inv l n c) (ho : c.Out.length ≤ 60000) : Inv l n (Aly c) := by
 unfold Aly
 split
 ·rename_i hs
  have he := mg.eR_len hs
  exact ⟨⟨h.cfg, h.ep, h.sq, h.at_, h.se, h.le, h.re, h.tk, h.ts, h.st, by show (c.Out ++ fr _).length ≤ _; rw [List.length_append, V7]; omega, h.ll, h.dc, h.tr, h.nb, h.lb⟩, h.ph, h.wk, h.wi, h.rq, h.du⟩
 ·exact h.die
theorem Pre.send {l : List Int} {n : Nat} {c : Cl} (h : Pre l n c) {r : B7} (hp : 1 ≤ c.Phase ∧ c.Phase ≤ 10) (hw : 3 ≤ c.Phase → c.Tasks ≠ [] ∧ 0 < c.Attempt) (hd : Du c)
  (hr : ∀ x : Int, 0 ≤ x → x ≤ 4294967295 → F2 {r with Seq := x} = true) : Inv l n (R8 c r) := by
 unfold R8
 split
 ·exact h.die
 split
 ·exact h.die
 ·rename_i h1 h2
  have hq := h.sq
  exact Inv.lay ⟨⟨h.cfg, h.ep, by show 0 ≤ wI (c.Seq + 1) ∧ wI (c.Seq + 1) ≤ 4294967296; rw [Dl (by omega) (by omega)]; omega, h.at_, ⟨by show (0 : Int) ≤ 0; omega, by show (0 : Int) ≤ 3; omega⟩, ⟨by show (0 : Int) ≤ 4; omega, by show (4 : Int) ≤ 50; omega⟩, h.re, h.tk, h.ts, h.st, h.ou, h.ll, h.dc, h.tr, h.nb, h.lb⟩, ⟨by have := hp.1; show 0 ≤ c.Phase; omega, by have := hp.2; show c.Phase ≤ 11; omega⟩, fun h1 _ => hw h1, fun h1 => by have h1 : c.Phase = 0 ∨ c.Phase = 11 := h1; omega, fun _ => hr _ (by omega) (by omega), fun _ => hd⟩ (by show c.Out.length ≤ 60000; omega)
end Go.Proofs.YtbjckaahoacbfaaGreatDoor.Abs
