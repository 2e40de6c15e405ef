/- . -/
import Derived.Test.YtbjckaahoacbfaaGreatDoorSM21
namespace Go.Proofs.YtbjckaahoacbfaaGreatDoor.Abs
open mg (F2 eR Qf)
theorem Ahx {a n : Int} (h0 : 0 ≤ a) (h1 : a ≤ n) : mg.within a n = true := by unfold mg.within; simp [h0, h1]
theorem Anr {tok att x : Int} (t0 : 0 ≤ tok) (t1 : tok ≤ 1099511627776) (a0 : 0 ≤ att) (a1 : att ≤ 65535) (x0 : 0 ≤ x) (x1 : x ≤ 4294967295) : F2 ⟨1, x, tok, att, false, [], [], Bu⟩ = true := by
 show (true && (mg.within x 4294967295 && (mg.within tok 1099511627776 && (mg.within att 65535 && true)))) = true
 rw [Ahx t0 t1, Ahx a0 a1, Ahx x0 x1]; rfl
theorem Ak3 {tok att x : Int} (t0 : 0 ≤ tok) (t1 : tok ≤ 1099511627776) (a0 : 0 ≤ att) (a1 : att ≤ 65535) (x0 : 0 ≤ x) (x1 : x ≤ 4294967295) : F2 ⟨9, x, tok, att, false, [], [], Bu⟩ = true := by
 show (true && (mg.within x 4294967295 && (mg.within tok 1099511627776 && (mg.within att 65535 && true)))) = true
 rw [Ahx t0 t1, Ahx a0 a1, Ahx x0 x1]; rfl
theorem Ank {tok att x : Int} (ro : Bool) (t0 : 0 ≤ tok) (t1 : tok ≤ 1099511627776) (a0 : 0 ≤ att) (a1 : att ≤ 65535) (x0 : 0 ≤ x) (x1 : x ≤ 4294967295) : F2 ⟨2, x, tok, att, ro, [], [], Bu⟩ = true := by
 show (true && (mg.within x 4294967295 && (mg.within tok 1099511627776 && (mg.within att 65535 && true)))) = true
 rw [Ahx t0 t1, Ahx a0 a1, Ahx x0 x1]; rfl
theorem Ahu {tok x : Int} (t0 : 0 ≤ tok) (t1 : tok ≤ 1099511627776) (x0 : 0 ≤ x) (x1 : x ≤ 4294967295) : F2 ⟨10, x, tok, 0, false, [], [], Bu⟩ = true := by
 show (true && (mg.within x 4294967295 && (mg.within tok 1099511627776 && true))) = true
 rw [Ahx t0 t1, Ahx x0 x1]; rfl
theorem Aie {x : Int} (x0 : 0 ≤ x) (x1 : x ≤ 4294967295) : F2 ⟨7, x, 0, 0, false, [], [], Bu⟩ = true := by
 show (true && (mg.within x 4294967295 && true)) = true
 rw [Ahx x0 x1]; rfl
theorem Amh {x : Int} (x0 : 0 ≤ x) (x1 : x ≤ 4294967295) : F2 ⟨8, x, 0, 0, false, [], [], Bu⟩ = true := by
 show (true && (mg.within x 4294967295 && true)) = true
 rw [Ahx x0 x1]; rfl
section
variable {l : List Int} {n : Nat} {c : Cl}
theorem Pre.set (h : Pre l n c) (r : Bool) (s : A1) : Pre l n {c with Risk := r, St := s} :=
 ⟨h.cfg, h.ep, h.sq, h.at_, h.se, h.le, h.re, h.tk, h.ts, h.st, h.ou, h.ll, h.dc, h.tr, h.nb, h.lb⟩
theorem Pre.att (h : Pre l n c) {a : Int} (ha : 0 ≤ a ∧ a ≤ 3) : Pre l n {c with Attempt := a} :=
 ⟨h.cfg, h.ep, h.sq, ha, h.se, h.le, h.re, h.tk, h.ts, h.st, h.ou, h.ll, h.dc, h.tr, h.nb, h.lb⟩
theorem Pre.lft (h : Pre l n c) {a : Int} (ha : 0 ≤ a ∧ a ≤ 50) : Pre l n {c with Left := a} :=
 ⟨h.cfg, h.ep, h.sq, h.at_, h.se, ha, h.re, h.tk, h.ts, h.st, h.ou, h.ll, h.dc, h.tr, h.nb, h.lb⟩
theorem Pre.up (h : Pre l n c) {m : Nat} (hm : n ≤ m) (hb : m ≤ 1000000) : Pre l m c :=
 ⟨h.cfg, h.ep, h.sq, h.at_, h.se, h.le, h.re, h.tk, h.ts, h.st, h.ou, h.ll, h.dc, Nat.le_trans h.tr hm, hb, h.lb⟩
theorem Inv.up (h : Inv l n c) {m : Nat} (hm : n ≤ m) (hb : m ≤ 1000000) : Inv l m c := ⟨h.toPre.up hm hb, h.ph, h.wk, h.wi, h.rq, h.du⟩
theorem Pre.tok (h : Pre l n c) {t : Am} {ts : List Am} (ht : c.Tasks = t :: ts) : 0 ≤ t.Token ∧ t.Token ≤ 1099511627776 :=
 (h.ts t (by rw [ht]; exact List.mem_cons_self ..)).1.sane.1
theorem Pre.ask (h : Pre l n c) (h9 : c.Phase ≠ 9) (hd : Du c) {t : Am} {ts : List Am} (ht : c.Tasks = t :: ts) (ha : 0 < c.Attempt) : Inv l n (Alr c t) := by
 have htk := h.tok ht
 have hat := h.at_
 exact (h.ph h9 (p := 7) (by decide)).send ⟨by show (1 : Int) ≤ 7; omega, by show (7 : Int) ≤ 10; omega⟩ (fun _ => ⟨by show c.Tasks ≠ []; rw [ht]; simp, ha⟩) hd (fun x x0 x1 => Ak3 htk.1 htk.2 hat.1 (by show c.Attempt ≤ 65535; omega) x0 x1)
theorem Pre.begin (h : Pre l n c) (h9 : c.Phase ≠ 9) (hd : Du c) {t : Am} {ts : List Am} (ht : c.Tasks = t :: ts) (ha : 0 < c.Attempt) : Inv l n (V6 c t) := by
 have htk := h.tok ht
 have hat := h.at_
 exact ((h.ph h9 (p := 3) (by decide)).set false G4).send ⟨by show (1 : Int) ≤ 3; omega, by show (3 : Int) ≤ 10; omega⟩ (fun _ => ⟨by show c.Tasks ≠ []; rw [ht]; simp, ha⟩) hd (fun x x0 x1 => Ank _ htk.1 htk.2 hat.1 (by show c.Attempt ≤ 65535; omega) x0 x1)
theorem Pre.goOn (h : Pre l n c) (h9 : c.Phase ≠ 9) (hd : Du c) : Inv l n (U4 c) := by
 rcases Il c with hts | ⟨t, ts, hts⟩
 ·rw [show U4 c = {c with Phase := 0, Left := 0} from by unfold U4; split <;> simp_all]
  have hp := (h.ph h9 (p := 0) (by decide)).lft (a := 0) ⟨by decide, by decide⟩
  exact ⟨hp, ⟨by show (0 : Int) ≤ 0; omega, by show (0 : Int) ≤ 11; omega⟩, fun h1 _ => absurd (show (3 : Int) ≤ 0 from h1) (by omega), fun _ => hts, fun h1 => by have h1 : (2 ≤ (0 : Int) ∧ (0 : Int) ≤ 7) ∨ (0 : Int) = 9 := h1; omega, fun _ => hd⟩
 ·rw [show U4 c = if 0 < c.Attempt then Alr c t else V6 {c with Attempt := 1} t from by unfold U4; split <;> simp_all]
  split
  ·rename_i ha; exact h.ask h9 hd hts ha
  ·exact (h.att (a := 1) (by omega)).begin h9 hd hts (by show (0 : Int) < 1; omega)
theorem Pre.through (h : Pre l n c) (h9 : c.Phase ≠ 9) (hd : Du c) {t : Am} {ts : List Am} (ht : c.Tasks = t :: ts) (ha : 0 < c.Attempt) {code v : Int} (h1 : 1 ≤ code ∧ code ≤ 4) (hv : code = 4 → v ≠ 0) : Inv l n (Ns c t code v) := by
 have htk := h.tok ht
 have hp : Pre l n {c with Done := c.Done ++ [⟨t.Token, code, c.Attempt, v, if code = 1 then c.St.Regs else z8⟩], Phase := 9, Risk := false} :=
  ⟨h.cfg, h.ep, h.sq, h.at_, h.se, h.le, h.re, h.tk, h.ts, h.st, h.ou, by
   rw [← h.ll]
   unfold W
   dsimp only
   rw [if_pos rfl, if_neg h9, ht]
   simp, fun x hx => by
   rcases List.mem_append.1 hx with hx | hx
   ·exact h.dc x hx
   ·rw [List.mem_singleton] at hx; subst hx; exact h1, h.tr, h.nb, h.lb⟩
 exact hp.send ⟨by show (1 : Int) ≤ 9; omega, by show (9 : Int) ≤ 10; omega⟩ (fun _ => ⟨by show c.Tasks ≠ []; rw [ht]; simp, ha⟩) ⟨fun x hx => by
  rcases List.mem_append.1 hx with hx | hx
  ·exact hd.1 x hx
  ·rw [List.mem_singleton] at hx; subst hx; exact hv, hd.2⟩ (fun x x0 x1 => Ahu htk.1 htk.2 x0 x1)
theorem Pre.again (h : Pre l n c) (h9 : c.Phase ≠ 9) (hd : Du c) {t : Am} {ts : List Am} (ht : c.Tasks = t :: ts) (ha : 0 < c.Attempt) : Inv l n (Un c t) := by
 unfold Un
 have hat := h.at_
 split
 ·exact h.through h9 hd ht ha ⟨by decide, by decide⟩ (fun h => absurd h (by decide))
 ·have hw : wI (c.Attempt + 1) = c.Attempt + 1 := Dl (by omega) (by omega)
  have hp := (((h.ph h9 (p := 8) (by decide)).att (a := wI (c.Attempt + 1)) (by rw [hw]; omega)).lft (a := U9 (Ase c)) (Ak2 _)).set false c.St
  exact ⟨hp, ⟨by show (0 : Int) ≤ 8; omega, by show (8 : Int) ≤ 11; omega⟩, fun _ _ => ⟨by show c.Tasks ≠ []; rw [ht]; simp, by show 0 < wI (c.Attempt + 1); rw [hw]; omega⟩, fun h1 => by have h1 : (8 : Int) = 0 ∨ (8 : Int) = 11 := h1; omega, fun h1 => by have h1 : (2 ≤ (8 : Int) ∧ (8 : Int) ≤ 7) ∨ (8 : Int) = 9 := h1; omega, fun _ => hd⟩
theorem Pre.refused (h : Pre l n c) (h9 : c.Phase ≠ 9) (hd : Du c) {t : Am} {ts : List Am} (ht : c.Tasks = t :: ts) (ha : 0 < c.Attempt) (code : Int) : Inv l n (Ql c t code) := by
 unfold Ql
 split
 ·exact h.ask h9 hd ht ha
 ·exact h.again h9 hd ht ha
theorem Pre.cutV (h : Pre l n c) : Pre l n (cutV c) := by
 have hr := h.re
 have hw : wI (c.Resets + 1) = c.Resets + 1 := Dl (by omega) (by omega)
 exact ⟨h.cfg, h.ep, h.sq, h.at_, h.se, h.le, by show 0 ≤ Ail c ∧ Ail c ≤ 1001; unfold Ail; rw [hw]; split <;> omega, h.tk, h.ts, rfl, by show 0 ≤ 65536; omega, h.ll, h.dc, h.tr, h.nb, h.lb⟩
theorem Pre.lost (h : Pre l n c) (h9 : c.Phase ≠ 9) (hd : Du c) (he : c.Epoch < 65535) : Inv l n (Atb c) := by
 have hp := h.ph h9 (p := 1) (by decide)
 have h0 := h.ep
 have hw : wI (c.Epoch + 1) = c.Epoch + 1 := Dl (by omega) (by omega)
 exact ⟨⟨hp.cfg, by show 1 ≤ wI (c.Epoch + 1) ∧ wI (c.Epoch + 1) ≤ 65535; rw [hw]; omega, hp.sq, hp.at_, hp.se, ⟨by show (0 : Int) ≤ 0; omega, by show (0 : Int) ≤ 50; omega⟩, hp.re, hp.tk, hp.ts, hp.st, hp.ou, hp.ll, hp.dc, hp.tr, hp.nb, hp.lb⟩, ⟨by show (0 : Int) ≤ 1; omega, by show (1 : Int) ≤ 11; omega⟩, fun h1 _ => absurd (show (3 : Int) ≤ 1 from h1) (by omega), fun h1 => by have h1 : (1 : Int) = 0 ∨ (1 : Int) = 11 := h1; omega, fun h1 => by have h1 : (2 ≤ (1 : Int) ∧ (1 : Int) ≤ 7) ∨ (1 : Int) = 9 := h1; omega, fun _ => hd⟩
theorem Pre.pass (h : Pre l n c) (h9 : c.Phase = 9) {p : Int} (hp : p ≠ 9) : Pre l n {Ah3 c with Phase := p} := by
 have h8 := h.tk.1
 exact ⟨h.cfg, h.ep, h.sq, ⟨Int.le_refl _, by show (0 : Int) ≤ 3; omega⟩, h.se, h.le, h.re, ⟨by show (c.Tasks.drop 1).length ≤ 8; simp; omega, h.tk.2.sublist ((List.drop_sublist 1 c.Tasks).map _)⟩, fun t ht => h.ts t (List.mem_of_mem_drop ht), h.st, h.ou, by
  rw [← h.ll]; unfold W; dsimp only; rw [if_neg hp, if_pos h9]; rfl, h.dc, h.tr, h.nb, h.lb⟩
theorem Inv.lose (h : Inv l n c) (h11 : c.Phase ≠ 11) : Inv l n (Zk c) := by
 have hc := h.toPre.cutV
 have hd := h.du h11
 unfold Zk
 split
 ·exact hc.die
 split
 ·exact hc.die
 ·rename_i h1 h2
  have hd : Du (Go.Proofs.YtbjckaahoacbfaaGreatDoor.Abs.cutV c) := ⟨hd.1, by show Ail c ≤ 2; omega⟩
  split
  ·rename_i h9
   have hp := hc.pass (show (Go.Proofs.YtbjckaahoacbfaaGreatDoor.Abs.cutV c).Phase = 9 from h9) (p := 1) (by decide)
   exact hp.lost (by show (1 : Int) ≠ 9; omega) hd (by show c.Epoch < 65535; omega)
  ·rename_i h9
   exact hc.lost h9 hd (by show c.Epoch < 65535; omega)
theorem Inv.tasks (h : Inv l n c) (h1 : 3 ≤ c.Phase) (h2 : c.Phase ≤ 10) : ∃ t ts, c.Tasks = t :: ts := by
 rcases Il c with ht | ht
 ·exact absurd ht (h.wk h1 h2).1
 ·exact ht
theorem Pre.step (h : Pre l n c) (h9 : c.Phase ≠ 9) (hd : Du c) {t : Am} {ts : List Am} (ht : c.Tasks = t :: ts) (ha : 0 < c.Attempt) (hn : n + 1 ≤ 1000000) : Inv l (n + 1) (Adh c t) := by
 have hT := (h.ts t (by rw [ht]; exact List.mem_cons_self ..)).1
 have hne : c.Tasks ≠ [] := by rw [ht]; simp
 unfold Adh
 split
 ·rename_i hb
  exact (((h.ph h9 (p := 4) (by decide)).set c.Risk _).send ⟨by show (1 : Int) ≤ 4; omega, by show (4 : Int) ≤ 10; omega⟩ (fun _ => ⟨hne, ha⟩) hd (fun x x0 x1 => Al7 hT _ hb x0 x1)).up (by omega) hn
 split
 ·exact (((h.ph h9 (p := 6) (by decide)).set c.Risk _).send ⟨by show (1 : Int) ≤ 6; omega, by show (6 : Int) ≤ 10; omega⟩ (fun _ => ⟨hne, ha⟩) hd (fun x x0 x1 => Amh x0 x1)).up (by omega) hn
 ·have hi := (((h.ph h9 (p := 5) (by decide)).set c.Risk (Rw t.Prog c.St).2.1).send (r := ⟨7, 0, 0, 0, false, [], [], Bu⟩) ⟨by show (1 : Int) ≤ 5; omega, by show (5 : Int) ≤ 10; omega⟩ (fun _ => ⟨hne, ha⟩) hd (fun x x0 x1 => Aie x0 x1))
  split
  ·exact hi.up (by omega) hn
  ·have htr := h.tr
   exact ⟨⟨hi.cfg, hi.ep, hi.sq, hi.at_, hi.se, hi.le, hi.re, hi.tk, hi.ts, hi.st, hi.ou, hi.ll, hi.dc, by show (c.Tried ++ [_]).length ≤ n + 1; rw [List.length_append]; simp; omega, hn, hi.lb⟩, hi.ph, hi.wk, hi.wi, hi.rq, hi.du⟩
end
end Go.Proofs.YtbjckaahoacbfaaGreatDoor.Abs
