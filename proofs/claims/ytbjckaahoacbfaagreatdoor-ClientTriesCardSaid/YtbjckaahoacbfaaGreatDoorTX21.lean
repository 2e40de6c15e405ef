/-
 What is committed was tried.
-/
import Derived.Test.YtbjckaahoacbfaaGreatDoorTW21
set_option linter.unusedVariables false
set_option linter.unusedSimpArgs false
namespace Go.Proofs.YtbjckaahoacbfaaGreatDoor.Abs
open mg (Fdz eR Oi)
section
variable {l : List Int} {n : Nat} {c : Cl}
theorem Tr.onV (h : Tr c) (hI : Inv l n c) (hd : l.Nodup) (h11 : c.Phase ≠ 11) (r : Bf) (hr : mg.saneRep r = true) : Tr (onV c r) := by
 have hN : 0 ≤ r.N := by
  have := hr
  unfold mg.saneRep mg.saneRep1 mg.within at this
  simp at this
  omega
 by_cases p2 : c.Phase = 2
 ·unfold Go.Proofs.YtbjckaahoacbfaaGreatDoor.Abs.onV
  rw [if_pos p2]
  unfold Tj
  split
  ·exact h.lose h11
  ·exact h.goOn hI.toPre hd (by omega) h11
 rcases Gp c with ht | ⟨t, ts, ht⟩
 ·have : Go.Proofs.YtbjckaahoacbfaaGreatDoor.Abs.onV c r = c := by unfold Go.Proofs.YtbjckaahoacbfaaGreatDoor.Abs.onV; rw [if_neg p2]; split <;> simp_all
  rw [this]; exact h
 rw [Y7 ht p2]
 split
 ·rename_i p3
  have ha := (hI.wk (by omega) (by omega)).2
  unfold Xp
  split
  ·unfold Oy
   split
   ·exact h.ask (by omega) h11 t
   ·exact h.again hI.toPre hd (by omega) ht ha
  ·exact h.step (.inl p3) ht ha
 split
 ·rename_i p4
  have ha := (hI.wk (by omega) (by omega)).2
  unfold Pk
  split
  ·exact h.again hI.toPre hd (by omega) ht ha
  split
  ·exact h.again hI.toPre hd (by omega) ht ha
  ·obtain ⟨hr, -⟩ := h.t4 (by omega)
   exact Tr.step (c := {c with St := (Al2 t.Prog c.St r).1}) ⟨⟨h.t1, h.t2, h.t3⟩, h.t4, fun h1 => (by rw [show c.Risk = true from h1] at hr; cases hr), h.t6, h.t7⟩ (.inr p4) ht ha
 split
 ·rename_i p5
  have ha := (hI.wk (by omega) (by omega)).2
  unfold Yb
  split
  ·unfold Oy
   split
   ·exact h.ask (by omega) h11 t
   ·exact h.again hI.toPre hd (by omega) ht ha
  ·refine h.through ht (fun _ => ⟨hN, ?_⟩)
   obtain ⟨t', ts', ht', k⟩ := h.t5 (h.t6 p5) h11
   rw [ht] at ht'
   obtain ⟨rfl, rfl⟩ := List.cons.inj ht'
   exact k
 split
 ·exact h.through ht (fun h => absurd h (by decide))
 split
 ·rename_i p7
  have ha := (hI.wk (by omega) (by omega)).2
  unfold Ad0
  split
  ·have hq := h.phase (by omega) h11 (p := 10) ⟨by decide, by decide, by decide, by decide, by decide⟩
   exact ⟨⟨hq.t1, hq.t2, hq.t3⟩, hq.t4, hq.t5, hq.t6, hq.t7⟩
  split
  ·split
   ·rename_i hk
    refine h.through ht (fun _ => ⟨hN, ?_⟩)
    obtain ⟨t', ts', ht', k⟩ := h.t5 hk h11
    rw [ht] at ht'
    obtain ⟨rfl, rfl⟩ := List.cons.inj ht'
    exact k
   ·exact h.through ht (fun h => absurd h (by decide))
  split
  ·exact h.through ht (fun h => absurd h (by decide))
  ·exact h.again hI.toPre hd (by omega) ht ha
 split
 ·rename_i p9
  unfold Xz
  have hp := hI.pass p9 (p := 0) (by decide)
  exact (h.pass p9 (p := 0) ⟨by decide, by decide, by decide, by decide, by decide⟩).goOn hp hd (by show (0 : Int) ≠ 9; omega) (by show (0 : Int) ≠ 11; omega)
 ·exact h
theorem Tr.take (h : Tr c) (hI : Inv l n c) (hd : l.Nodup) (h11 : c.Phase ≠ 11) (b : List UInt8) (hb : b.length ≤ 1000000) : Tr (Abd c b) := by
 unfold Abd
 split
 ·exact h.lose h11
 ·rename_i h0
  split
  ·exact h.onV hI hd h11 _ ((Anv b hb).2 (by omega))
  ·exact h
theorem Tr.eats (hd : l.Nodup) : ∀ (ps : List (List UInt8)) {n : Nat} {c : Cl}, Tr c → Inv l n c → n + ps.length ≤ 1000000 → (∀ p ∈ ps, p.length ≤ 512) → Tr (ps.foldl Ah7 c)
 | [], _, _, h, _, _, _ => h
 | p :: ps, n, c, h, hI, hn, hp => by
  have hn' : n + (ps.length + 1) ≤ 1000000 := hn
  have hpl := hp p (List.mem_cons_self ..)
  refine Tr.eats hd ps ?_ (hI.eat (by omega) p (by omega)) (by omega) (fun q hq => hp q (List.mem_cons_of_mem _ hq))
  unfold Ah7
  split
  ·exact h
  ·exact h.take hI hd (by omega) p (by omega)
theorem Tr.data (h : Tr c) (hI : Inv l n c) (hd : l.Nodup) (hn : n + 2000 ≤ 1000000) (b : List UInt8) (hb : b.length ≤ 1000) : Tr (Abr c b) := by
 unfold Abr
 split
 ·exact h
 obtain ⟨f1, f2, f3, f4⟩ := Ali hI.st hb
 have hi := hI.inS f2
 have hk := Tr.eats hd (Ve c.In b).2.1 (c := {c with In := (Ve c.In b).1}) ⟨⟨h.t1, h.t2, h.t3⟩, h.t4, h.t5, h.t6, h.t7⟩ hi (by omega) f4
 unfold As7
 split
 ·rename_i he
  exact hk.lose (fun h => he.2 (.inr h))
 ·exact hk
theorem Tr.due (h : Tr c) (hI : Inv l n c) (h11 : c.Phase ≠ 11) : Tr (Aj0 c) := by
 have hs : Tr (I7 c) := by
  unfold I7
  split
  ·exact h.lose h11
  split
  ·exact h.toTrW.die
  ·exact Tr.lay ⟨⟨h.t1, h.t2, h.t3⟩, h.t4, h.t5, h.t6, h.t7⟩
 rcases Gp c with ht | ⟨t, ts, ht⟩
 ·rw [Aku ht]; exact hs
 ·rw [Adp ht]
  split
  ·rename_i p8
   exact Tr.begin h.toTrW (by omega) t (h.t4 (by omega)).2
  split
  ·exact h.ask (by omega) h11 t
  ·exact hs
theorem Tr.tick (h : Tr c) (hI : Inv l n c) {k : Int} (hk : 0 ≤ k ∧ k ≤ 1073741824) : Tr (Aao c k) := by
 have hl : Tr {c with Left := Zj c k} := ⟨⟨h.t1, h.t2, h.t3⟩, h.t4, h.t5, h.t6, h.t7⟩
 unfold Aao
 split
 ·exact h
 split
 ·exact hl.due (hI.left hk) (by show c.Phase ≠ 11; omega)
 ·exact hl
theorem Tr.conn (h : Tr c) (h1 : c.Phase = 1) : Tr (Aiy c) := by
 have hq := h.phase (by omega) (by omega) (p := 2) ⟨by decide, by decide, by decide, by decide, by decide⟩
 exact Tr.send (c := {c with Phase := 2, Seq := 0}) ⟨⟨hq.t1, hq.t2, hq.t3⟩, hq.t4, hq.t5, hq.t6, hq.t7⟩ _
theorem Tr.sub (h : Tr c) (hI : Inv l n c) {t : As} (hs : Vn c t) (hb : l.length < 1000) (hd : (l ++ [t.Token]).Nodup) : Tr (Als c t) := by
 have hm : Tr (Xb c t) := by
  have ext : ∀ u us, c.Tasks = u :: us → (Xb c t).Tasks = u :: (us ++ [t]) := fun u us hu => by unfold Xb; dsimp only; rw [hu]; rfl
  refine ⟨⟨h.t1, h.t2, fun y hy => (h.t3 y hy).imp id fun ⟨h1, h2, u, us, hu, k⟩ => ⟨h1, h2, u, us ++ [t], ext u us hu, k⟩⟩, fun h1 => ⟨(h.t4 h1).1, fun y hy u us hu he => ?_⟩, fun h1 h2 => ?_, h.t6, h.t7⟩
  ·have h1 : c.Phase = 3 ∨ c.Phase = 4 ∨ c.Phase = 8 := h1
   obtain ⟨w, ws, hw⟩ := hI.tasks (by omega) (by omega)
   rw [ext w ws hw] at hu
   obtain ⟨rfl, -⟩ := List.cons.inj hu
   exact (h.t4 h1).2 y hy w ws hw he
  ·obtain ⟨u, us, hu, k⟩ := h.t5 h1 h2
   exact ⟨u, us ++ [t], ext u us hu, k⟩
 unfold Als
 split
 ·rename_i p0
  exact hm.goOn (Af1 hI hs hb) hd (by show c.Phase ≠ 9; omega) (by show c.Phase ≠ 11; omega)
 ·exact hm
theorem Tr.act (h : Tr c) (hI : Inv l n c) (hd : l.Nodup) (hn : n + 2000 ≤ 1000000) (hb : l.length < 1000) {o : Ja} (hs : Ait o) (ht : o.Task.Token ∉ l) : Tr (Anl c o) := by
 obtain ⟨s1, s2, s3⟩ := hs
 unfold Anl
 split
 ·split
  ·rename_i hok
   exact h.sub hI hok hb (by
    rw [List.nodup_append]
    exact ⟨hd, by simp, fun a ha b hb => by simp at hb; rw [hb]; exact fun he => ht (he ▸ ha)⟩)
  ·exact h
 split
 ·split
  ·rename_i p1; exact h.conn p1
  ·exact h
 split
 ·unfold Agz
  split
  ·exact h
  ·exact h.lose (by omega)
 split
 ·exact h.data hI hd hn _ (All c o.Reply s2).2
 split
 ·exact h.data hI hd hn _ (by omega)
 split
 ·split
  ·rename_i hk; exact h.tick hI hk
  ·exact h
 ·exact ⟨⟨h.t1, h.t2, h.t3⟩, h.t4, h.t5, h.t6, h.t7⟩
end
end Go.Proofs.YtbjckaahoacbfaaGreatDoor.Abs
