/- . -/
import Derived.Test.YtbjckaahoacbfaaGreatDoorSV21
namespace Go.Proofs.YtbjckaahoacbfaaGreatDoor.Abs
open mg (F2 eR Qf)
theorem Am1 (r : B2) : Jr r r = some true := by
 unfold Jr
 simp
theorem Akn (p : Cp) (h : p.Ops.length ≤ 1000000) : Oy p p = some true := by
 unfold Oy
 rw [if_neg (by simp), if_neg (by simp)]
 unfold N0
 rw [Anz p.Ops (fun _ => true) false (Jy p p) (by omega) (fun i x hx => by
  have hlt := (List.getElem?_eq_some_iff.1 hx).1
  unfold Jy
  rw [if_pos (decide_eq_true (by omega)), Ed, hx, Option.bind_some, Option.bind_some, Am1, Option.bind_some, Dl (by omega) (by omega)]
  simp) (by
  unfold Jy
  rw [if_neg (by rw [decide_eq_true_eq]; omega)])]
 rw [List.all_eq_true.2 (fun _ _ => rfl)]
 rfl
def Aq2 (t : Cq) : Prop := t.Tasks.length ≤ 1000000 ∧ t.Done.length ≤ 1000000 ∧ t.Tried.length ≤ 1000000 ∧ ∀ x ∈ t.Tasks, x.Prog.Ops.length ≤ 1000000
theorem Aic {t : Cq} (h : Aq2 t) : Kg t t = some true := by
 obtain ⟨h1, h2, h3, h4⟩ := h
 have e6 : Qx (Iq t t) fuel 0 = some (.inr ()) := by
  rw [Anz t.Tried (fun _ => true) false (Iq t t) (by omega) (fun i x hx => by
   have hlt := (List.getElem?_eq_some_iff.1 hx).1
   unfold Iq
   rw [if_pos (decide_eq_true (by omega)), Ed, hx, Option.bind_some, Option.bind_some, Dl (by omega) (by omega)]
   simp) (by
   unfold Iq
   rw [if_neg (by rw [decide_eq_true_eq]; omega)])]
  rw [List.all_eq_true.2 (fun _ _ => rfl)]
  rfl
 have e10 : Qx (Hs t t) fuel 0 = some (.inr ()) := by
  rw [Anz t.Done (fun _ => true) false (Hs t t) (by omega) (fun i x hx => by
   have hlt := (List.getElem?_eq_some_iff.1 hx).1
   unfold Hs
   rw [if_pos (decide_eq_true (by omega)), Ed, hx, Option.bind_some, Option.bind_some, Dl (by omega) (by omega)]
   simp) (by
   unfold Hs
   rw [if_neg (by rw [decide_eq_true_eq]; omega)])]
  rw [List.all_eq_true.2 (fun _ _ => rfl)]
  rfl
 have e14 : Qx (Hr t t) fuel 0 = some (.inr ()) := by
  rw [Anz t.Tasks (fun _ => true) false (Hr t t) (by omega) (fun i x hx => by
   have hlt := (List.getElem?_eq_some_iff.1 hx).1
   unfold Hr
   rw [if_pos (decide_eq_true (by omega)), Ed, hx, Option.bind_some, Option.bind_some, Option.bind_some, Option.bind_some, Akn _ (h4 x (List.mem_of_getElem? hx)), Option.bind_some, Dl (by omega) (by omega)]
   simp) (by
   unfold Hr
   rw [if_neg (by rw [decide_eq_true_eq]; omega)])]
  rw [List.all_eq_true.2 (fun _ _ => rfl)]
  rfl
 have er : L6 t.Req t.Req = some true := by unfold L6; simp
 have ei : O0 t.In t.In = some true := by unfold O0; simp
 have e1 : Lv t t () = some true := by
  unfold Lv
  rw [if_neg (by simp), if_neg (by simp), if_neg (by simp)]
  unfold Nv
  rw [e14]
  show Lr t t () = _
  unfold Lr
  rw [e10]
  show L5 t t () = _
  unfold L5
  rw [e6]
  rfl
 unfold Kg
 rw [er, ei, e1]
 simp
theorem Ahm {c : Cl} {s : Int × List Cf} {i : Nat} {t : Am} (hi : s.1 = (i : Int)) (ht : c.Tasks[i]? = some t) (hl : t.Prog.Ops.length ≤ 1000) : ∃ v, Ec (Ho c s) fuel (0, []) = some v ∧ v.length ≤ 1000 := by
 obtain ⟨v, hv, hr⟩ := Ft (f := Ho c s) (P := fun u => ∃ j : Nat, u.1 = (j : Int) ∧ j ≤ t.Prog.Ops.length ∧ u.2.length = j) (μ := fun u => t.Prog.Ops.length - u.1.toNat) (R := fun v => v.length ≤ 1000) (by
  rintro ⟨_, L⟩ ⟨j, rfl, hj, hL⟩
  have hL : L.length = j := hL
  unfold Ho
  dsimp only
  rw [hi, Ed, ht, Option.bind_some]
  rcases Nat.lt_or_ge j t.Prog.Ops.length with hlt | hge
  ·left
   rw [if_pos (decide_eq_true (by omega)), Option.bind_some, Ed, List.getElem?_eq_getElem hlt, Option.bind_some, if_pos (by simp; omega), Dl (by omega) (by omega)]
   exact ⟨_, rfl, ⟨j + 1, rfl, hlt, by simp; omega⟩, by dsimp only; omega⟩
  ·right
   rw [if_neg (by rw [decide_eq_true_eq]; omega)]
   exact ⟨_, rfl, by omega⟩) fuel (0, []) ⟨0, rfl, Nat.zero_le _, rfl⟩ (Gz (by show t.Prog.Ops.length - 0 ≤ _; omega))
 exact ⟨v, hv, hr⟩
theorem Amy {c : Cl} (hT : c.Tasks.length ≤ 8) (hts : ∀ t ∈ c.Tasks, t.Prog.Ops.length ≤ 1000) (hD : c.Done.length ≤ 1000000) (hX : c.Tried.length ≤ 1000000) : ∃ t, Dy c = some t ∧ Aq2 t := by
 obtain ⟨b3, h3, q3⟩ := Ft (f := Jg c) (P := fun u => ∃ j : Nat, u.1 = (j : Int) ∧ j ≤ c.Tasks.length ∧ u.2.length = j ∧ ∀ x ∈ u.2, x.Prog.Ops.length ≤ 1000) (μ := fun u => c.Tasks.length - u.1.toNat) (R := fun v => v.length ≤ 8 ∧ ∀ x ∈ v, x.Prog.Ops.length ≤ 1000) (by
  rintro ⟨_, L⟩ ⟨j, rfl, hj, hL, hx⟩
  have hL : L.length = j := hL
  have hx : ∀ x ∈ L, x.Prog.Ops.length ≤ 1000 := hx
  unfold Jg
  dsimp only
  rcases Nat.lt_or_ge j c.Tasks.length with hlt | hge
  ·left
   obtain ⟨v, hv, hvl⟩ := Ahm (s := ((j : Int), L)) rfl (List.getElem?_eq_getElem hlt) (hts _ (List.getElem_mem hlt))
   rw [if_pos (decide_eq_true (by omega)), Ed, List.getElem?_eq_getElem hlt, Option.bind_some, hv, Option.bind_some]
   unfold Lh
   dsimp only
   rw [Ed, List.getElem?_eq_getElem hlt, Option.bind_some, if_pos (by simp; omega), Dl (by omega) (by omega)]
   refine ⟨_, rfl, ⟨j + 1, rfl, hlt, by simp; omega, fun x hm => ?_⟩, by dsimp only; omega⟩
   rcases List.mem_append.1 hm with hm | hm
   ·exact hx x hm
   ·rw [List.mem_singleton] at hm; subst hm; exact hvl
  ·right
   rw [if_neg (by rw [decide_eq_true_eq]; omega)]
   exact ⟨_, rfl, by omega, hx⟩) fuel (0, []) ⟨0, rfl, Nat.zero_le _, rfl, fun x hx => by cases hx⟩ (Gz (by show c.Tasks.length - 0 ≤ _; omega))
 obtain ⟨b4, h4, q4⟩ := Ft (f := Je c) (P := fun u => ∃ j : Nat, u.1 = (j : Int) ∧ j ≤ c.Done.length ∧ u.2.length = j) (μ := fun u => c.Done.length - u.1.toNat) (R := fun v => v.length ≤ 1000000) (by
  rintro ⟨_, L⟩ ⟨j, rfl, hj, hL⟩
  have hL : L.length = j := hL
  unfold Je
  dsimp only
  rcases Nat.lt_or_ge j c.Done.length with hlt | hge
  ·left
   rw [if_pos (decide_eq_true (by omega)), Ed, List.getElem?_eq_getElem hlt, Option.bind_some, if_pos (by simp; omega), Dl (by omega) (by omega)]
   exact ⟨_, rfl, ⟨j + 1, rfl, hlt, by simp; omega⟩, by dsimp only; omega⟩
  ·right
   rw [if_neg (by rw [decide_eq_true_eq]; omega)]
   exact ⟨_, rfl, by omega⟩) fuel (0, []) ⟨0, rfl, Nat.zero_le _, rfl⟩ (Gz (by show c.Done.length - 0 ≤ _; omega))
 obtain ⟨b5, h5, q5⟩ := Ft (f := J0 c) (P := fun u => ∃ j : Nat, u.1 = (j : Int) ∧ j ≤ c.Tried.length ∧ u.2.length = j) (μ := fun u => c.Tried.length - u.1.toNat) (R := fun v => v.length ≤ 1000000) (by
  rintro ⟨_, L⟩ ⟨j, rfl, hj, hL⟩
  have hL : L.length = j := hL
  unfold J0
  dsimp only
  rcases Nat.lt_or_ge j c.Tried.length with hlt | hge
  ·left
   rw [if_pos (decide_eq_true (by omega)), Ed, List.getElem?_eq_getElem hlt, Option.bind_some, if_pos (by simp; omega), Dl (by omega) (by omega)]
   exact ⟨_, rfl, ⟨j + 1, rfl, hlt, by simp; omega⟩, by dsimp only; omega⟩
  ·right
   rw [if_neg (by rw [decide_eq_true_eq]; omega)]
   exact ⟨_, rfl, by omega⟩) fuel (0, []) ⟨0, rfl, Nat.zero_le _, rfl⟩ (Gz (by show c.Tried.length - 0 ≤ _; omega))
 unfold Dy Oo Pi
 rw [Option.bind_some, Option.bind_some, h3, Option.bind_some]
 unfold Me
 rw [h4, Option.bind_some]
 unfold Md
 rw [h5, Option.bind_some]
 exact ⟨_, rfl, by show b3.length ≤ _; omega, q4, q5, fun x hx => by have := q3.2 x hx; omega⟩
theorem An1 {l : List Int} {n : Nat} {c : Cl} (h : Inv l n c) : ∃ t, Dy c = some t ∧ Aq2 t :=
 Amy h.tk.1 (fun t ht => (h.ts t ht).1.2) h.fit.dn h.fit.tr
theorem Aml {p : List UInt8} (hp : p.length ≤ 512) : P3 Xc (fr p) = (Xc, [p], 0) := by
 have ha : Ai8 (Xc.Buf ++ fr p) [p] [] 0 := ⟨by simp [Xc], fun q hq => by rw [List.mem_singleton] at hq; subst hq; exact hp, .inl ⟨rfl, rfl⟩⟩
 unfold P3
 rw [Alo Xc (fr p) rfl rfl (by show 0 + (fr p).length ≤ _; rw [V7]; omega) ha]
 rfl
theorem Agu {c : Cl} (hi : c.In = Xc) (hg : ¬ (c.Phase = 1 ∨ c.Phase = 11)) {p : List UInt8} (hp : p.length ≤ 512) : Tp c (fr p) = Zv c p := by
 have e : ({c with In := Xc} : Cl) = c := by rw [← hi]
 unfold Tp
 rw [if_neg hg, hi, Aml hp]
 dsimp only
 rw [e]
 unfold Avg
 rw [if_neg (fun h => h.1 rfl)]
 show Afr c p = _
 unfold Afr
 rw [if_neg hg]
theorem Amw {g : Ba} (h : mg.saneRep g = true) : Aj2 (mg.eS5 (mg.tupRep g)) = (g, 0) := by
 unfold Aj2
 rw [mg.readRep_back h]
 rfl
theorem Ag5 {c : Cl} {g : Ba} (h : mg.saneRep g = true) (hk : ¬ (g.Kind = c.Req.Kind ∧ g.Seq = c.Req.Seq)) : Zv c (mg.eS5 (mg.tupRep g)) = c := by
 unfold Zv
 rw [Amw h, if_neg (fun h => h rfl), if_neg hk]
theorem Wo {c : Cl} (hl : Ad1 c) (hb : c.Phase ≠ 11 → c.In.Buf = []) {g : Ba} (h : mg.saneRep g = true) (hk : ¬ (g.Kind = c.Req.Kind ∧ g.Seq = c.Req.Seq)) : Tp c (fr (mg.eS5 (mg.tupRep g))) = c := by
 by_cases hg : c.Phase = 1 ∨ c.Phase = 11
 ·unfold Tp; rw [if_pos hg]
 ·have hi : c.In = Xc := by
   have h1 := hl.1 (by omega)
   have h2 := hb (by omega)
   cases hc : c.In with
   | mk b d => rw [hc] at h1 h2; dsimp only at h1 h2; rw [h1, h2]; rfl
  rw [Agu hi hg (mg.eS5_len h).2, Ag5 h hk]
theorem Aim : Ad1 ⟨pl, [], 1, 1, 0, 0, 0, 0, 0, false, G4, Pl, ⟨[], 0⟩, [], [], []⟩ := ⟨fun _ => rfl, fun _ => rfl⟩
theorem Ak1 {l l' : List Int} {n n' : Nat} {c d : Cl} (hc : Inv l n c) (hd : Inv l' n' d) (e : d = c) : ((Dy d).bind fun x => (Dy c).bind fun y => (Kg x y).bind fun z => some z) = some true := by
 subst e
 obtain ⟨t, ht, hs⟩ := An1 hc
 rw [ht, Option.bind_some, Option.bind_some, Aic hs]
 rfl
theorem Akc {l : List Int} {n : Nat} {c : Cl} (hI : Inv l n c) (hL : Ad1 c) (hn : n + 4000 ≤ 1000000) {a1 : G3} (hs : Amc a1) (a2 a3 : Int) : Hk a1 a2 a3 true c = some true := by
 unfold Hk
 generalize hg : (⟨wI ((BitVec.ofInt 64 a2 &&& BitVec.ofInt 64 15).toNat : Int), wI ((BitVec.ofInt 64 a3 &&& BitVec.ofInt 64 255).toNat : Int), a1.Reply.Code, a1.Reply.N, a1.Reply.Found, a1.Reply.Val, a1.Reply.List⟩ : Ba) = g
 have gk : g.Kind = wI ((BitVec.ofInt 64 a2 &&& BitVec.ofInt 64 15).toNat : Int) := by rw [← hg]
 have gs : g.Seq = wI ((BitVec.ofInt 64 a3 &&& BitVec.ofInt 64 255).toNat : Int) := by rw [← hg]
 have gl : g.List.length ≤ 20 := by rw [← hg]; exact hs.2.1
 rw [mg.putRep_m _ (by omega), Option.bind_some]
 cases hsr : mg.saneRep g with
 | false =>
  rw [if_neg (by decide)]
  dsimp only
  rw [Aii _ _ (by simp) (by simp), Option.bind_some, if_pos (by rfl)]
 | true =>
  have hp := (mg.eS5_len hsr).2
  rw [if_pos rfl]
  dsimp only
  rw [Aii _ _ (by simp) hp, Option.bind_some, if_neg (nn (by rfl)), if_neg (nn (by rfl))]
  by_cases hb : 0 < (c.In.Buf.length : Int)
  ·rw [if_pos (decide_eq_true hb)]
  rw [if_neg (by rw [decide_eq_true_eq]; exact hb)]
  have hb0 : c.In.Buf = [] := List.length_eq_zero_iff.1 (by omega)
  unfold Jf
  dsimp only
  rw [List.nil_append]
  have hfl : (fr (mg.eS5 (mg.tupRep g))).length ≤ 1000 := by rw [V7]; omega
  obtain ⟨d1, dI⟩ := Agq hI (by omega) _ hfl
  rw [d1, Option.bind_some]
  obtain ⟨d2, dI2⟩ := Agq dI (by omega) _ hfl
  rw [d2, Option.bind_some, ← gk, ← gs]
  by_cases k1 : g.Kind = c.Req.Kind
  ·rw [decide_eq_true k1, if_neg (by decide)]
   by_cases k2 : g.Seq = c.Req.Seq
   ·rw [decide_eq_true k2, if_neg (by decide)]
    unfold Iy
    by_cases q1 : (Tp c (fr (mg.eS5 (mg.tupRep g)))).Phase = c.Phase
    ·rw [decide_eq_true q1, if_neg (by decide)]
    rw [decide_eq_false q1, if_pos (by rfl)]
    by_cases q2 : (Tp c (fr (mg.eS5 (mg.tupRep g)))).Req.Seq = c.Req.Seq
    ·rw [decide_eq_true q2, if_neg (by decide)]
    rw [decide_eq_false q2, if_pos (by rfl), if_pos rfl]
    have hLd := Yr hI hL _ hfl
    have hbd : (Tp c (fr (mg.eS5 (mg.tupRep g)))).Phase ≠ 11 → (Tp c (fr (mg.eS5 (mg.tupRep g)))).In.Buf = [] := fun h11 => by
     by_cases hgn : c.Phase = 1 ∨ c.Phase = 11
     ·exact absurd (show (Tp c (fr (mg.eS5 (mg.tupRep g)))).Phase = c.Phase by unfold Tp; rw [if_pos hgn]) q1
     ·have hi : c.In = Xc := by
       have h1 := hL.1 (by omega)
       cases hc : c.In with
       | mk b d => rw [hc] at h1 hb0; dsimp only at h1 hb0; rw [h1, hb0]; rfl
      rw [Agu hi hgn hp]
      rcases (Adu (s := c.In) (c := c) ⟨.inl rfl, fun h1 => absurd h1 (by omega)⟩ (mg.eS5 (mg.tupRep g))).1 with e | e
      ·rw [e, hi]; rfl
      ·rw [e]; rfl
    exact Ak1 dI dI2 (Wo hLd hbd hsr (fun h => q2 (by rw [← h.2, k2])))
   ·rw [decide_eq_false k2, if_pos (by rfl), if_pos rfl]
    exact Ak1 hI dI (Wo hL (fun _ => hb0) hsr (fun h => k2 h.2))
  ·rw [decide_eq_false k1, if_pos (by rfl), if_pos rfl]
   exact Ak1 hI dI (Wo hL (fun _ => hb0) hsr (fun h => k1 h.1))
theorem Xs (a0 : List G3) (a1 : G3) (a2 a3 : Int) : Li a0 a1 a2 a3 = some true := by
 unfold Li
 obtain ⟨v, hv, hsm⟩ := Aj3 a0
 obtain ⟨w, hw, hsw⟩ := Aj3 [a1]
 rw [Aqf, Option.bind_some, hv, Option.bind_some, hw]
 cases v with
 | false => rfl
 | true =>
  cases w with
  | false => rfl
  | true =>
   obtain ⟨hx, hs⟩ := hsm rfl
   have hs1 := (hsw rfl).2 a1 (by simp)
   rw [if_neg (by decide), Option.bind_some, if_neg (by decide)]
   unfold I8
   rw [show O3 = some pl from rfl, Option.bind_some]
   have hnew : Mj pl = some (⟨pl, [], 1, 1, 0, 0, 0, 0, 0, false, G4, Pl, ⟨[], 0⟩, [], [], []⟩, 0) := by
    unfold Mj
    rw [Ao1, Option.bind_some, if_neg (by decide)]
   rw [hnew, Option.bind_some, if_neg (by decide)]
   obtain ⟨d, hd, l, n, hI, hL, hn⟩ := Ft (f := Gx a0) (P := fun s => ∃ (l : List Int) (i : Nat), i ≤ a0.length ∧ s.1 = (i : Int) ∧ Inv l (i * 2000) s.2 ∧ Ad1 s.2 ∧ l.length ≤ i) (μ := fun s => a0.length - s.1.toNat) (R := fun d => ∃ (l : List Int) (n : Nat), Inv l n d ∧ Ad1 d ∧ n ≤ 900000) (by
    rintro ⟨_, c⟩ ⟨l, i, hi, rfl, hI, hL, hn⟩
    have hI : Inv l (i * 2000) c := hI
    have hL : Ad1 c := hL
    unfold Gx
    dsimp only
    rcases Nat.lt_or_ge i a0.length with hlt | hge
    ·left
     have hsi := hs _ (List.getElem_mem hlt)
     obtain ⟨b1, b2, b3⟩ := Aw3 hI (by omega) (by omega) hsi
     have hLa := Am7 hI hL hsi
     rw [if_pos (decide_eq_true (by omega)), Ed, List.getElem?_eq_getElem hlt, Option.bind_some, b1, Option.bind_some, Dl (by omega) (by omega)]
     have hm : i * 2000 + 2000 = (i + 1) * 2000 := by omega
     rw [hm] at b2 b3
     refine ⟨_, rfl, ?_, by dsimp only; omega⟩
     by_cases hok : (a0[i]).What ≤ 1 ∧ Yn c ⟨(a0[i]).Task.Token, oG (a0[i]).Task.Prog⟩
     ·exact ⟨_, i + 1, hlt, rfl, b2 hok, hLa, by simp; omega⟩
     ·exact ⟨l, i + 1, hlt, rfl, (b3 hok).1, hLa, by omega⟩
    ·right
     rw [if_neg (by rw [decide_eq_true_eq]; omega)]
     exact ⟨_, rfl, l, _, hI, hL, by omega⟩) fuel (0, ⟨pl, [], 1, 1, 0, 0, 0, 0, 0, false, G4, Pl, ⟨[], 0⟩, [], [], []⟩) ⟨[], 0, Nat.zero_le _, rfl, Inv.zero, Aim, Nat.le_refl _⟩ (Gz (by show a0.length - 0 ≤ _; omega))
   rw [hd, Option.bind_some]
   exact Akc hI hL (by omega) hs1 a2 a3
end Go.Proofs.YtbjckaahoacbfaaGreatDoor.Abs
