/- . -/
import Derived.Test.YtbjckaahoacbfaaGreatDoorSR21
set_option linter.unusedVariables false
set_option linter.unusedSimpArgs false
namespace Go.Proofs.YtbjckaahoacbfaaGreatDoor.Abs
open mg (F2 eR Qf)
theorem Aqf : Qk = some true := by decide +kernel
def oO (o : Kh) : B9 := ⟨o.What, o.A, o.B, o.N, o.Key, o.Rng⟩
def oG (p : Cp) : Cv := ⟨p.RO, p.Ops.map oO⟩
theorem Alc (p : Cp) (h : p.Ops.length ≤ 1000000) : L3 p = some (oG p) := by
 unfold L3
 obtain ⟨v, hv, rfl⟩ := Ft (f := I6 p) (P := fun s => ∃ i : Nat, i ≤ p.Ops.length ∧ s = ((i : Int), (p.Ops.take i).map oO)) (μ := fun s => p.Ops.length - s.1.toNat) (R := fun v => v = p.Ops.map oO) (by
  rintro _ ⟨i, hi, rfl⟩
  unfold I6
  dsimp only
  rcases Nat.lt_or_ge i p.Ops.length with hlt | hge
  ·left
   rw [if_pos (decide_eq_true (by omega)), Ed, List.getElem?_eq_getElem hlt, Option.bind_some, if_pos (by simp; omega), Dl (by omega) (by omega)]
   exact ⟨_, rfl, ⟨i + 1, hlt, by rw [List.take_succ_eq_append_getElem hlt, List.map_append]; rfl⟩, by dsimp only; omega⟩
  ·right
   rw [if_neg (by rw [decide_eq_true_eq]; omega)]
   exact ⟨_, rfl, by rw [List.take_of_length_le hge]⟩) fuel (0, []) ⟨0, Nat.zero_le _, rfl⟩ (Gz (by dsimp only; omega))
 rw [hv]
 rfl
theorem At1 (p : Cp) : (oG p).Ops.length = p.Ops.length := by unfold oG; simp
theorem Asl (r : Ij) : ∃ v, Hq r = some v ∧ (v = true → r.List.length ≤ 20) := by
 unfold Hq
 split
 ·exact ⟨_, rfl, fun h => by cases h⟩
 by_cases h2 : (20 : Int) < r.List.length
 ·rw [if_pos (decide_eq_true h2)]; exact ⟨_, rfl, fun h => by cases h⟩
 rw [if_neg (by rw [decide_eq_true_eq]; exact h2)]
 unfold Kj
 rw [Anz r.List (fun x => !decide (100 < (x.Key.length : Int)) && !decide (100 < (x.Val.length : Int))) false (G5 r) (by omega) (fun i x hx => by
  have hlt := (List.getElem?_eq_some_iff.1 hx).1
  unfold G5
  rw [if_pos (decide_eq_true (by omega)), Ed, hx, Option.bind_some, Option.bind_some, Dl (by omega) (by omega)]
  cases decide (100 < (x.Key.length : Int)) <;> cases decide (100 < (x.Val.length : Int)) <;> rfl) (by
  unfold G5
  rw [if_neg (by rw [decide_eq_true_eq]; omega)])]
 split <;> exact ⟨_, rfl, fun _ => by omega⟩
def Amc (a : G3) : Prop := a.Task.Prog.Ops.length ≤ 40 ∧ a.Reply.List.length ≤ 20 ∧ a.Bytes.length ≤ 300
theorem Aj3 (xs : List G3) : ∃ v, Ng xs = some v ∧ (v = true → xs.length ≤ 80 ∧ ∀ a ∈ xs, Amc a) := by
 unfold Ng
 by_cases h1 : (80 : Int) < xs.length
 ·rw [if_pos (decide_eq_true h1)]; exact ⟨_, rfl, fun h => by cases h⟩
 rw [if_neg (by rw [decide_eq_true_eq]; exact h1)]
 rw [Anz xs (fun a => (M9 a.Task.Prog).getD false && ((Hq a.Reply).getD false && !decide (300 < (a.Bytes.length : Int)))) false (Js xs) (by omega) (fun i x hx => by
  have hlt := (List.getElem?_eq_some_iff.1 hx).1
  unfold Js
  obtain ⟨u, hu, -⟩ := pg.few_m x.Task.Prog
  obtain ⟨v, hv, -⟩ := Asl x.Reply
  rw [if_pos (decide_eq_true (by omega)), Ed, hx, Option.bind_some, Option.bind_some, Option.bind_some, hu, hv, Option.bind_some, Option.bind_some, Dl (by omega) (by omega)]
  cases u <;> cases v <;> cases decide (300 < (x.Bytes.length : Int)) <;> rfl) (by
  unfold Js
  rw [if_neg (by rw [decide_eq_true_eq]; omega)])]
 cases ha : xs.all (fun a => (M9 a.Task.Prog).getD false && ((Hq a.Reply).getD false && !decide (300 < (a.Bytes.length : Int)))) with
 | true => exact ⟨true, rfl, fun _ => ⟨by omega, fun a h => by
   have := List.all_eq_true.1 ha a h
   obtain ⟨u, hu, hu2⟩ := pg.few_m a.Task.Prog
   obtain ⟨v, hv, hv2⟩ := Asl a.Reply
   rw [hu, hv] at this
   simp only [Option.getD_some, Bool.and_eq_true, Bool.not_eq_true', decide_eq_false_iff_not] at this
   exact ⟨(hu2 this.1).1, hv2 this.2.1, by omega⟩⟩⟩
 | false => exact ⟨false, rfl, fun h => by cases h⟩
def Amu (c : Cl) (r : Ij) : List UInt8 := (Gi c r).getD []
theorem Ape (c : Cl) (r : Ij) (h : r.List.length ≤ 20) : Gi c r = some (Amu c r) ∧ (Amu c r).length ≤ 1000 := by
 have : ∃ b, Gi c r = some b ∧ b.length ≤ 1000 := by
  unfold Gi
  rw [mg.putRep_m _ (by show r.List.length ≤ 1000000; omega), Option.bind_some]
  split
  ·rename_i hs
   have hl := (mg.eS5_len hs).2
   rw [Aii _ _ (by simp) hl, Option.bind_some]
   exact ⟨_, rfl, by show ([] ++ fr _).length ≤ 1000; rw [List.nil_append, V7]; omega⟩
  ·rw [Aii _ _ (by simp) (by simp), Option.bind_some]
   exact ⟨_, rfl, by show ([] ++ fr _).length ≤ 1000; rw [List.nil_append, V7]; simp⟩
 obtain ⟨b, hb, hl⟩ := this
 unfold Amu
 rw [hb]
 exact ⟨rfl, hl⟩
open Classical in
noncomputable def Aqk (c : Cl) (o : G3) : Cl :=
 if o.What ≤ 1 then (if Yn c ⟨o.Task.Token, oG o.Task.Prog⟩ then Asf c ⟨o.Task.Token, oG o.Task.Prog⟩ else c)
 else if o.What = 2 then (if c.Phase = 1 then Aqs c else c)
 else if o.What = 3 then Aju c
 else if o.What ≤ 8 then Tp c (Amu c o.Reply)
 else if o.What = 9 then Tp c o.Bytes
 else if o.What ≤ 11 then (if 0 ≤ o.N ∧ o.N ≤ 1073741824 then Ael c o.N else c)
 else Ajs c
open Classical in
theorem Aw3 {l : List Int} {n : Nat} {c : Cl} (h : Inv l n c) (hn : n + 2000 ≤ 1000000) (hb : l.length < 1000) {o : G3} (hs : Amc o) :
  O2 c o = some (Aqk c o) ∧ (o.What ≤ 1 ∧ Yn c ⟨o.Task.Token, oG o.Task.Prog⟩ → Inv (l ++ [o.Task.Token]) (n + 2000) (Aqk c o)) ∧ (¬ (o.What ≤ 1 ∧ Yn c ⟨o.Task.Token, oG o.Task.Prog⟩) → Inv l (n + 2000) (Aqk c o) ∧ (o.What ≤ 1 → Aqk c o = c)) := by
 obtain ⟨s1, s2, s3⟩ := hs
 unfold O2 Aqk
 by_cases w1 : o.What ≤ 1
 ·rw [if_pos (decide_eq_true w1), if_pos w1, Alc _ (by omega), Option.bind_some]
  have hsb := Aw6 h (t := ⟨o.Task.Token, oG o.Task.Prog⟩) (by show (oG _).Ops.length ≤ 1000; rw [At1]; omega)
  by_cases hok : Yn c ⟨o.Task.Token, oG o.Task.Prog⟩
  ·rw [if_pos hok]
   refine ⟨?_, fun _ => (Arm h hok hb).up (by omega) hn, fun hx => absurd ⟨w1, hok⟩ hx⟩
   rcases hsb with ⟨x, e, he, hx⟩ | ⟨-, hx⟩
   ·exfalso
    obtain ⟨k1, k2, k3, k4⟩ := hok
    have : D1 c ⟨o.Task.Token, oG o.Task.Prog⟩ = D1 c ⟨o.Task.Token, oG o.Task.Prog⟩ := rfl
    unfold D1 at hx
    rw [Ti h, Option.bind_some, if_neg (by decide), k1.1, Option.bind_some, if_neg (by decide), if_neg (by rw [decide_eq_true_eq]; exact k2), Acx (by omega) k3, Option.bind_some, if_neg (by decide), if_neg (by rw [decide_eq_true_eq]; omega)] at hx
    obtain ⟨v4, -, hx⟩ := Ag hx
    split at hx
    ·obtain ⟨v6, -, hx⟩ := Ag hx
     have := congrArg Prod.snd (Option.some.inj hx)
     exact he this.symm
    ·have := congrArg Prod.snd (Option.some.inj hx)
     exact he this.symm
   ·rw [hx, Option.bind_some, if_pos (by rfl)]
  ·rw [if_neg hok]
   refine ⟨?_, fun hx => absurd hx.2 hok, fun _ => ⟨h.up (by omega) hn, fun _ => rfl⟩⟩
   rcases hsb with ⟨x, e, he, hx⟩ | ⟨hx, -⟩
   ·rw [hx, Option.bind_some, if_neg (by rw [decide_eq_true_eq]; exact he)]
   ·exact absurd hx hok
 have hno : ¬ (o.What ≤ 1 ∧ Yn c ⟨o.Task.Token, oG o.Task.Prog⟩) := fun h => w1 h.1
 rw [if_neg (by rw [decide_eq_true_eq]; exact w1), if_neg w1]
 suffices hh : ∀ d : Cl, (Inv l (n + 2000) d) → (∀ x : Option Cl, x = some d → x = some d ∧ (o.What ≤ 1 ∧ Yn c ⟨o.Task.Token, oG o.Task.Prog⟩ → Inv (l ++ [o.Task.Token]) (n + 2000) d) ∧ (¬ (o.What ≤ 1 ∧ Yn c ⟨o.Task.Token, oG o.Task.Prog⟩) → Inv l (n + 2000) d ∧ (o.What ≤ 1 → d = c))) by
  by_cases w2 : o.What = 2
  ·rw [if_pos (decide_eq_true w2), if_pos w2]
   rcases Aug h with ⟨p1, hx⟩ | ⟨p1, hx, hI⟩
   ·rw [if_neg p1]
    exact hh c (h.up (by omega) hn) _ (by rw [hx, Option.bind_some, if_neg (by decide)])
   ·rw [if_pos p1]
    exact hh _ (hI.up (by omega) hn) _ (by rw [hx, Option.bind_some, if_pos (by rfl)])
  rw [if_neg (by rw [decide_eq_true_eq]; exact w2), if_neg w2]
  by_cases w3 : o.What = 3
  ·rw [if_pos (decide_eq_true w3), if_pos w3]
   obtain ⟨hx, hI⟩ := At7 h
   exact hh _ (hI.up (by omega) hn) _ (by rw [hx, Option.bind_some])
  rw [if_neg (by rw [decide_eq_true_eq]; exact w3), if_neg w3]
  by_cases w8 : o.What ≤ 8
  ·rw [if_pos (decide_eq_true w8), if_pos w8]
   obtain ⟨ha, hal⟩ := Ape c o.Reply s2
   obtain ⟨hx, hI⟩ := Agq h hn _ hal
   exact hh _ hI _ (by rw [ha, Option.bind_some, hx, Option.bind_some])
  rw [if_neg (by rw [decide_eq_true_eq]; exact w8), if_neg w8]
  by_cases w9 : o.What = 9
  ·rw [if_pos (decide_eq_true w9), if_pos w9]
   obtain ⟨hx, hI⟩ := Agq h hn o.Bytes (by omega)
   exact hh _ hI _ (by rw [hx, Option.bind_some])
  rw [if_neg (by rw [decide_eq_true_eq]; exact w9), if_neg w9]
  by_cases w11 : o.What ≤ 11
  ·rw [if_pos (decide_eq_true w11), if_pos w11]
   by_cases hk : 0 ≤ o.N ∧ o.N ≤ 1073741824
   ·obtain ⟨hx, hI⟩ := Aup h hk
    rw [if_pos hk]
    exact hh _ (hI.up (by omega) hn) _ (by rw [hx, Option.bind_some, if_pos (by rfl)])
   ·have hx := Aqg h hk
    rw [if_neg hk]
    exact hh _ (h.up (by omega) hn) _ (by rw [hx, Option.bind_some, if_neg (by decide)])
  rw [if_neg (by rw [decide_eq_true_eq]; exact w11), if_neg w11]
  obtain ⟨hx, hI⟩ := Arw h
  exact hh _ (hI.up (by omega) hn) _ (by rw [hx, Option.bind_some])
 intro d hI x hx
 exact ⟨hx, fun hy => absurd hy hno, fun _ => ⟨hI, fun hw => absurd hw w1⟩⟩
theorem Inv.zero : Inv [] 0 ⟨pl, [], 1, 1, 0, 0, 0, 0, 0, false, G4, Pl, ⟨[], 0⟩, [], [], []⟩ :=
 ⟨⟨rfl, by decide, by decide, by decide, by decide, by decide, by decide, ⟨by decide, List.nodup_nil⟩, fun t ht => (by cases ht), rfl, by decide, rfl, fun x hx => (by cases hx), Nat.le_refl _, by decide, by decide⟩, by decide, fun h1 _ => absurd h1 (by decide), fun _ => rfl, fun h1 => absurd h1 (by decide), fun _ => ⟨fun x hx => (by cases hx), by decide⟩⟩
end Go.Proofs.YtbjckaahoacbfaaGreatDoor.Abs
