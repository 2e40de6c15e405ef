/-
 Each task is reported once.
-/
import Derived.Test.YtbjckaahoacbfaaGreatDoorR21
set_option linter.unusedVariables false
set_option linter.unusedSimpArgs false
namespace Go.Proofs.YtbjckaahoacbfaaGreatDoor.Abs
open mg (F5 eR Pf)
theorem Anf : Ou = some true := by decide +kernel
def oO (o : W3) : B6 := ⟨o.What, o.A, o.B, o.N, o.Key, o.Rng⟩
def oG (p : Iq) : Co := ⟨p.RO, p.Ops.map oO⟩
theorem Afa (p : Iq) (h : p.Ops.length ≤ 1000000) : Kw p = some (oG p) := by
 unfold Kw
 obtain ⟨v, hv, rfl⟩ := Hb (f := Ib p) (P := fun s => ∃ i : Nat, i ≤ p.Ops.length ∧ s = ((i : Int), (p.Ops.take i).map oO)) (μ := fun s => p.Ops.length - s.1.toNat) (R := fun v => v = p.Ops.map oO) (by
  rintro _ ⟨i, hi, rfl⟩
  unfold Ib
  dsimp only
  rcases Nat.lt_or_ge i p.Ops.length with hlt | hge
  ·left
   rw [if_pos (decide_eq_true (by omega)), F4, List.getElem?_eq_getElem hlt, Option.bind_some, if_pos (by simp; omega), Dj (by omega) (by omega)]
   exact ⟨_, rfl, ⟨i + 1, hlt, by rw [List.take_succ_eq_append_getElem hlt, List.map_append]; rfl⟩, by dsimp only; omega⟩
  ·right
   rw [if_neg (by rw [decide_eq_true_eq]; omega)]
   exact ⟨_, rfl, by rw [List.take_of_length_le hge]⟩) Di (0, []) ⟨0, Nat.zero_le _, rfl⟩ (Hh (by dsimp only; omega))
 rw [hv]
 rfl
theorem Aof (p : Iq) : (oG p).Ops.length = p.Ops.length := by unfold oG; simp
theorem Apb (r : Hu) : ∃ v, G8 r = some v ∧ (v = true → r.List.length ≤ 20) := by
 unfold G8
 split
 ·exact ⟨_, rfl, fun h => by cases h⟩
 by_cases h2 : (20 : Int) < r.List.length
 ·rw [if_pos (decide_eq_true h2)]; exact ⟨_, rfl, fun h => by cases h⟩
 rw [if_neg (by rw [decide_eq_true_eq]; exact h2)]
 unfold Jj
 rw [Ans r.List (fun x => !decide (100 < (x.Key.length : Int)) && !decide (100 < (x.Val.length : Int))) false (Gi r) (by omega) (fun i x hx => by
  have hlt := (List.getElem?_eq_some_iff.1 hx).1
  unfold Gi
  rw [if_pos (decide_eq_true (by omega)), F4, hx, Option.bind_some, Option.bind_some, Dj (by omega) (by omega)]
  cases decide (100 < (x.Key.length : Int)) <;> cases decide (100 < (x.Val.length : Int)) <;> rfl) (by
  unfold Gi
  rw [if_neg (by rw [decide_eq_true_eq]; omega)])]
 split <;> exact ⟨_, rfl, fun _ => by omega⟩
def Ajf (a : I9) : Prop := a.Task.Prog.Ops.length ≤ 40 ∧ a.Reply.List.length ≤ 20 ∧ a.Bytes.length ≤ 300
theorem Ann (xs : List I9) : ∃ v, Nh xs = some v ∧ (v = true → xs.length ≤ 80 ∧ ∀ a ∈ xs, Ajf a) := by
 unfold Nh
 by_cases h1 : (80 : Int) < xs.length
 ·rw [if_pos (decide_eq_true h1)]; exact ⟨_, rfl, fun h => by cases h⟩
 rw [if_neg (by rw [decide_eq_true_eq]; exact h1)]
 rw [Ans xs (fun a => (Md a.Task.Prog).getD false && ((G8 a.Reply).getD false && !decide (300 < (a.Bytes.length : Int)))) false (I0 xs) (by omega) (fun i x hx => by
  have hlt := (List.getElem?_eq_some_iff.1 hx).1
  unfold I0
  obtain ⟨u, hu, -⟩ := pg.few_m x.Task.Prog
  obtain ⟨v, hv, -⟩ := Apb x.Reply
  rw [if_pos (decide_eq_true (by omega)), F4, hx, Option.bind_some, Option.bind_some, Option.bind_some, hu, hv, Option.bind_some, Option.bind_some, Dj (by omega) (by omega)]
  cases u <;> cases v <;> cases decide (300 < (x.Bytes.length : Int)) <;> rfl) (by
  unfold I0
  rw [if_neg (by rw [decide_eq_true_eq]; omega)])]
 cases ha : xs.all (fun a => (Md a.Task.Prog).getD false && ((G8 a.Reply).getD false && !decide (300 < (a.Bytes.length : Int)))) with
 | true => exact ⟨true, rfl, fun _ => ⟨by omega, fun a h => by
   have := List.all_eq_true.1 ha a h
   obtain ⟨u, hu, hu2⟩ := pg.few_m a.Task.Prog
   obtain ⟨v, hv, hv2⟩ := Apb a.Reply
   rw [hu, hv] at this
   simp only [Option.getD_some, Bool.and_eq_true, Bool.not_eq_true', decide_eq_false_iff_not] at this
   exact ⟨(hu2 this.1).1, hv2 this.2.1, by omega⟩⟩⟩
 | false => exact ⟨false, rfl, fun h => by cases h⟩
def Ajr (c : Cl) (r : Hu) : List UInt8 := (F2 c r).getD []
theorem Ao0 (c : Cl) (r : Hu) (h : r.List.length ≤ 20) : F2 c r = some (Ajr c r) ∧ (Ajr c r).length ≤ 1000 := by
 have : ∃ b, F2 c r = some b ∧ b.length ≤ 1000 := by
  unfold F2
  rw [mg.putRep_m _ (by show r.List.length ≤ 1000000; omega), Option.bind_some]
  split
  ·rename_i hs
   have hl := (mg.eS5_len hs).2
   rw [Ang _ _ (by simp) hl, Option.bind_some]
   exact ⟨_, rfl, by show ([] ++ fr _).length ≤ 1000; rw [List.nil_append, Vz]; omega⟩
  ·rw [Ang _ _ (by simp) (by simp), Option.bind_some]
   exact ⟨_, rfl, by show ([] ++ fr _).length ≤ 1000; rw [List.nil_append, Vz]; simp⟩
 obtain ⟨b, hb, hl⟩ := this
 unfold Ajr
 rw [hb]
 exact ⟨rfl, hl⟩
open Classical in
noncomputable def Aek (c : Cl) (o : I9) : Cl :=
 if o.What ≤ 1 then (if Ws c ⟨o.Task.Token, oG o.Task.Prog⟩ then Al3 c ⟨o.Task.Token, oG o.Task.Prog⟩ else c)
 else if o.What = 2 then (if c.Phase = 1 then Amg c else c)
 else if o.What = 3 then Ajp c
 else if o.What ≤ 8 then Agj c (Ajr c o.Reply)
 else if o.What = 9 then Agj c o.Bytes
 else if o.What ≤ 11 then (if 0 ≤ o.N ∧ o.N ≤ 1073741824 then Ael c o.N else c)
 else Ahl c
open Classical in
theorem Arw {l : List Int} {n : Nat} {c : Cl} (h : Inv l n c) (hn : n + 2000 ≤ 1000000) (hb : l.length < 1000) {o : I9} (hs : Ajf o) (ht : o.Task.Token ∉ l) :
  Ni c o = some (Aek c o) ∧ (o.What ≤ 1 ∧ Ws c ⟨o.Task.Token, oG o.Task.Prog⟩ → Inv (l ++ [o.Task.Token]) (n + 2000) (Aek c o)) ∧ (¬ (o.What ≤ 1 ∧ Ws c ⟨o.Task.Token, oG o.Task.Prog⟩) → Inv l (n + 2000) (Aek c o) ∧ (o.What ≤ 1 → Aek c o = c)) := by
 obtain ⟨s1, s2, s3⟩ := hs
 unfold Ni Aek
 by_cases w1 : o.What ≤ 1
 ·rw [if_pos (decide_eq_true w1), if_pos w1, Afa _ (by omega), Option.bind_some]
  have hsb := Aqz h (t := ⟨o.Task.Token, oG o.Task.Prog⟩) (by show (oG _).Ops.length ≤ 1000; rw [Aof]; omega)
  by_cases hok : Ws c ⟨o.Task.Token, oG o.Task.Prog⟩
  ·rw [if_pos hok]
   refine ⟨?_, fun _ => (Al7 h hok ht hb).up (by omega) hn, fun hx => absurd ⟨w1, hok⟩ hx⟩
   rcases hsb with ⟨x, e, he, hx⟩ | ⟨-, hx⟩
   ·exfalso
    obtain ⟨k1, k2, k3, k4⟩ := hok
    have : Dk c ⟨o.Task.Token, oG o.Task.Prog⟩ = Dk c ⟨o.Task.Token, oG o.Task.Prog⟩ := rfl
    unfold Dk at hx
    rw [Rb h, Option.bind_some, if_neg (by decide), k1.1, Option.bind_some, if_neg (by decide), if_neg (by rw [decide_eq_true_eq]; exact k2), Z9 (by omega) k3, Option.bind_some, if_neg (by decide), if_neg (by rw [decide_eq_true_eq]; omega)] at hx
    obtain ⟨v4, -, hx⟩ := An hx
    split at hx
    ·obtain ⟨v6, -, hx⟩ := An hx
     have := congrArg Prod.snd (Option.some.inj hx)
     exact he this.symm
    ·have := congrArg Prod.snd (Option.some.inj hx)
     exact he this.symm
   ·rw [hx, Option.bind_some, if_pos (by rfl)]
  ·rw [if_neg hok]
   refine ⟨?_, fun hx => absurd hx.2 hok, fun _ => ⟨h.up (by omega) hn, fun _ => rfl⟩⟩
   rcases hsb with ⟨x, e, he, hx⟩ | ⟨hx, -⟩
   ·rw [hx, Option.bind_some, if_neg (by rw [decide_eq_true_eq]; exact he)]
   ·exact absurd hx hok
 have hno : ¬ (o.What ≤ 1 ∧ Ws c ⟨o.Task.Token, oG o.Task.Prog⟩) := fun h => w1 h.1
 rw [if_neg (by rw [decide_eq_true_eq]; exact w1), if_neg w1]
 suffices hh : ∀ d : Cl, (Inv l (n + 2000) d) → (∀ x : Option Cl, x = some d → x = some d ∧ (o.What ≤ 1 ∧ Ws c ⟨o.Task.Token, oG o.Task.Prog⟩ → Inv (l ++ [o.Task.Token]) (n + 2000) d) ∧ (¬ (o.What ≤ 1 ∧ Ws c ⟨o.Task.Token, oG o.Task.Prog⟩) → Inv l (n + 2000) d ∧ (o.What ≤ 1 → d = c))) by
  by_cases w2 : o.What = 2
  ·rw [if_pos (decide_eq_true w2), if_pos w2]
   rcases Apj h with ⟨p1, hx⟩ | ⟨p1, hx, hI⟩
   ·rw [if_neg p1]
    exact hh c (h.up (by omega) hn) _ (by rw [hx, Option.bind_some, if_neg (by decide)])
   ·rw [if_pos p1]
    exact hh _ (hI.up (by omega) hn) _ (by rw [hx, Option.bind_some, if_pos (by rfl)])
  rw [if_neg (by rw [decide_eq_true_eq]; exact w2), if_neg w2]
  by_cases w3 : o.What = 3
  ·rw [if_pos (decide_eq_true w3), if_pos w3]
   obtain ⟨hx, hI⟩ := Apo h
   exact hh _ (hI.up (by omega) hn) _ (by rw [hx, Option.bind_some])
  rw [if_neg (by rw [decide_eq_true_eq]; exact w3), if_neg w3]
  by_cases w8 : o.What ≤ 8
  ·rw [if_pos (decide_eq_true w8), if_pos w8]
   obtain ⟨ha, hal⟩ := Ao0 c o.Reply s2
   obtain ⟨hx, hI⟩ := Akc h hn _ hal
   exact hh _ hI _ (by rw [ha, Option.bind_some, hx, Option.bind_some])
  rw [if_neg (by rw [decide_eq_true_eq]; exact w8), if_neg w8]
  by_cases w9 : o.What = 9
  ·rw [if_pos (decide_eq_true w9), if_pos w9]
   obtain ⟨hx, hI⟩ := Akc h hn o.Bytes (by omega)
   exact hh _ hI _ (by rw [hx, Option.bind_some])
  rw [if_neg (by rw [decide_eq_true_eq]; exact w9), if_neg w9]
  by_cases w11 : o.What ≤ 11
  ·rw [if_pos (decide_eq_true w11), if_pos w11]
   obtain ⟨hx, hI⟩ := Aor h o.N
   by_cases hk : 0 ≤ o.N ∧ o.N ≤ 1073741824
   ·rw [if_pos hk] at hx
    rw [if_pos hk]
    exact hh _ (hI.up (by omega) hn) _ (by rw [hx, Option.bind_some, if_pos (by rfl)])
   ·rw [if_neg hk] at hx
    rw [if_neg hk]
    exact hh _ (h.up (by omega) hn) _ (by rw [hx, Option.bind_some, if_neg (by decide)])
  rw [if_neg (by rw [decide_eq_true_eq]; exact w11), if_neg w11]
  obtain ⟨hx, hI⟩ := Amf h
  exact hh _ (hI.up (by omega) hn) _ (by rw [hx, Option.bind_some])
 intro d hI x hx
 exact ⟨hx, fun hy => absurd hy hno, fun _ => ⟨hI, fun hw => absurd hw w1⟩⟩
theorem Amq (xs : List A8) (tok : Int) (hl : xs.length ≤ 1000000) : Mt xs tok = some (((xs.map (·.Token)).count tok : Nat) : Int) := by
 unfold Mt
 obtain ⟨v, hv, rfl⟩ := Hb (f := J3 xs tok) (P := fun s => ∃ i : Nat, i ≤ xs.length ∧ s = (((((xs.take i).map (·.Token)).count tok : Nat) : Int), (i : Int))) (μ := fun s => xs.length - s.2.toNat) (R := fun v => v = (((xs.map (·.Token)).count tok : Nat) : Int)) (by
  rintro _ ⟨i, hi, rfl⟩
  have hc : ((xs.take i).map (·.Token)).count tok ≤ i := by
   have := List.count_le_length (a := tok) (l := (xs.take i).map (·.Token))
   rw [List.length_map, List.length_take] at this
   omega
  unfold J3
  dsimp only
  rcases Nat.lt_or_ge i xs.length with hlt | hge
  ·left
   have e : ((xs.take (i + 1)).map (·.Token)).count tok = ((xs.take i).map (·.Token)).count tok + if (xs[i]).Token = tok then 1 else 0 := by
    rw [List.take_succ_eq_append_getElem hlt, List.map_append, List.count_append, List.map_singleton, List.count_singleton]
    by_cases he : (xs[i]).Token = tok <;> simp [he]
   rw [if_pos (decide_eq_true (by omega)), F4, List.getElem?_eq_getElem hlt, Option.bind_some, Dj (n := (i : Int) + 1) (by omega) (by omega)]
   by_cases he : (xs[i]).Token = tok
   ·rw [if_pos (decide_eq_true he), Dj (by omega) (by omega)]
    exact ⟨_, rfl, ⟨i + 1, hlt, by rw [e, if_pos he]; rfl⟩, by dsimp only; omega⟩
   ·rw [if_neg (by rw [decide_eq_true_eq]; exact he)]
    exact ⟨_, rfl, ⟨i + 1, hlt, by rw [e, if_neg he]; rfl⟩, by dsimp only; omega⟩
  ·right
   rw [if_neg (by rw [decide_eq_true_eq]; omega)]
   exact ⟨_, rfl, by rw [List.take_of_length_le hge]⟩) Di (0, 0) ⟨0, Nat.zero_le _, rfl⟩ (Hh (by dsimp only; omega))
 rw [hv]
 rfl
theorem Ao6 {l : List Int} {n : Nat} {c : Cl} (h : Inv l n c) (hd : l.Nodup) : Qg (D8 c) Di 0 = some (.inr ()) := by
 have hdn := h.dn
 have hnd : (c.Done.map (·.Token)).Nodup := by
  have := h.ll
  rw [← this] at hd
  exact (List.nodup_append.1 hd).1
 rw [Ans c.Done (fun _ => true) false (D8 c) (by omega) (fun i x hx => by
  have hlt := (List.getElem?_eq_some_iff.1 hx).1
  have hm := List.mem_of_getElem? hx
  have h1 : (c.Done.map (·.Token)).count x.Token = 1 := by rw [hnd.count, if_pos (List.mem_map.2 ⟨x, hm, rfl⟩)]
  have hc := h.dc x hm
  unfold D8
  rw [if_pos (decide_eq_true (by omega)), F4, hx, Option.bind_some, Amq _ _ (by omega), Option.bind_some, h1, if_neg (by decide), if_neg (by rw [decide_eq_true_eq]; omega), if_neg (by rw [decide_eq_true_eq]; omega), Dj (by omega) (by omega)]
  by_cases h4 : x.Code = 4
  ·rw [if_pos (decide_eq_true h4)]
   by_cases h0 : x.Ts = 0
   ·rw [if_pos (decide_eq_true h0)]
    have h11 : c.Phase = 11 := Classical.byContradiction fun hp => h.du hp x hm h4 h0
    rw [decide_eq_true h11, if_neg (by decide)]
    rfl
   ·rw [if_neg (by rw [decide_eq_true_eq]; exact h0)]
    rfl
  ·rw [if_neg (by rw [decide_eq_true_eq]; exact h4)]
   rfl) (by
  unfold D8
  rw [if_neg (by rw [decide_eq_true_eq]; omega)])]
 rw [List.all_eq_true.2 (fun _ _ => rfl)]
 rfl
theorem Amt {l : List Int} {n : Nat} {c : Cl} (h : Inv l n c) : c.Done.length + (W c).length = l.length := by
 have := congrArg List.length h.ll
 simpa using this
theorem Aod {l : List Int} {n : Nat} {c : Cl} (h : Inv l n c) (hd : l.Nodup) (s : Int × Int × Cl) : Dp s c (l.length : Int) = some (.cont ((l.length : Int), wI (s.2.1 + 1), c)) := by
 have hw := Amt h
 have hl := h.lb
 have key : ∀ k : Int, k = ((W c).length : Int) → Fc s c (l.length : Int) k = some (.cont ((l.length : Int), wI (s.2.1 + 1), c)) := by
  rintro _ rfl
  unfold Fc
  rw [Dj (by omega) (by omega), decide_eq_true (p := (c.Done.length : Int) + ((W c).length : Int) = (l.length : Int)) (by omega), if_neg (by decide), Rb h, Option.bind_some, if_neg (by decide)]
  unfold Ik
  rw [Ao6 h hd]
  rfl
 unfold Dp
 by_cases h9 : c.Phase = 9
 ·rw [if_pos (decide_eq_true h9)]
  have hp := List.length_pos_iff.2 (h.wk (by omega) (by omega)).1
  have h8 := h.tk.1
  exact key _ (by rw [Dj (by omega) (by omega)]; unfold W; rw [if_pos h9]; simp; omega)
 ·rw [if_neg (by rw [decide_eq_true_eq]; exact h9)]
  exact key _ (by unfold W; rw [if_neg h9])
theorem Inv.zero : Inv [] 0 ⟨pl, [], 1, 1, 0, 0, 0, 0, 0, false, Hw, Oq, ⟨[], 0⟩, [], [], []⟩ :=
 ⟨⟨rfl, by decide, by decide, by decide, by decide, by decide, by decide, ⟨by decide, List.nodup_nil⟩, fun t ht => (by cases ht), rfl, by decide, rfl, fun x hx => (by cases hx), Nat.le_refl _, by decide, by decide⟩, by decide, fun h1 _ => absurd h1 (by decide), fun _ => rfl, fun h1 => absurd h1 (by decide), fun _ x hx => by cases hx⟩
open Classical in
theorem Ae3 {xs : List I9} (hx : xs.length ≤ 80) (hs : ∀ a ∈ xs, Ajf a) {l : List Int} {i : Nat} (hi : i < xs.length) {c : Cl} (h : Inv l (i * 2000) c) (hd : l.Nodup) (hl : ∀ x ∈ l, 0 ≤ x ∧ x < (i : Int)) (hn : l.length ≤ i) :
  ∃ l' c', Ek xs ((l.length : Int), (i : Int), c) = some (.cont ((l'.length : Int), ((i + 1 : Nat) : Int), c')) ∧ Inv l' ((i + 1) * 2000) c' ∧ l'.Nodup ∧ (∀ x ∈ l', 0 ≤ x ∧ x < ((i + 1 : Nat) : Int)) ∧ l'.length ≤ i + 1 := by
 have ha := hs _ (List.getElem_mem hi)
 generalize ho : ({xs[i] with Task := ⟨(i : Int), (xs[i]).Task.Prog⟩} : I9) = o
 have hso : Ajf o := by subst ho; exact ha
 have hti : o.Task.Token = (i : Int) := by subst ho; rfl
 have htl : o.Task.Token ∉ l := fun hm => by have := hl _ hm; omega
 have how : o.What = (xs[i]).What := by subst ho; rfl
 obtain ⟨a1, a2, a3⟩ := Arw h (by omega) (by omega) hso htl
 have hm : i * 2000 + 2000 = (i + 1) * 2000 := by omega
 rw [hm] at a2 a3
 have hL := h.lb
 have hwl := Amt h
 unfold Ek
 dsimp only
 rw [if_pos (decide_eq_true (by omega)), F4, List.getElem?_eq_getElem hi, Option.bind_some, ho, a1, Option.bind_some, ← how]
 by_cases hok : o.What ≤ 1 ∧ Ws c ⟨o.Task.Token, oG o.Task.Prog⟩
 ·have hI := a2 hok
  have hnd : (l ++ [o.Task.Token]).Nodup := by
   rw [List.nodup_append]
   exact ⟨hd, by simp, fun a ha b hb => by simp at hb; rw [hb]; exact fun he => htl (he ▸ ha)⟩
  have hlen : ((l ++ [o.Task.Token]).length : Int) = wI ((l.length : Int) + 1) := by rw [Dj (by omega) (by omega)]; simp
  refine ⟨l ++ [o.Task.Token], Aek c o, ?_, hI, hnd, fun x hx => ?_, by simp; omega⟩
  ·rw [if_pos (decide_eq_true hok.1)]
   have hch := Aod hI hnd ((l.length : Int), (i : Int), c)
   dsimp only at hch
   rw [Dj (n := (i : Int) + 1) (by omega) (by omega)] at hch
   by_cases t1 : (c.Tasks.length : Int) < (Aek c o).Tasks.length
   ·rw [if_pos (decide_eq_true t1), ← hlen, hch]; rfl
   ·rw [if_neg (by rw [decide_eq_true_eq]; exact t1)]
    have hw2 := Amt hI
    have hwc : (W c).length ≤ c.Tasks.length := by unfold W; split <;> simp
    have hwd : (W (Aek c o)).length ≤ (Aek c o).Tasks.length := by unfold W; split <;> simp
    have hgrow : c.Done.length < (Aek c o).Done.length := by
     have e : Aek c o = Al3 c ⟨o.Task.Token, oG o.Task.Prog⟩ := by unfold Aek; rw [if_pos hok.1, if_pos hok.2]
     by_cases p0 : c.Phase = 0
     ·have ht0 := h.wi (.inl p0)
      have hc0 : c.Tasks.length = 0 := by rw [ht0]; rfl
      simp at hw2
      omega
     ·exfalso
      apply t1
      rw [e]
      unfold Al3
      rw [if_neg p0]
      show _ < ((c.Tasks ++ [_]).length : Int)
      simp
      omega
    rw [if_pos (decide_eq_true (by omega)), ← hlen, hch]; rfl
  ·rcases List.mem_append.1 hx with hx | hx
   ·have := hl x hx; omega
   ·simp at hx; omega
 ·obtain ⟨hI, hc⟩ := a3 hok
  have hch := Aod hI hd ((l.length : Int), (i : Int), c)
  dsimp only at hch
  rw [Dj (n := (i : Int) + 1) (by omega) (by omega)] at hch
  refine ⟨l, Aek c o, ?_, hI, hd, fun x hx => by have := hl x hx; omega, by omega⟩
  by_cases w1 : o.What ≤ 1
  ·rw [if_pos (decide_eq_true w1)]
   have hc := hc w1
   rw [hc] at hch ⊢
   rw [if_neg (by rw [decide_eq_true_eq]; omega), if_neg (by rw [decide_eq_true_eq]; omega), hch]; rfl
  ·rw [if_neg (by rw [decide_eq_true_eq]; exact w1), hch]; rfl
theorem Wf (a0 : List I9) : K6 a0 = some true := by
 unfold K6
 obtain ⟨v, hv, hsm⟩ := Ann a0
 rw [Anf, Option.bind_some, hv, Option.bind_some]
 cases v with
 | false => rfl
 | true =>
  obtain ⟨hx, hs⟩ := hsm rfl
  rw [if_neg (by decide)]
  rw [show Ng = some pl from rfl, Option.bind_some]
  have hnew : Kz pl = some (⟨pl, [], 1, 1, 0, 0, 0, 0, 0, false, Hw, Oq, ⟨[], 0⟩, [], [], []⟩, 0) := by
   unfold Kz
   rw [Akg, Option.bind_some, if_neg (by decide)]
  rw [hnew, Option.bind_some, if_neg (by decide)]
  obtain ⟨w, hw, hr⟩ := O1 (f := Ek a0) (P := fun s => ∃ (l : List Int) (i : Nat), i ≤ a0.length ∧ s.1 = (l.length : Int) ∧ s.2.1 = (i : Int) ∧ Inv l (i * 2000) s.2.2 ∧ l.Nodup ∧ (∀ x ∈ l, 0 ≤ x ∧ x < (i : Int)) ∧ l.length ≤ i) (μ := fun s => a0.length - s.2.1.toNat)
   (R := fun r => match r with
    | .inl _ => False
    | .inr _ => True) (by
   rintro ⟨_, _, c⟩ ⟨l, i, hi, rfl, rfl, hI, hd, hl, hn⟩
   rcases Nat.lt_or_ge i a0.length with hlt | hge
   ·left
    obtain ⟨l', c', he, hI', hd', hl', hn'⟩ := Ae3 hx hs hlt hI hd hl hn
    exact ⟨_, he, ⟨l', i + 1, hlt, rfl, rfl, hI', hd', hl', hn'⟩, by dsimp only; omega⟩
   ·right; left
    refine ⟨c, ?_, trivial⟩
    unfold Ek
    dsimp only
    rw [if_neg (by rw [decide_eq_true_eq]; omega)]) Di (0, 0, ⟨pl, [], 1, 1, 0, 0, 0, 0, 0, false, Hw, Oq, ⟨[], 0⟩, [], [], []⟩) ⟨[], 0, Nat.zero_le _, rfl, rfl, Inv.zero, List.nodup_nil, fun x hx => (by cases hx), Nat.le_refl _⟩ (Hh (by show a0.length - 0 ≤ _; omega))
  rw [hw, Option.bind_some]
  rcases w with r | c
  ·exact hr.elim
  ·rfl
end Go.Proofs.YtbjckaahoacbfaaGreatDoor.Abs
