/-
 All of a program, on both sides.
-/
import Derived.Test.YtphgpfgibpgfiaaGreatSM24r
set_option linter.unusedVariables false
set_option linter.unusedSimpArgs false
namespace Go.Proofs.YtphgpfgibpgfiaaGreat.Abs
theorem Acy {σ σ' β β' ρ ρ' : Type} {f : σ → Option (LR σ β ρ)} {g : σ' → Option (LR σ' β' ρ')} {P : σ → σ' → Prop} {μ : σ → Nat} {R : ρ → ρ' → Prop}
  (h : ∀ s s', P s s' → (∃ t t', f s = some (.cont t) ∧ g s' = some (.cont t') ∧ P t t' ∧ μ t < μ s) ∨ ∃ r r', f s = some (.ret r) ∧ g s' = some (.ret r') ∧ R r r') : ∀ (n : Nat) s s', P s s' → μ s < n → ∃ r r', Fc f n s = some (.inl r) ∧ Fc g n s' = some (.inl r') ∧ R r r'
 | 0, s, _, _, hm => by omega
 | n + 1, s, s', hp, hm => by
  rcases h s s' hp with ⟨t, t', hf, hg, hp', hlt⟩ | ⟨r, r', hf, hg, hr⟩
  ·obtain ⟨r, r', h1, h2, hr⟩ := Acy h n t t' hp' (by omega)
   exact ⟨r, r', by rw [Fc, hf]; exact h1, by rw [Fc, hg]; exact h2, hr⟩
  ·exact ⟨r, r', by rw [Fc, hf], by rw [Fc, hg], hr⟩
theorem Aak {σ σ' β β' : Type} {f : σ → Option (LB σ β)} {g : σ' → Option (LB σ' β')} {P : σ → σ' → Prop} {μ : σ → Nat} {R : β → β' → Prop}
  (h : ∀ s s', P s s' → (∃ t t', f s = some (.cont t) ∧ g s' = some (.cont t') ∧ P t t' ∧ μ t < μ s) ∨ ∃ r r', f s = some (.brk r) ∧ g s' = some (.brk r') ∧ R r r') : ∀ (n : Nat) s s', P s s' → μ s < n → ∃ r r', Cw f n s = some r ∧ Cw g n s' = some r' ∧ R r r'
 | 0, s, _, _, hm => by omega
 | n + 1, s, s', hp, hm => by
  rcases h s s' hp with ⟨t, t', hf, hg, hp', hlt⟩ | ⟨r, r', hf, hg, hr⟩
  ·obtain ⟨r, r', h1, h2, hr⟩ := Aak h n t t' hp' (by omega)
   exact ⟨r, r', by rw [Cw, hf]; exact h1, by rw [Cw, hg]; exact h2, hr⟩
  ·exact ⟨r, r', by rw [Cw, hf], by rw [Cw, hg], hr⟩
theorem Agy {b : List Af} {l : List Aw} (r : Ar) {n : Int} (hb : X2 b) (hl : Fq kvk l) (hn : l.length ≤ 1000000) (h1 : 1 ≤ n) : Dl ⟨l, ⟨b⟩⟩ r n = some ((ovL b l r).take n.toNat) := by
 unfold Dl
 rw [Anh r hb hl hn h1]
 rfl
theorem Ap6 {b : List Af} {l : List Aw} (hb : X2 b) (hl : Fq kvk l) (hn : l.length ≤ 1000000) : Ek ⟨l, ⟨b⟩⟩ = some (ovL b l rO) := by
 have hbl := hb.len
 have hol := Zw b l rO
 unfold Ek
 dsimp only
 rw [Ch (by omega) (by omega)]
 by_cases h0 : (l.length : Int) + b.length = 0
 ·have e1 : l = [] := List.eq_nil_of_length_eq_zero (by omega)
  have e2 : b = [] := List.eq_nil_of_length_eq_zero (by omega)
  subst e1 e2
  show Option.bind (Dl ⟨[], ⟨[]⟩⟩ ⟨[], [], true⟩ 0) _ = some []
  kernel_rfl
 ·rw [show (⟨[], [], true⟩ : Ar) = rO from rfl, Agy rO hb hl hn (by omega), Option.bind_some, List.take_of_length_le (by omega)]
theorem Ale {l : List Aw} (h : Fq kvk l) (hl : l.length ≤ 1000000) : Lc l = some true :=
 (show Lc l = Gf l from rfl).trans (Aen h hl)
theorem Zk {b : List Af} {l : List Aw} (r : Ar) (hb : Fq wk b) (hl : Fq kvk l) : ovL b l r = (ovL b l rO).filter fun x => Oq r x.Key := by
 refine Vp (Q2 r hb hl) (List.Pairwise.sublist (List.filter_sublist ..) (Q2 rO hb hl)) fun x => ?_
 rw [List.mem_filter, Tk hb hl, Tk hb hl]
 simp only [Aop, true_and]
 constructor
 ·rintro (⟨h1, h2, h3⟩ | ⟨w, hw, h1, h2, h3⟩)
  ·exact ⟨.inl ⟨h2, h3⟩, h1⟩
  ·exact ⟨.inr ⟨w, hw, h1, h3⟩, by rw [h3]; exact h2⟩
 ·rintro ⟨⟨h2, h3⟩ | ⟨w, hw, h1, h3⟩, h4⟩
  ·exact .inl ⟨h4, h2, h3⟩
  ·exact .inr ⟨w, hw, h1, by rw [h3] at h4; exact h4, h3⟩
theorem Alg (a k : List UInt8) : Oq ⟨a, a ++ [0], false⟩ k = (k == a) := by
 unfold Oq
 dsimp only
 rw [Bool.false_or]
 cases h : (k == a) with
 | true =>
  have h := eq_of_beq h
  subst h
  rw [Kk, Aac]; rfl
 | false =>
  rw [Bool.and_eq_false_iff]
  by_cases h0 : 0 ≤ Dq k a
  ·right
   refine decide_eq_false fun hc => ?_
   have h1 := Wa hc
   have : Dq k a = 0 := by omega
   rw [N8 this] at h; simp at h
  ·exact .inl (decide_eq_false h0)
theorem Ahz {l : List Aw} (hl : Fq kvk l) (k : List UInt8) : (l.filter fun x => x.Key == k).length ≤ 1 := by
 have hr : Fq kvk (l.filter fun x => x.Key == k) := List.Pairwise.sublist (List.filter_sublist ..) hl
 have hm : ∀ x ∈ l.filter (fun x => x.Key == k), x.Key = k := fun x hx => eq_of_beq (List.mem_filter.1 hx).2
 generalize l.filter (fun x => x.Key == k) = f at hr hm
 match f with
 | [] => exact Nat.zero_le _
 | [a] => exact Nat.le_refl _
 | a :: b :: t =>
  have h1 := (List.pairwise_cons.1 hr).1 b (by simp)
  have h1 : Dq a.Key b.Key < 0 := h1
  rw [hm a (by simp), hm b (by simp), Kk] at h1
  omega
def wOf (q : Ej) : Af := ⟨q.Key, q.Val, decide (q.Kind = 5)⟩
theorem Aiq {b : List Af} {l : List Aw} {q : Ej} (hb : X2 b) (hl : Fq kvk l) (hn : l.length ≤ 1000000) (hk : q.Kind = 3 ∨ q.Kind = 6) (hky : q.Kind = 3 → q.Key.length ≤ 50) :
  Dj ⟨l, ⟨b⟩⟩ (oQ q) = some (⟨l, ⟨b⟩⟩, oR (Ac8 q (ovL b l rO)), 0) := by
 have hro := Q2 rO hb.rise hl
 unfold Dj
 rw [show (oQ q).Kind = q.Kind from rfl, show (oQ q).Key = q.Key from rfl, show (oQ q).Rng = q.Rng from rfl]
 rcases hk with h3 | h6
 ·have hkk := hky h3
  rw [if_pos (decide_eq_true h3), Apz _ (by omega), Option.bind_some, Agy _ hb hl hn (by decide), Option.bind_some, Zk _ hb.rise hl]
  have hfe : (ovL b l rO).filter (fun x => Oq ⟨q.Key, q.Key ++ [0], false⟩ x.Key) = (ovL b l rO).filter (fun x => x.Key == q.Key) := List.filter_congr fun x _ => Alg _ _
  have hone := Ahz hro q.Key
  rw [hfe, List.take_of_length_le (by show _ ≤ (1 : Int).toNat; exact hone)]
  have hfv : fv q (ovL b l rO) = gv ((ovL b l rO).filter (fun x => x.Key == q.Key)) := by unfold fv; rw [if_pos h3]
  have hlv : lv q (ovL b l rO) = [] := by unfold lv; rw [if_neg (by omega)]
  unfold Ac8
  rw [hfv, hlv]
  generalize (ovL b l rO).filter (fun x => x.Key == q.Key) = f at hone
  match f, hone with
  | [], _ => rfl
  | [a], _ => rfl
 ·rw [if_neg (by rw [decide_eq_true_eq]; omega), if_pos (decide_eq_true h6), Agy _ hb hl hn (by decide), Option.bind_some, Zk _ hb.rise hl]
  unfold Ac8 fv lv
  rw [if_neg (by omega), if_pos h6]
  rfl
theorem Aim {b : List Af} {l : List Aw} {q : Ej} (hk : q.Kind = 4 ∨ q.Kind = 5) :
  Dj ⟨l, ⟨b⟩⟩ (oQ q) = (D6 ⟨b⟩ (wOf q)).bind fun v => some (⟨l, ⟨v.1.L⟩⟩, oR (Ac8 q (ovL b l rO)), v.2) := by
 unfold Dj
 rw [show (oQ q).Kind = q.Kind from rfl, if_neg (by rw [decide_eq_true_eq]; omega), if_neg (by rw [decide_eq_true_eq]; omega)]
 have hrep : Ac8 q (ovL b l rO) = ⟨0, 0, 0, 0, false, [], []⟩ := by
  unfold Ac8 fv lv
  rw [if_neg (by omega), if_neg (by omega)]
 have hk6 : Di ⟨l, ⟨b⟩⟩ (oQ q) true = (D6 ⟨b⟩ (wOf q)).bind fun v => some (⟨l, ⟨v.1.L⟩⟩, oR (Ac8 q (ovL b l rO)), v.2) := by
  unfold Di
  rw [if_pos rfl, hrep]
  rfl
 by_cases h4 : q.Kind = 4
 ·rw [if_pos (decide_eq_true h4), decide_eq_true h4]; exact hk6
 ·rw [if_neg (by rw [decide_eq_true_eq]; exact h4), decide_eq_true (p := q.Kind = 5) (by omega)]; exact hk6
theorem Afm {b : List Af} {l : List Aw} (hb : X2 b) (hl : Fq kvk l) (hk : ∀ x ∈ l, x.Key.length ≤ 1000000) : ∀ x ∈ ovL b l rO, x.Key.length ≤ 1000000 := fun x hx => by
 rcases (Tk hb.rise hl).1 hx with ⟨-, h, -⟩ | ⟨w, hw, -, -, rfl⟩
 ·exact hk x h
 ·have := Te hb w hw
  show w.Key.length ≤ _; omega
theorem Am7 {p : Cb} (h : Rg p) (hl40 : p.Ops.length ≤ 40) (hkl : ∀ o ∈ p.Ops, o.Key.length ≤ 50) {l : List Aw} (hl : Fq kvk l) (hn : l.length ≤ 800) (hk : ∀ x ∈ l, x.Key.length ≤ 1000000) :
  ∃ l' t, Nb (oG p) l = some (l', oS t) ∧ N4 p l = some (l', t) ∧ Fq kvk l' ∧ l'.length ≤ l.length + 16 ∧ ∀ x ∈ l', x.Key.length ≤ 1000000 := by
 have hol : (oG p).Ops.length = p.Ops.length := List.length_map _
 unfold Nb N4
 obtain ⟨sv, hs, hg⟩ := Ak4 (oG p) (by omega)
 have hs' := hs
 rw [Yl h] at hs'
 rw [hs, hs', Option.bind_some, Option.bind_some]
 cases sv with
 | false => exact ⟨l, Gh, rfl, rfl, hl, by omega, hk⟩
 | true =>
 have hg := (hg rfl).1
 obtain ⟨rv, hrv, hrv2⟩ := Add hk (by omega)
 rw [hrv2.2 hl] at hrv
 rw [if_neg (c := (!true) = true) (by decide), if_neg (c := (!true) = true) (by decide), Ale hl (by omega), hrv, Option.bind_some, Option.bind_some, if_neg (c := (!true) = true) (by decide), if_neg (c := (!true) = true) (by decide)]
 unfold Mm M6
 obtain ⟨r, r', h1, h2, hR⟩ := Acy (f := Iu (oG p)) (g := K8 p l)
  (P := fun s s' => ∃ (b : List Af) (t : A7), s = (l, b, oS t) ∧ s' = (t, b) ∧ X2 b ∧ 0 ≤ t.PC ∧ t.PC ≤ p.Ops.length) (μ := fun s => (p.Ops.length - s.2.2.PC).toNat)
  (R := fun r r' => r = (r'.1, oS r'.2) ∧ Fq kvk r'.1 ∧ r'.1.length ≤ l.length + 16 ∧ ∀ x ∈ r'.1, x.Key.length ≤ 1000000) (by
   rintro _ _ ⟨b, t, rfl, rfl, hb, p0, p1⟩
   have hbl := hb.len
   have hall := Ap6 hb hl (by omega)
   have hover : Lz ⟨b⟩ l ⟨[], [], true⟩ 1000 = some (ovL b l rO) := Alk hb hl (by omega) hk
   have hlen := Zw b l rO
   have hRr : ∀ t' : A7, (ovL b l rO, oS t') = ((ovL b l rO, t').1, oS (ovL b l rO, t').2) ∧ Fq kvk (ovL b l rO) ∧ (ovL b l rO).length ≤ l.length + 16 ∧ ∀ x ∈ ovL b l rO, x.Key.length ≤ 1000000 := fun t' => ⟨rfl, Q2 rO hb.rise hl, by omega, Afm hb hl hk⟩
   unfold Iu K8
   dsimp only
   have hnext := Akg h t
   rw [hover]
   rcases An9 (oG p) (oS t) (by omega) hs hg p0 with ⟨q, t2, u, e1, e2, e3, e4, e5, e6, e7, e8, e9, e10, -⟩ | ⟨t2, e1, e2, e3, e4, -⟩
   ·rw [e1] at hnext
    cases hn' : Ke p t with
    | none => rw [hn'] at hnext; cases hnext
    | some r =>
    obtain ⟨q', t', ok⟩ := r
    rw [hn', Option.map_some] at hnext
    simp only [Option.some.injEq, Prod.mk.injEq] at hnext
    obtain ⟨rfl, rfl, rfl⟩ := hnext
    rw [e1, Option.bind_some, Option.bind_some, Option.bind_some]
    dsimp only
    rw [if_neg (c := (!true) = true) (by decide), if_neg (c := (!true) = true) (by decide)]
    have e6' := e6
    rw [show (oG p).Ops = p.Ops.map oO from rfl, Y0] at e6'
    cases ho : idx p.Ops (oS t').PC with
    | none => rw [ho] at e6'; cases e6'
    | some o =>
    rw [ho, Option.map_some] at e6'
    have e6' := Option.some.inj e6'
    subst e6'
    have hom := Agz ho
    have hgo := hg (oO o) (List.mem_map.2 ⟨o, hom, rfl⟩)
    have hky := hkl o hom
    have e3' : t'.PC < p.Ops.length := by have : (oS t').PC < (oG p).Ops.length := e3; rw [hol] at this; exact this
    have e2' : 0 ≤ t'.PC := e2
    have e4' : t.PC ≤ t'.PC := e4
    have hkind : q'.Kind = o.What + 2 := e8
    have hqkey : o.What ≤ 3 → q'.Key = o.Key := e9
    have hw1 : 1 ≤ o.What := e7.1
    have hw4 : o.What ≤ 4 := e7.2
    have hrep : Kz q' (ovL b l rO) = some (Ac8 q' (ovL b l rO)) := Aki q' _ (by omega) (Afm hb hl hk)
    have hrl : (Ac8 q' (ovL b l rO)).List.length ≤ 8 := by
     show (lv q' (ovL b l rO)).length ≤ 8
     unfold lv
     split
     ·rw [List.length_take]; omega
     ·exact Nat.zero_le _
    have hA : 0 ≤ o.A ∧ o.A < ((8 : Nat) : Int) := by have : 0 ≤ o.A ∧ o.A ≤ 7 := hgo.1; omega
    have hB : 0 ≤ o.B ∧ o.B < ((8 : Nat) : Int) := by have : 0 ≤ o.B ∧ o.B ≤ 7 := hgo.2.1; omega
    obtain ⟨t3, ht3, hpc⟩ := Amr (oG p) (oS t') (oR (Ac8 q' (ovL b l rO))) (oO o) (by omega) hs hg e2 (by rw [hol]; exact e3') e10 e6 e7 (by show (Ac8 q' (ovL b l rO)).List.length ≤ _; omega)
    have htk := Aky h t' (Ac8 q' (ovL b l rO)) hs' e2' e3' e10 ho ⟨hw1, hw4⟩ hA hB (by omega) (by omega)
    rw [ht3] at htk
    cases ht4 : Lv p t' (Ac8 q' (ovL b l rO)) with
    | none => rw [ht4] at htk; cases htk
    | some r =>
    obtain ⟨t4, e'⟩ := r
    rw [ht4, Option.map_some] at htk
    simp only [Option.some.injEq, Prod.mk.injEq] at htk
    obtain ⟨rfl, rfl⟩ := htk
    have hpc : t4.PC = t'.PC + 1 := hpc
    have hk5 : ∀ b', D5 p (q', t', true) (ovL b l rO) b' = some (.cont (t4, b')) := fun b' => by
     unfold D5
     dsimp only
     rw [hrep, Option.bind_some, ht4]; rfl
    by_cases hwr : q'.Kind = 4 ∨ q'.Kind = 5
    ·have hws : (if (decide (q'.Kind = 4)) = true then ((Hu (El.mk b) (Af.mk q'.Key q'.Val (decide (q'.Kind = 5)))).bind fun v8 => if (!decide (v8.2 = 0)) = true then (some (.ret (ovL b l rO, t'))) else (D5 p (q', t', true) (ovL b l rO) v8.1.L)) else (if (decide (q'.Kind = 5)) = true then ((Hu (El.mk b) (Af.mk q'.Key q'.Val (decide (q'.Kind = 5)))).bind fun v9 => if (!decide (v9.2 = 0)) = true then (some (.ret (ovL b l rO, t'))) else (D5 p (q', t', true) (ovL b l rO) v9.1.L)) else (D5 p (q', t', true) (ovL b l rO) b))) = ((Hu ⟨b⟩ (wOf q')).bind fun v8 => if (!decide (v8.2 = 0)) = true then (some (.ret (ovL b l rO, t'))) else (D5 p (q', t', true) (ovL b l rO) v8.1.L)) := by
      by_cases h4 : q'.Kind = 4
      ·rw [if_pos (decide_eq_true h4)]; rfl
      ·rw [if_neg (by rw [decide_eq_true_eq]; exact h4), if_pos (decide_eq_true (hwr.resolve_left h4))]; rfl
     rw [hws, Aim hwr]
     rcases Ai3 hb (wOf q') (by show q'.Key.length ≤ _; rw [hqkey (by omega)]; omega) with ⟨s1, s2, s3⟩ | ⟨e, e', he, he', s1, s2⟩
     ·left
      rw [s1, s2, Option.bind_some, Option.bind_some, Option.bind_some]
      dsimp only
      rw [if_neg (c := (!decide ((0 : Int) = 0)) = true) (by decide), if_neg (c := (!decide ((0 : Int) = 0)) = true) (by decide), ht3, Option.bind_some, hk5]
      dsimp only
      rw [if_neg (c := (!decide ((0 : Int) = 0)) = true) (by decide)]
      exact ⟨_, _, rfl, rfl, ⟨_, t4, rfl, rfl, s3, by omega, by omega⟩, by show ((p.Ops.length : Int) - t4.PC).toNat < ((p.Ops.length : Int) - t.PC).toNat; omega⟩
     ·right
      rw [s1, s2, Option.bind_some, Option.bind_some, Option.bind_some]
      dsimp only
      rw [if_pos (by rw [decide_eq_false he']; rfl), if_pos (by rw [decide_eq_false he]; rfl), hall, Option.bind_some]
      exact ⟨_, _, rfl, rfl, hRr t'⟩
    ·left
     rw [Aiq hb hl (by omega) (by omega) (fun h3 => by rw [hqkey (by omega)]; omega), Option.bind_some, if_neg (c := decide (q'.Kind = 4) = true) (by rw [decide_eq_true_eq]; omega), if_neg (c := decide (q'.Kind = 5) = true) (by rw [decide_eq_true_eq]; omega), hk5]
     dsimp only
     rw [if_neg (c := (!decide ((0 : Int) = 0)) = true) (by decide), ht3, Option.bind_some]
     dsimp only
     rw [if_neg (c := (!decide ((0 : Int) = 0)) = true) (by decide)]
     exact ⟨_, _, rfl, rfl, ⟨b, t4, rfl, rfl, hb, by omega, by omega⟩, by show ((p.Ops.length : Int) - t4.PC).toNat < ((p.Ops.length : Int) - t.PC).toNat; omega⟩
   ·rw [e1] at hnext
    cases hn' : Ke p t with
    | none => rw [hn'] at hnext; cases hnext
    | some r =>
    obtain ⟨q', t', ok⟩ := r
    rw [hn', Option.map_some] at hnext
    simp only [Option.some.injEq, Prod.mk.injEq] at hnext
    obtain ⟨-, rfl, rfl⟩ := hnext
    right
    rw [e1, Option.bind_some, Option.bind_some, Option.bind_some]
    dsimp only
    rw [if_pos (c := (!false) = true) (by rfl), if_pos (c := (!false) = true) (by rfl), hall, Option.bind_some]
    exact ⟨_, _, rfl, rfl, hRr t'⟩) fuel (l, [], oS Gh) (Gh, []) ⟨[], Gh, rfl, rfl, X2.nil, Int.le_refl _, by show (0 : Int) ≤ _; omega⟩ (Dh (by show ((p.Ops.length : Int) - 0).toNat ≤ _; omega))
 have h1 : Fc (Iu (oG p)) fuel (l, [], I8) = some (.inl r) := h1
 rw [h1, h2, hR.1]
 exact ⟨r'.1, r'.2, rfl, rfl, hR.2⟩
end Go.Proofs.YtphgpfgibpgfiaaGreat.Abs
