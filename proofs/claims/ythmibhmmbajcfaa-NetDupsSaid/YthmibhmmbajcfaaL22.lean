/-
  What a net's calls answer, one by one, and the document's own.
-/
import Derived.Test.YthmibhmmbajcfaaK22
namespace Go.Proofs.Ythmibhmmbajcfaa.Abs

def fdV (n : GNetNet) (p : GNetLink → Bool) : GNetLink × Bool := if saneV n then (match n.Links.find? p with | some x => (x, true) | none => (lz, false)) else (lz, false)
theorem fdV_2 (n : GNetNet) (p : GNetLink → Bool) : (fdV n p).2 = (saneV n && n.Links.any p) := by
  unfold fdV
  cases saneV n with
  | false => rfl
  | true =>
    rw [if_pos rfl, Bool.true_and]
    cases h : n.Links.find? p with
    | none =>
      have := List.find?_eq_none.1 h
      refine (Bool.eq_false_iff.2 fun h' => ?_).symm
      obtain ⟨x, hx, hp⟩ := List.any_eq_true.1 h'
      exact this x hx hp
    | some x => exact (List.any_eq_true.2 ⟨x, List.mem_of_find?_eq_some h, List.find?_some h⟩).symm

theorem ix0 (l : List GNetLink) (a1 a2 : Int) (h : l.length ≤ 1000000) : (∃ (i : Nat) (x : GNetLink), l[i]? = some x ∧ l.find? (fun x => decide (x.Client = a1) || decide (x.Conn = a2)) = some x ∧ m52_slices_IndexFuncs l a1 a2 = some (i : Int)) ∨ (l.find? (fun x => decide (x.Client = a1) || decide (x.Conn = a2)) = none ∧ m52_slices_IndexFuncs l a1 a2 = some (-1)) := by
  have hp : ∀ x : GNetLink, m36_net_Open_1s x a1 a2 = some ((fun x => decide (x.Client = a1) || decide (x.Conn = a2)) x) := fun x => by
    unfold m36_net_Open_1s
    show _ = some (decide (x.Client = a1) || decide (x.Conn = a2))
    cases decide (x.Client = a1) <;> rfl
  unfold m52_slices_IndexFuncs
  rcases scanI l (fun x => decide (x.Client = a1) || decide (x.Conn = a2)) (m52_slices_IndexFuncs_s2 l a1 a2) (by omega) (fun i x hx => by
    have hlt := (List.getElem?_eq_some_iff.1 hx).1
    unfold m52_slices_IndexFuncs_s2
    rw [if_pos (decide_eq_true (by omega)), idx_nat, hx, Option.bind_some, hp, Option.bind_some, wI_id (by omega) (by omega)]
    dsimp only
    by_cases hc : (decide (x.Client = a1) || decide (x.Conn = a2)) = true <;> simp [hc]) (by
    unfold m52_slices_IndexFuncs_s2
    rw [if_neg (by rw [decide_eq_true_eq]; omega)]) with ⟨i, x, h1, h2, h3⟩ | ⟨h1, h2⟩
  · exact .inl ⟨i, x, h1, h2, by rw [h3]; rfl⟩
  · exact .inr ⟨h1, by rw [h2]; rfl⟩
theorem fd0 (n : GNetNet) (a1 a2 : Int) (h : n.Links.length ≤ 1000000) (hp : n.Packets.length ≤ 1000000) : m35_net_finds n a1 a2 = some (fdV n (fun x => decide (x.Client = a1) || decide (x.Conn = a2))) := by
  unfold m35_net_finds fdV
  rw [show (⟨n.Links, n.Packets, n.Next⟩ : GNetNet) = n from rfl]
  rcases ix0 n.Links a1 a2 h with ⟨i, x, h1, h2, h3⟩ | ⟨h1, h2⟩
  · rw [h3, h2, Option.bind_some, if_neg (by rw [decide_eq_true_eq]; omega), sanem n h hp, Option.bind_some]
    cases saneV n with
    | false => rfl
    | true =>
      rw [if_neg (nn (by rfl)), if_pos rfl]
      unfold m35_net_finds_k2
      rw [idx_nat, h1]
      rfl
  · rw [h2, h1, Option.bind_some, if_pos (by rfl)]
    cases saneV n <;> rfl

theorem ix1 (l : List GNetLink) (a1 : Int) (h : l.length ≤ 1000000) : (∃ (i : Nat) (x : GNetLink), l[i]? = some x ∧ l.find? (fun x => decide (x.ID = a1)) = some x ∧ m52_slices_IndexFuncs1 l a1 = some (i : Int)) ∨ (l.find? (fun x => decide (x.ID = a1)) = none ∧ m52_slices_IndexFuncs1 l a1 = some (-1)) := by
  have hp : ∀ x : GNetLink, m40_net_Send_1s x a1 = some ((fun x => decide (x.ID = a1)) x) := fun x => by
    unfold m40_net_Send_1s
    rfl
  unfold m52_slices_IndexFuncs1
  rcases scanI l (fun x => decide (x.ID = a1)) (m52_slices_IndexFuncs1_s2 l a1) (by omega) (fun i x hx => by
    have hlt := (List.getElem?_eq_some_iff.1 hx).1
    unfold m52_slices_IndexFuncs1_s2
    rw [if_pos (decide_eq_true (by omega)), idx_nat, hx, Option.bind_some, hp, Option.bind_some, wI_id (by omega) (by omega)]
    dsimp only
    by_cases hc : (decide (x.ID = a1)) = true <;> simp [hc]) (by
    unfold m52_slices_IndexFuncs1_s2
    rw [if_neg (by rw [decide_eq_true_eq]; omega)]) with ⟨i, x, h1, h2, h3⟩ | ⟨h1, h2⟩
  · exact .inl ⟨i, x, h1, h2, by rw [h3]; rfl⟩
  · exact .inr ⟨h1, by rw [h2]; rfl⟩
theorem fd1 (n : GNetNet) (a1 : Int) (h : n.Links.length ≤ 1000000) (hp : n.Packets.length ≤ 1000000) : m35_net_finds1 n a1 = some (fdV n (fun x => decide (x.ID = a1))) := by
  unfold m35_net_finds1 fdV
  rw [show (⟨n.Links, n.Packets, n.Next⟩ : GNetNet) = n from rfl]
  rcases ix1 n.Links a1 h with ⟨i, x, h1, h2, h3⟩ | ⟨h1, h2⟩
  · rw [h3, h2, Option.bind_some, if_neg (by rw [decide_eq_true_eq]; omega), sanem n h hp, Option.bind_some]
    cases saneV n with
    | false => rfl
    | true =>
      rw [if_neg (nn (by rfl)), if_pos rfl]
      unfold m35_net_finds1_k2
      rw [idx_nat, h1]
      rfl
  · rw [h2, h1, Option.bind_some, if_pos (by rfl)]
    cases saneV n <;> rfl

theorem ix2 (l : List GNetLink) (a1 : Int) (h : l.length ≤ 1000000) : (∃ (i : Nat) (x : GNetLink), l[i]? = some x ∧ l.find? (fun x => decide (x.Client = a1)) = some x ∧ m52_slices_IndexFuncs2 l a1 = some (i : Int)) ∨ (l.find? (fun x => decide (x.Client = a1)) = none ∧ m52_slices_IndexFuncs2 l a1 = some (-1)) := by
  have hp : ∀ x : GNetLink, m50_net_Of_1s x a1 = some ((fun x => decide (x.Client = a1)) x) := fun x => by
    unfold m50_net_Of_1s
    rfl
  unfold m52_slices_IndexFuncs2
  rcases scanI l (fun x => decide (x.Client = a1)) (m52_slices_IndexFuncs2_s2 l a1) (by omega) (fun i x hx => by
    have hlt := (List.getElem?_eq_some_iff.1 hx).1
    unfold m52_slices_IndexFuncs2_s2
    rw [if_pos (decide_eq_true (by omega)), idx_nat, hx, Option.bind_some, hp, Option.bind_some, wI_id (by omega) (by omega)]
    dsimp only
    by_cases hc : (decide (x.Client = a1)) = true <;> simp [hc]) (by
    unfold m52_slices_IndexFuncs2_s2
    rw [if_neg (by rw [decide_eq_true_eq]; omega)]) with ⟨i, x, h1, h2, h3⟩ | ⟨h1, h2⟩
  · exact .inl ⟨i, x, h1, h2, by rw [h3]; rfl⟩
  · exact .inr ⟨h1, by rw [h2]; rfl⟩
theorem fd2 (n : GNetNet) (a1 : Int) (h : n.Links.length ≤ 1000000) (hp : n.Packets.length ≤ 1000000) : m35_net_finds2 n a1 = some (fdV n (fun x => decide (x.Client = a1))) := by
  unfold m35_net_finds2 fdV
  rw [show (⟨n.Links, n.Packets, n.Next⟩ : GNetNet) = n from rfl]
  rcases ix2 n.Links a1 h with ⟨i, x, h1, h2, h3⟩ | ⟨h1, h2⟩
  · rw [h3, h2, Option.bind_some, if_neg (by rw [decide_eq_true_eq]; omega), sanem n h hp, Option.bind_some]
    cases saneV n with
    | false => rfl
    | true =>
      rw [if_neg (nn (by rfl)), if_pos rfl]
      unfold m35_net_finds2_k2
      rw [idx_nat, h1]
      rfl
  · rw [h2, h1, Option.bind_some, if_pos (by rfl)]
    cases saneV n <;> rfl

theorem ix3 (l : List GNetLink) (a1 : Int) (h : l.length ≤ 1000000) : (∃ (i : Nat) (x : GNetLink), l[i]? = some x ∧ l.find? (fun x => decide (x.Conn = a1)) = some x ∧ m52_slices_IndexFuncs3 l a1 = some (i : Int)) ∨ (l.find? (fun x => decide (x.Conn = a1)) = none ∧ m52_slices_IndexFuncs3 l a1 = some (-1)) := by
  have hp : ∀ x : GNetLink, m51_net_At_1s x a1 = some ((fun x => decide (x.Conn = a1)) x) := fun x => by
    unfold m51_net_At_1s
    rfl
  unfold m52_slices_IndexFuncs3
  rcases scanI l (fun x => decide (x.Conn = a1)) (m52_slices_IndexFuncs3_s2 l a1) (by omega) (fun i x hx => by
    have hlt := (List.getElem?_eq_some_iff.1 hx).1
    unfold m52_slices_IndexFuncs3_s2
    rw [if_pos (decide_eq_true (by omega)), idx_nat, hx, Option.bind_some, hp, Option.bind_some, wI_id (by omega) (by omega)]
    dsimp only
    by_cases hc : (decide (x.Conn = a1)) = true <;> simp [hc]) (by
    unfold m52_slices_IndexFuncs3_s2
    rw [if_neg (by rw [decide_eq_true_eq]; omega)]) with ⟨i, x, h1, h2, h3⟩ | ⟨h1, h2⟩
  · exact .inl ⟨i, x, h1, h2, by rw [h3]; rfl⟩
  · exact .inr ⟨h1, by rw [h2]; rfl⟩
theorem fd3 (n : GNetNet) (a1 : Int) (h : n.Links.length ≤ 1000000) (hp : n.Packets.length ≤ 1000000) : m35_net_finds3 n a1 = some (fdV n (fun x => decide (x.Conn = a1))) := by
  unfold m35_net_finds3 fdV
  rw [show (⟨n.Links, n.Packets, n.Next⟩ : GNetNet) = n from rfl]
  rcases ix3 n.Links a1 h with ⟨i, x, h1, h2, h3⟩ | ⟨h1, h2⟩
  · rw [h3, h2, Option.bind_some, if_neg (by rw [decide_eq_true_eq]; omega), sanem n h hp, Option.bind_some]
    cases saneV n with
    | false => rfl
    | true =>
      rw [if_neg (nn (by rfl)), if_pos rfl]
      unfold m35_net_finds3_k2
      rw [idx_nat, h1]
      rfl
  · rw [h2, h1, Option.bind_some, if_pos (by rfl)]
    cases saneV n <;> rfl

theorem rOf (a : GR22Net) (c : Int) (h : a.Links.length ≤ 1000000) : m38_r22_Of a c = some (tL (fdV (oN a) (fun x => decide (x.Client = c))).1, (fdV (oN a) (fun x => decide (x.Client = c))).2) := by
  unfold m38_r22_Of fdV
  cases hs : saneV (oN a) with
  | false =>
    obtain ⟨v, hv, rfl⟩ := iter_inv (f := m38_r22_Of_s2 a c) (P := fun s => s = 0) (μ := fun _ => 0) (R := fun r => r = .inr ()) (by
      rintro _ rfl
      refine .inr (.inl ⟨(), ?_, rfl⟩)
      unfold m38_r22_Of_s2
      cases decide ((0 : Int) < (a.Links.length : Int)) with
      | false => rfl
      | true => rw [if_pos rfl, rsanem, hs]; rfl) fuel 0 rfl (lt_fuel (by decide))
    rw [hv]
    rfl
  | true =>
    rw [scanR a.Links (fun x => decide (x.Client = c)) (fun x => (x, true)) (m38_r22_Of_s2 a c) (by omega) (fun i x hx => by
      have hlt := (List.getElem?_eq_some_iff.1 hx).1
      unfold m38_r22_Of_s2
      rw [if_pos (decide_eq_true (by omega)), rsanem, hs, Option.bind_some, if_pos rfl]
      unfold m38_r22_Of_k3
      rw [idx_nat, hx, Option.bind_some, Option.bind_some, wI_id (by omega) (by omega)]
      cases decide (x.Client = c) <;> rfl) (by
      unfold m38_r22_Of_s2
      rw [if_neg (by rw [decide_eq_true_eq]; omega)])]
    rw [if_pos rfl, show (oN a).Links = a.Links.map oL from rfl, List.find?_map]
    rw [show ((fun x : GNetLink => decide (x.Client = c)) ∘ oL) = (fun x : GR22Link => decide (x.Client = c)) from rfl]
    cases a.Links.find? (fun x => decide (x.Client = c)) <;> rfl

theorem rAt (a : GR22Net) (c : Int) (h : a.Links.length ≤ 1000000) : m39_r22_At a c = some (tL (fdV (oN a) (fun x => decide (x.Conn = c))).1, (fdV (oN a) (fun x => decide (x.Conn = c))).2) := by
  unfold m39_r22_At fdV
  cases hs : saneV (oN a) with
  | false =>
    obtain ⟨v, hv, rfl⟩ := iter_inv (f := m39_r22_At_s2 a c) (P := fun s => s = 0) (μ := fun _ => 0) (R := fun r => r = .inr ()) (by
      rintro _ rfl
      refine .inr (.inl ⟨(), ?_, rfl⟩)
      unfold m39_r22_At_s2
      cases decide ((0 : Int) < (a.Links.length : Int)) with
      | false => rfl
      | true => rw [if_pos rfl, rsanem, hs]; rfl) fuel 0 rfl (lt_fuel (by decide))
    rw [hv]
    rfl
  | true =>
    rw [scanR a.Links (fun x => decide (x.Conn = c)) (fun x => (x, true)) (m39_r22_At_s2 a c) (by omega) (fun i x hx => by
      have hlt := (List.getElem?_eq_some_iff.1 hx).1
      unfold m39_r22_At_s2
      rw [if_pos (decide_eq_true (by omega)), rsanem, hs, Option.bind_some, if_pos rfl]
      unfold m39_r22_At_k3
      rw [idx_nat, hx, Option.bind_some, Option.bind_some, wI_id (by omega) (by omega)]
      cases decide (x.Conn = c) <;> rfl) (by
      unfold m39_r22_At_s2
      rw [if_neg (by rw [decide_eq_true_eq]; omega)])]
    rw [if_pos rfl, show (oN a).Links = a.Links.map oL from rfl, List.find?_map]
    rw [show ((fun x : GNetLink => decide (x.Conn = c)) ∘ oL) = (fun x : GR22Link => decide (x.Conn = c)) from rfl]
    cases a.Links.find? (fun x => decide (x.Conn = c)) <;> rfl

def opV (n : GNetNet) (c k : Int) : GNetNet × Int × Int :=
  if !saneV n then (nz, 0, 1) else if !slV c k then (nz, 0, 1) else if (fdV n (fun x => decide (x.Client = c) || decide (x.Conn = k))).2 then (nz, 0, 7) else
  if decide (1099511627776 ≤ n.Next) then (nz, 0, 11) else if decide (8 ≤ (n.Links.length : Int)) then (nz, 0, 8) else (⟨n.Links ++ [⟨n.Next, c, k⟩], n.Packets, n.Next + 1⟩, n.Next, 0)
theorem saneV_next {n : GNetNet} (h : saneV n = true) : 0 ≤ n.Next ∧ n.Next ≤ 1099511627776 ∧ n.Packets.length ≤ 64 ∧ n.Links.length ≤ 8 := by
  unfold saneV lsV at h
  simp only [Bool.and_eq_true, decide_eq_true_eq] at h
  obtain ⟨⟨⟨⟨_, h1⟩, h2⟩, h3⟩, ⟨_, h4⟩⟩ := h
  omega
theorem openm (n : GNetNet) (c k : Int) (h : n.Links.length ≤ 1000000) (hp : n.Packets.length ≤ 1000000) : m11_net_Open n c k = some (opV n c k) := by
  unfold m11_net_Open opV
  rw [show (⟨n.Links, n.Packets, n.Next⟩ : GNetNet) = n from rfl, sanem n h hp, Option.bind_some]
  cases hs : saneV n with
  | false => rfl
  | true =>
  rw [if_neg (nn (by rfl)), if_neg (nn (by rfl)), slm, Option.bind_some]
  cases slV c k with
  | false => rfl
  | true =>
  rw [if_neg (nn (by rfl)), if_neg (nn (by rfl))]
  unfold m11_net_Open_k1
  rw [show (⟨n.Links, n.Packets, n.Next⟩ : GNetNet) = n from rfl, fd0 n c k h hp, Option.bind_some]
  have hn := saneV_next hs
  rw [m37_slices_Concat_m _ (by simp; omega) (by simp), Option.bind_some, wI_id (by omega) (by omega)]
  generalize fdV n (fun x => decide (x.Client = c) || decide (x.Conn = k)) = v
  cases v.2 <;> cases decide (1099511627776 ≤ n.Next) <;> cases decide (8 ≤ (n.Links.length : Int)) <;> first | rfl | (simp; done)
theorem opV_sane {n : GNetNet} {c k : Int} (h : saneV n = true) (h' : slV c k = true) : opV n c k = if (fdV n (fun x => decide (x.Client = c) || decide (x.Conn = k))).2 then (nz, 0, 7) else
  if decide (1099511627776 ≤ n.Next) then (nz, 0, 11) else if decide (8 ≤ (n.Links.length : Int)) then (nz, 0, 8) else (⟨n.Links ++ [⟨n.Next, c, k⟩], n.Packets, n.Next + 1⟩, n.Next, 0) := by
  unfold opV
  rw [h, h']
  rfl
theorem opV_no {n : GNetNet} {c k : Int} (h : saneV n = false ∨ slV c k = false) : opV n c k = (nz, 0, 1) := by
  unfold opV
  rcases h with h | h
  · rw [h]; rfl
  · rw [h]
    cases saneV n <;> rfl
theorem ropenm (a : GR22Net) (c k : Int) (h : a.Links.length ≤ 1000000) : m12_r22_Open a c k = some (tN (opV (oN a) c k).1, (opV (oN a) c k).2.1, (opV (oN a) c k).2.2) := by
  unfold m12_r22_Open
  rw [rsanem, Option.bind_some]
  cases hs : saneV (oN a) with
  | false => rw [opV_no (.inl hs)]; rfl
  | true =>
  have hn := saneV_next hs
  rw [if_neg (nn (by rfl))]
  by_cases h1 : c < 0
  · rw [if_pos (decide_eq_true h1), opV_no (.inr (by unfold slV; rw [decide_eq_false (p := 0 ≤ c) (by omega)]; rfl))]; rfl
  rw [if_neg (by rw [decide_eq_true_eq]; exact h1)]
  by_cases h2 : 3 < c
  · rw [if_pos (decide_eq_true h2), opV_no (.inr (by unfold slV; rw [decide_eq_false (p := c < 4) (by omega), Bool.and_false, Bool.false_and]))]; rfl
  rw [if_neg (by rw [decide_eq_true_eq]; exact h2)]
  by_cases h3 : k < 0
  · rw [if_pos (decide_eq_true h3), opV_no (.inr (by unfold slV; rw [decide_eq_false (p := 0 ≤ k) (by omega), Bool.and_false]))]; rfl
  rw [if_neg (by rw [decide_eq_true_eq]; exact h3), opV_sane hs (by unfold slV; rw [decide_eq_true (p := 0 ≤ c) (by omega), decide_eq_true (p := c < 4) (by omega), decide_eq_true (p := 0 ≤ k) (by omega)]; rfl)]
  unfold m12_r22_Open_k1
  rw [rOf a c h, Option.bind_some, rAt a k h, Option.bind_some]
  dsimp only
  rw [fdV_2, fdV_2, fdV_2, hs, Bool.true_and, Bool.true_and, Bool.true_and]
  have hor : ((oN a).Links.any fun x => decide (x.Client = c) || decide (x.Conn = k)) = (((oN a).Links.any fun x => decide (x.Client = c)) || ((oN a).Links.any fun x => decide (x.Conn = k))) := by
    induction (oN a).Links with
    | nil => rfl
    | cons x xs ih =>
      rw [List.any_cons, List.any_cons, List.any_cons, ih]
      cases decide (x.Client = c) <;> cases decide (x.Conn = k) <;> cases (xs.any fun x => decide (x.Client = c)) <;> rfl
  rw [hor]
  cases (oN a).Links.any fun x => decide (x.Client = c) with
  | true => rfl
  | false =>
  cases (oN a).Links.any fun x => decide (x.Conn = k) with
  | true => rfl
  | false =>
  rw [if_neg (by decide), if_neg (by decide), if_neg (nn (by rfl))]
  unfold m12_r22_Open_k4
  have hlen : (oN a).Links.length = a.Links.length := List.length_map _
  rw [show (oN a).Next = a.Next from rfl, hlen]
  rw [show (oN a).Next = a.Next from rfl, hlen] at hn
  cases decide (1099511627776 ≤ a.Next) with
  | true => rfl
  | false =>
  cases decide (8 ≤ (a.Links.length : Int)) with
  | true => rfl
  | false =>
  simp only [Bool.false_eq_true, if_false, List.length_nil, List.nil_append, List.length_singleton]
  rw [if_pos (by omega), if_pos (by omega), wI_id (by omega) (by omega)]
  simp [tN, oN, tLoL, tPoP, tL]

def wiV (n : GNetNet) (p : GNetPacket) : GNetNet × Int := if decide (64 ≤ (n.Packets.length : Int)) then (nz, 8) else (⟨n.Links, n.Packets ++ [p], n.Next⟩, 0)
theorem laym (l : List GNetPacket) (p : GNetPacket) (h : l.length ≤ 1000000) : m54_net_lay l p = some (if decide (64 ≤ (l.length : Int)) then ([], 8) else (l ++ [p], 0)) := by
  unfold m54_net_lay
  rw [m46_slices_Concato_m _ (by simp; omega) (by simp), Option.bind_some, show [l, [p]].flatten = l ++ [p] by simp]
  generalize hq : l ++ [p] = q
  have hql : q.length = l.length + 1 := by rw [← hq, List.length_append, List.length_singleton]
  obtain ⟨v, hv, hr⟩ := iter_inv (f := m54_net_lay_s9 q) (P := fun s => ∃ i : Nat, i ≤ q.length ∧ i ≤ 64 ∧ s = ((i : Int), q.take i)) (μ := fun s => q.length - s.1.toNat) (R := fun r => r = if decide (64 ≤ (l.length : Int)) then .inl ([], 8) else .inr q) (by
    rintro _ ⟨i, hi, hi2, rfl⟩
    have htl : (q.take i).length = i := by rw [List.length_take]; omega
    unfold m54_net_lay_s9
    dsimp only
    rcases Nat.lt_or_ge i q.length with hlt | hge
    · rw [if_pos (decide_eq_true (by omega)), idx_nat, List.getElem?_eq_getElem hlt, Option.bind_some, htl]
      by_cases h64 : i < 64
      · left
        rw [if_pos (decide_eq_true h64), if_pos (by rfl), wI_id (by omega) (by omega)]
        exact ⟨_, rfl, ⟨i + 1, hlt, h64, by rw [List.take_succ_eq_append_getElem hlt]; rfl⟩, by dsimp only; omega⟩
      · right; right
        rw [if_neg (by rw [decide_eq_true_eq]; exact h64), if_neg (by decide)]
        exact ⟨_, rfl, by rw [if_pos (decide_eq_true (by omega))]⟩
    · right; left
      have e : i = q.length := by omega
      subst e
      rw [if_neg (by rw [decide_eq_true_eq]; omega)]
      exact ⟨_, rfl, by rw [if_neg (by rw [decide_eq_true_eq]; omega), List.take_length]⟩) fuel (0, []) ⟨0, Nat.zero_le _, by omega, rfl⟩ (lt_fuel (by show q.length - 0 ≤ _; omega))
  rw [hv, hr]
  cases decide (64 ≤ (l.length : Int)) with
  | true => rfl
  | false =>
    rw [if_neg (by decide), if_neg (by decide), Option.bind_some]
    dsimp only
    unfold m54_net_lay_k2
    obtain ⟨w, hw, rfl⟩ := iterB_inv (f := m54_net_lay_s4) (P := fun s => s.2 ++ s.1 = q) (μ := fun s => s.1.length) (R := fun v => v = ([], q)) (by
      rintro ⟨a, b⟩ hab
      dsimp only at hab
      unfold m54_net_lay_s4
      dsimp only
      cases a with
      | nil =>
        right
        rw [if_neg (nn (by rfl))]
        rw [List.append_nil] at hab
        subst hab
        exact ⟨_, rfl, rfl⟩
      | cons x a =>
        left
        have hl : b.length + (a.length + 1) = q.length := by rw [← hab, List.length_append, List.length_cons]
        rw [if_pos (decide_eq_true (by rw [List.length_cons]; omega)), show idx (x :: a) 0 = some x from idx_nat (x :: a) 0, Option.bind_some, if_pos (by rw [List.length_singleton]; omega)]
        exact ⟨_, rfl, by show (b ++ [x]) ++ a = q; rw [List.append_assoc]; exact hab, by show a.length < (x :: a).length; rw [List.length_cons]; omega⟩) fuel (q, []) (List.nil_append q) (lt_fuel (by show q.length ≤ _; omega))
    rw [hw]
    rfl
theorem withm (n : GNetNet) (p : GNetPacket) (h : n.Packets.length ≤ 1000000) : m42_net_with n p = some (wiV n p) := by
  unfold m42_net_with wiV
  rw [laym _ _ h, Option.bind_some]
  cases decide (64 ≤ (n.Packets.length : Int)) <;> rfl
theorem rwithm (a : GR22Net) (p : GR22Packet) (h : a.Packets.length ≤ 1000000) : m43_r22_with a p = some (tN (wiV (oN a) (oP p)).1, (wiV (oN a) (oP p)).2) := by
  unfold m43_r22_with wiV
  rw [show (oN a).Packets.length = a.Packets.length from List.length_map _]
  cases decide (64 ≤ (a.Packets.length : Int)) with
  | true => rfl
  | false =>
    simp only [Bool.false_eq_true, if_false, List.length_nil, List.nil_append, List.length_singleton]
    rw [if_pos (by omega), if_pos (by omega)]
    simp [tN, oN, tLoL, tPoP, tP, oP]
def seV (n : GNetNet) (id : Int) (up : Bool) (b : List UInt8) : GNetNet × Int :=
  if !saneV n then (nz, 1) else if !(fdV n (fun x => decide (x.ID = id))).2 then (nz, 6) else if !sbV b then (nz, 1) else wiV n ⟨id, up, b⟩
theorem sendm (n : GNetNet) (id : Int) (up : Bool) (b : List UInt8) (h : n.Links.length ≤ 1000000) (hp : n.Packets.length ≤ 1000000) : m13_net_Send n id up b = some (seV n id up b) := by
  unfold m13_net_Send seV
  rw [sanem n h hp, Option.bind_some, fd1 n id h hp, Option.bind_some, sbm, Option.bind_some, show (⟨n.Links, n.Packets, n.Next⟩ : GNetNet) = n from rfl, withm _ _ hp, Option.bind_some]
  generalize fdV n (fun x => decide (x.ID = id)) = v
  cases saneV n <;> cases v.2 <;> cases sbV b <;> rfl
theorem rsendm (a : GR22Net) (id : Int) (up : Bool) (b : List UInt8) (h : a.Links.length ≤ 1000000) (hp : a.Packets.length ≤ 1000000) : m14_r22_Send a id up b = some (tN (seV (oN a) id up b).1, (seV (oN a) id up b).2) := by
  unfold m14_r22_Send seV
  rw [rsanem, Option.bind_some]
  cases hs : saneV (oN a) with
  | false => rfl
  | true =>
  rw [if_neg (nn (by rfl)), if_neg (nn (by rfl)), anyB a.Links (fun x => decide (x.ID = id)) (m14_r22_Send_s5 a id) (by omega) (fun i x c hx => by
    have hlt := (List.getElem?_eq_some_iff.1 hx).1
    unfold m14_r22_Send_s5
    dsimp only
    rw [if_pos (decide_eq_true (by omega)), wI_id (by omega) (by omega)]
    cases c with
    | true => rw [if_pos rfl]; rfl
    | false => rw [if_neg (nn (by rfl)), idx_nat, hx]; rfl) (fun c => by
    unfold m14_r22_Send_s5
    dsimp only
    rw [if_neg (by rw [decide_eq_true_eq]; omega)]), Option.bind_some, fdV_2, hs, Bool.true_and, show (oN a).Links = a.Links.map oL from rfl, List.any_map,
    show ((fun x : GNetLink => decide (x.ID = id)) ∘ oL) = (fun x : GR22Link => decide (x.ID = id)) from rfl]
  unfold m14_r22_Send_k2
  cases (a.Links.any fun x => decide (x.ID = id)) with
  | false => rfl
  | true =>
  simp only [Bool.not_true, Bool.false_eq_true, if_false]
  by_cases h3 : (b.length : Int) < 1
  · rw [if_pos (decide_eq_true h3), show sbV b = false by unfold sbV; rw [decide_eq_false (p := 1 ≤ (b.length : Int)) (by omega)]; rfl]; rfl
  rw [if_neg (by rw [decide_eq_true_eq]; exact h3)]
  by_cases h4 : 2048 < (b.length : Int)
  · rw [if_pos (decide_eq_true h4), show sbV b = false by unfold sbV; rw [decide_eq_false (p := (b.length : Int) ≤ 2048) (by omega), Bool.and_false]]; rfl
  rw [if_neg (by rw [decide_eq_true_eq]; exact h4), show sbV b = true by unfold sbV; rw [decide_eq_true (p := 1 ≤ (b.length : Int)) (by omega), decide_eq_true (p := (b.length : Int) ≤ 2048) (by omega)]; rfl]
  simp only [Bool.not_true, Bool.false_eq_true, if_false]
  unfold m14_r22_Send_k3
  rw [rwithm _ _ hp]
  rfl
end Go.Proofs.Ythmibhmmbajcfaa.Abs
