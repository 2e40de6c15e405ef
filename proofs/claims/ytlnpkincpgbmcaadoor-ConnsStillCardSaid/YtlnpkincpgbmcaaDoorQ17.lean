/-
  ConnsStill.
-/
import Derived.Test.YtlnpkincpgbmcaaDoorK17b
import Derived.Test.YtlnpkincpgbmcaaDoorG17
import Derived.Test.YtlnpkincpgbmcaaDoorP17
namespace Go.Proofs.YtlnpkincpgbmcaaDoor.Abs
open Cn

theorem awake17 : m6_l17_awake = some true := by decide +kernel

def oc (a : GR17Conn) : GConnsConn := GConnsConn.mk a.ID a.Who a.Epoch a.Tx (GStreamStream.mk a.Stream.Buf a.Stream.Dead) (ou a.Pipe)
def kc (c : GConnsConn) : GR17Conn := GR17Conn.mk c.ID c.Who c.Epoch c.Tx (GR04Stream.mk c.Stream.Buf c.Stream.Dead) (th c.Pipe)
theorem kc_oc (a : GR17Conn) : kc (oc a) = a := by
  show GR17Conn.mk a.ID a.Who a.Epoch a.Tx (GR04Stream.mk a.Stream.Buf a.Stream.Dead) (th (ou a.Pipe)) = a
  rw [th_ou]
structure FewC (a : GR17Conn) : Prop where
  b : a.Stream.Buf.length ≤ 700
  p : FewR a.Pipe

theorem conn_m (a : GR17Conn) (hf : FewC a) : m15_l17_conn a = some (oc a) := by
  have hw := hf.p.w
  have hp := hf.p.pl
  unfold m15_l17_conn
  rw [map_loop rq a.Pipe.Wait hw (fun i h acc hacc => by
    unfold m15_l17_conn_s8
    rw [if_pos (decide_eq_true (by show (i : Int) < _; omega))]
    dsimp only
    rw [idx_nat, List.getElem?_eq_getElem h]
    simp only [Option.bind_some]
    unfold m30_l17_req
    simp only [Option.bind_some]
    rw [if_pos (by rw [List.length_singleton]; omega)]
    rfl) (fun acc => by
    unfold m15_l17_conn_s8
    rw [if_neg (by rw [decide_eq_true_eq]; show ¬ (_ : Int) < _; omega)])]
  simp only [Option.bind_some]
  unfold m15_l17_conn_k1
  rw [map_loop rp a.Pipe.Past hp (fun i h acc hacc => by
    unfold m15_l17_conn_s3
    rw [if_pos (decide_eq_true (by show (i : Int) < _; omega))]
    dsimp only
    rw [idx_nat, List.getElem?_eq_getElem h]
    simp only [Option.bind_some]
    unfold m31_l17_reply
    simp only [Option.bind_some]
    rw [if_pos (by rw [List.length_singleton]; omega)]
    rfl) (fun acc => by
    unfold m15_l17_conn_s3
    rw [if_neg (by rw [decide_eq_true_eq]; show ¬ (_ : Int) < _; omega)])]
  rfl
structure FewK (c : GConnsConn) : Prop where
  w : c.Pipe.Wait.length ≤ 1000000
  p : c.Pipe.Past.length ≤ 1000000
theorem FewC.k {a : GR17Conn} (h : FewC a) : FewK (oc a) := ⟨by show (a.Pipe.Wait.map rq).length ≤ _; rw [List.length_map]; exact h.p.w, by show (a.Pipe.Past.map rp).length ≤ _; rw [List.length_map]; exact h.p.pl⟩
theorem known_m (c : GConnsConn) (hf : FewK c) : m17_l17_known c = some (kc c) := by
  have hw := hf.w
  have hp := hf.p
  unfold m17_l17_known
  rw [map_loop qr c.Pipe.Wait hw (fun i h acc hacc => by
    unfold m17_l17_known_s8
    rw [if_pos (decide_eq_true (by show (i : Int) < _; omega))]
    dsimp only
    rw [idx_nat, List.getElem?_eq_getElem h]
    simp only [Option.bind_some]
    unfold m34_l17_asked
    simp only [Option.bind_some]
    rw [if_pos (by rw [List.length_singleton]; omega)]
    rfl) (fun acc => by
    unfold m17_l17_known_s8
    rw [if_neg (by rw [decide_eq_true_eq]; show ¬ (_ : Int) < _; omega)])]
  simp only [Option.bind_some]
  unfold m17_l17_known_k1
  rw [map_loop pr c.Pipe.Past hp (fun i h acc hacc => by
    unfold m17_l17_known_s3
    rw [if_pos (decide_eq_true (by show (i : Int) < _; omega))]
    dsimp only
    rw [idx_nat, List.getElem?_eq_getElem h]
    simp only [Option.bind_some]
    unfold m35_l17_told
    simp only [Option.bind_some]
    rw [if_pos (by rw [List.length_singleton]; omega)]
    rfl) (fun acc => by
    unfold m17_l17_known_s3
    rw [if_neg (by rw [decide_eq_true_eq]; show ¬ (_ : Int) < _; omega)])]
  rfl
theorem table_m (t : GR17Table) (hl : t.L.length ≤ 12) (hf : ∀ c ∈ t.L, FewC c) : m13_l17_table t = some ⟨t.L.map oc, t.Next⟩ := by
  unfold m13_l17_table
  rw [map_loop oc t.L (by omega) (fun i h acc hacc => by
    unfold m13_l17_table_s2
    rw [if_pos (decide_eq_true (by show (i : Int) < _; omega))]
    dsimp only
    rw [idx_nat, List.getElem?_eq_getElem h, Option.bind_some]
    show (m15_l17_conn t.L[i]).bind _ = _
    rw [conn_m _ (hf _ (List.getElem_mem h)), Option.bind_some]
    rw [if_pos (by rw [List.length_singleton]; omega)]) (fun acc => by
    unfold m13_l17_table_s2
    rw [if_neg (by rw [decide_eq_true_eq]; show ¬ (_ : Int) < _; omega)])]
  rfl
theorem rows_m (l : List GConnsConn) (hl : l.length ≤ 1000000) (hf : ∀ c ∈ l, FewK c) : m37_l17_rows l = some (l.map kc) := by
  unfold m37_l17_rows
  rw [map_loop kc l (by omega) (fun i h acc hacc => by
    unfold m37_l17_rows_s2
    rw [if_pos (decide_eq_true (by show (i : Int) < _; omega))]
    dsimp only
    rw [idx_nat, List.getElem?_eq_getElem h, Option.bind_some]
    show (m17_l17_known l[i]).bind _ = _
    rw [known_m _ (hf _ (List.getElem_mem h)), Option.bind_some]
    rw [if_pos (by rw [List.length_singleton]; omega)]) (fun acc => by
    unfold m37_l17_rows_s2
    rw [if_neg (by rw [decide_eq_true_eq]; show ¬ (_ : Int) < _; omega)])]
  rfl
theorem sameC_self (a : GR17Conn) (hf : FewC a) : m16_r17_SameConn a a = some true := by
  unfold m16_r17_SameConn
  simp only [decide_true, if_true]
  have h1 : m32_r04_Same (GR04Stream.mk a.Stream.Buf a.Stream.Dead) (GR04Stream.mk a.Stream.Buf a.Stream.Dead) = some true := by
    unfold m32_r04_Same
    simp
  rw [h1, Option.bind_some, if_pos rfl]
  show (m33_r16_Same a.Pipe a.Pipe).bind _ = _
  rw [same_self a.Pipe hf.p]
  rfl
theorem lists_self (l : List GR17Conn) (hl : l.length ≤ 1000000) (hf : ∀ c ∈ l, FewC c) : m36_r17_Lists l l = some true := by
  unfold m36_r17_Lists
  rw [if_neg (by simp)]
  rcases iter_scan l (fun _ _ => false) (m36_r17_Lists_s2 l l) (by omega) (fun i x hx => by
    have hlt := (List.getElem?_eq_some_iff.1 hx).1
    unfold m36_r17_Lists_s2
    rw [if_pos (decide_eq_true (by omega)), idx_nat, hx, Option.bind_some, Option.bind_some]
    show (m16_r17_SameConn x x).bind _ = _
    rw [sameC_self x (hf x (List.mem_of_getElem? hx)), Option.bind_some, if_neg (by decide), if_neg (by decide), wI_id (by omega) (by omega)]
    rfl) (by
    unfold m36_r17_Lists_s2
    rw [if_neg (by rw [decide_eq_true_eq]; omega)]) with ⟨i, x, hx, hp, e⟩ | ⟨hp, e⟩
  · cases hp
  · rw [e]; rfl
theorem same17 (t : GR17Table) (hl : t.L.length ≤ 1000000) (hf : ∀ c ∈ t.L, FewC c) : m18_r17_Same t t = some true := by
  unfold m18_r17_Same
  rw [if_pos (decide_eq_true rfl), lists_self _ hl hf]
  rfl
theorem few_conn (t : GR17Table) : ∃ b, m12_r17_Few t = some b ∧ (b = true → t.L.length ≤ 12 ∧ ∀ c ∈ t.L, FewC c) := by
  unfold m12_r17_Few
  by_cases h : (12 : Int) < (t.L.length : Int)
  · rw [if_pos (decide_eq_true h)]; exact ⟨false, rfl, fun h => (by cases h)⟩
  rw [if_neg (by rw [decide_eq_true_eq]; exact h)]
  rcases iter_scan t.L (fun _ c => decide (700 < (c.Stream.Buf.length : Int)) || !(m28_r16_Few c.Pipe).getD false) (m12_r17_Few_s2 t) (by omega) (fun i x hx => by
    have hlt := (List.getElem?_eq_some_iff.1 hx).1
    unfold m12_r17_Few_s2
    rw [if_pos (decide_eq_true (by omega)), idx_nat, hx, Option.bind_some, Option.bind_some]
    by_cases h7 : 700 < (x.Stream.Buf.length : Int)
    · rw [if_pos (decide_eq_true h7), decide_eq_true h7]; rfl
    · rw [if_neg (by rw [decide_eq_true_eq]; exact h7), decide_eq_false h7, Bool.false_or]
      obtain ⟨q, hq, _⟩ := fewPipe_m x.Pipe
      show (m28_r16_Few x.Pipe).bind _ = _
      rw [hq, Option.bind_some]
      cases q with
      | true =>
        rw [if_neg (by decide), if_neg (by decide), wI_id (by omega) (by omega)]; rfl
      | false => rfl) (by
    unfold m12_r17_Few_s2
    rw [if_neg (by rw [decide_eq_true_eq]; omega)]) with ⟨i, x, hx, hp, e⟩ | ⟨hp, e⟩
  · rw [e]; exact ⟨false, rfl, fun h => (by cases h)⟩
  · rw [e]
    refine ⟨true, rfl, fun _ => ⟨by omega, fun c hc => ?_⟩⟩
    obtain ⟨i, hi⟩ := List.mem_iff_getElem?.1 hc
    have := hp i c hi
    simp only [Bool.or_eq_false_iff, decide_eq_false_iff_not, Bool.not_eq_false'] at this
    obtain ⟨q, hq, hq2⟩ := fewPipe_m c.Pipe
    rw [hq] at this
    obtain ⟨h1, h2, h3⟩ := hq2 this.2
    exact ⟨by omega, ⟨by omega, by omega, fun x hx => by have := h3 x hx; omega⟩⟩

theorem sc_total (c : GConnsConn) (hs : ∃ b, m40_stream_Sane c.Stream = some b) (hp : ∃ b, m41_pipe_Sane c.Pipe = some b) : ∃ b, m25_conns_saneConn c = some b := by
  obtain ⟨b1, hs⟩ := hs
  obtain ⟨b2, hp⟩ := hp
  have hk : ∀ b, ∃ r, m25_conns_saneConn_k1 c b = some r := by
    intro b
    unfold m25_conns_saneConn_k1
    cases b with
    | false => exact ⟨false, rfl⟩
    | true =>
      have hin : ∃ r, ((m40_stream_Sane (GStreamStream.mk c.Stream.Buf c.Stream.Dead)).bind fun v2 => if v2 then ((m41_pipe_Sane (GPipePipe.mk (GSeqsWindow.mk c.Pipe.Win.Base c.Pipe.Win.Bits) c.Pipe.Next c.Pipe.Wait c.Pipe.Past)).bind fun v3 => some v3) else (some false)) = some r := by
        show ∃ r, (m40_stream_Sane c.Stream).bind _ = some r
        rw [hs, Option.bind_some]
        cases b1 with
        | false => exact ⟨false, rfl⟩
        | true =>
          show ∃ r, (m41_pipe_Sane c.Pipe).bind _ = some r
          rw [hp]; exact ⟨b2, rfl⟩
      obtain ⟨r, hr⟩ := hin
      rw [if_pos rfl]
      by_cases ht : c.Tx = -1
      · rw [if_pos (decide_eq_true ht)]; exact ⟨r, hr⟩
      · rw [if_neg (by rw [decide_eq_true_eq]; exact ht), Cn.within_m, Option.bind_some]
        cases (decide (0 ≤ c.Tx) && decide (c.Tx ≤ 1099511627776)) with
        | true => exact ⟨r, hr⟩
        | false => exact ⟨false, rfl⟩
  unfold m25_conns_saneConn
  rw [Cn.within_m, Option.bind_some]
  split
  · rw [Cn.within_m, Option.bind_some]
    split
    · exact hk _
    · split <;> exact hk _
  · split <;> exact hk _
theorem Tc_oc (a : GR17Conn) (hf : FewC a) : Tc (oc a) := by
  obtain ⟨b, h⟩ := sc_total (oc a) ⟨_, Sane_m _ (by show a.Stream.Buf.length ≤ _; have := hf.b; omega)⟩ ⟨_, saneP_m _ ⟨by show (a.Pipe.Wait.map rq).length ≤ _; rw [List.length_map]; exact hf.p.w, by show (a.Pipe.Past.map rp).length ≤ _; rw [List.length_map]; exact hf.p.pl, fun x hx => by
    obtain ⟨y, hy, rfl⟩ := List.mem_map.1 hx
    exact hf.p.v y hy⟩⟩
  exact (Tc_of h).1

theorem filter_len {α : Type} (p : α → Bool) : ∀ l : List α, (l.filter p).length + (l.filter (fun x => !p x)).length = l.length
  | [] => rfl
  | x :: l => by
    have := filter_len p l
    rw [List.filter_cons, List.filter_cons]
    cases p x
    · simp; omega
    · simp; omega

theorem none_m : m19_l17_theirs ⟨[], 0⟩ = some ⟨[], 0⟩ ∧ m18_r17_Same ⟨[], 0⟩ (GR17Table.mk ([] : List GR17Conn) 0) = some true := by
  constructor
  · unfold m19_l17_theirs
    show (m37_l17_rows []).bind _ = _
    rw [rows_m [] (Nat.zero_le _) (fun c h => by cases h)]; rfl
  · exact same17 _ (Nat.zero_le _) (fun c h => by cases h)

theorem find_zero (id : Int) : m11_conns_Find ⟨[], 0⟩ id = some (zconn, false) := by
  rcases find_m ⟨[], 0⟩ id (Nat.zero_le _) with ⟨e, _⟩ | ⟨c, _, h, _⟩
  · exact e
  · cases h

theorem connsStill_true (a0 : GR17Table) (a1 : GR17Conn) (a2 a3 a4 : Int) : m5_l17_ConnsStill a0 a1 a2 a3 a4 = some true := by
  unfold m5_l17_ConnsStill
  rw [awake17, Option.bind_some]
  obtain ⟨b, hb, hb2⟩ := few_conn a0
  show (m12_r17_Few a0).bind _ = _
  rw [hb, Option.bind_some]
  cases b with
  | false => rfl
  | true =>
  obtain ⟨hl, hf⟩ := hb2 rfl
  rw [if_neg (by decide)]
  obtain ⟨b, hb, hb2⟩ := few_conn ⟨[a1], 0⟩
  show (m12_r17_Few ⟨[a1], 0⟩).bind _ = _
  rw [hb, Option.bind_some]
  cases b with
  | false => rfl
  | true =>
  have hf1 := (hb2 rfl).2 a1 List.mem_cons_self
  rw [if_neg (by decide)]
  unfold m5_l17_ConnsStill_k2
  show (m13_l17_table a0).bind _ = _
  rw [table_m a0 hl hf, Option.bind_some]
  show (m15_l17_conn a1).bind _ = _
  rw [conn_m a1 hf1, Option.bind_some]
  have htc : ∀ c ∈ (GConnsTable.mk (a0.L.map oc) a0.Next).L, Tc c := fun c hc => by
    obtain ⟨x, hx, rfl⟩ := List.mem_map.1 hc
    exact Tc_oc x (hf x hx)
  have hk10 : m5_l17_ConnsStill_k10 a0 true ⟨a0.L.map oc, a0.Next⟩ () = some true := by
    unfold m5_l17_ConnsStill_k10
    rw [if_pos rfl]
    have : m19_l17_theirs ⟨a0.L.map oc, a0.Next⟩ = some a0 := by
      unfold m19_l17_theirs
      rw [rows_m (a0.L.map oc) (by rw [List.length_map]; omega) (fun c hc => by
        obtain ⟨x, hx, rfl⟩ := List.mem_map.1 hc
        exact (hf x hx).k), Option.bind_some, List.map_map, show kc ∘ oc = id from funext kc_oc, List.map_id]
    show (m19_l17_theirs ⟨a0.L.map oc, a0.Next⟩).bind _ = _
    rw [this, Option.bind_some]
    show (m18_r17_Same a0 a0).bind _ = _
    rw [same17 a0 (by omega) hf]
    rfl
  obtain ⟨none1, none2⟩ := none_m
  -- Hello
  have hk9 : ∃ v7 v8, m8_conns_Hello ⟨a0.L.map oc, a0.Next⟩ a2 a3 a4 = some v7 ∧ m11_conns_Find v7.1 a2 = some v8 ∧ m5_l17_ConnsStill_k9 a0 a3 a4 true ⟨a0.L.map oc, a0.Next⟩ v7 v8 () = some true := by
    rcases hello_m ⟨a0.L.map oc, a0.Next⟩ a2 a3 a4 htc with ⟨e, he, hh⟩ | ⟨i, c, hs, hw, hep, hc, hid, hcw, hlow, hi, hh, hs2, htc2⟩
    · refine ⟨_, _, hh, find_zero a2, ?_⟩
      unfold m5_l17_ConnsStill_k9
      rw [if_neg (by rw [decide_eq_true_eq]; exact he), if_pos (by rw [decide_eq_false he]; rfl)]
      show (m19_l17_theirs ⟨[], 0⟩).bind _ = _
      rw [none1, Option.bind_some, none2, Option.bind_some, if_neg (by decide)]
      exact hk10
    · have hmem : ({ c with Who := a3, Epoch := a4 } : GConnsConn) ∈ (heard ⟨a0.L.map oc, a0.Next⟩ a3).set i { c with Who := a3, Epoch := a4 } :=
        List.mem_iff_getElem?.2 ⟨i, by rw [List.getElem?_set_self (List.getElem?_eq_some_iff.1 hi).1]⟩
      rcases find_m ⟨(heard ⟨a0.L.map oc, a0.Next⟩ a3).set i { c with Who := a3, Epoch := a4 }, a0.Next⟩ a2 (Nat.le_trans hs2.1 (by decide)) with ⟨_, h⟩ | ⟨d, hfd, hd, hdid⟩
      · exact absurd hid (h ({ c with Who := a3, Epoch := a4 } : GConnsConn) hmem)
      · have hdc := hs2.id_inj hd hmem (hdid.trans hid.symm)
        subst hdc
        refine ⟨_, _, hh, hfd, ?_⟩
        unfold m5_l17_ConnsStill_k9
        dsimp only
        have hlen := filter_len (fun x : GConnsConn => decide (x.Who = a3)) (a0.L.map oc)
        rw [List.length_map] at hlen
        have hlen' : (((a0.L.map oc).filter (fun x => decide (x.Who = a3))).length : Int) + (((heard ⟨a0.L.map oc, a0.Next⟩ a3).set i { c with Who := a3, Epoch := a4 }).length : Int) = (a0.L.length : Int) := by
          rw [List.length_set]
          unfold heard
          dsimp only
          omega
        rw [if_pos (decide_eq_true (rfl : (0 : Int) = 0)), if_neg (fun h => Bool.noConfusion h), if_neg (by simp), if_neg (by simp), if_neg (by rw [hlen', wI_id (by omega) (by omega)]; simp), if_neg (fun h => Bool.noConfusion h)]
        exact hk10
  obtain ⟨v7, v8, h7, h8, h9⟩ := hk9
  rcases set_m ⟨a0.L.map oc, a0.Next⟩ (oc a1) htc (Tc_oc a1 hf1) with ⟨e, _⟩ | ⟨e, _⟩ | ⟨i, x, hs, hi, hx, ⟨e, _⟩ | ⟨e, hs2⟩⟩
  · show (m14_conns_Set _ (oc a1)).bind _ = _
    rw [e, Option.bind_some]
    show (m11_conns_Find ⟨[], 0⟩ a1.ID).bind _ = _
    rw [find_zero, Option.bind_some, h7, Option.bind_some, h8, Option.bind_some, if_neg (by decide), if_pos (by decide)]
    show (m19_l17_theirs ⟨[], 0⟩).bind _ = _
    rw [none1, Option.bind_some, none2, Option.bind_some, if_neg (by decide)]
    exact h9
  · show (m14_conns_Set _ (oc a1)).bind _ = _
    rw [e, Option.bind_some]
    show (m11_conns_Find ⟨[], 0⟩ a1.ID).bind _ = _
    rw [find_zero, Option.bind_some, h7, Option.bind_some, h8, Option.bind_some, if_neg (by decide), if_pos (by decide)]
    show (m19_l17_theirs ⟨[], 0⟩).bind _ = _
    rw [none1, Option.bind_some, none2, Option.bind_some, if_neg (by decide)]
    exact h9
  · show (m14_conns_Set _ (oc a1)).bind _ = _
    rw [e, Option.bind_some]
    show (m11_conns_Find ⟨[], 0⟩ a1.ID).bind _ = _
    rw [find_zero, Option.bind_some, h7, Option.bind_some, h8, Option.bind_some, if_neg (by decide), if_pos (by decide)]
    show (m19_l17_theirs ⟨[], 0⟩).bind _ = _
    rw [none1, Option.bind_some, none2, Option.bind_some, if_neg (by decide)]
    exact h9
  · show (m14_conns_Set _ (oc a1)).bind _ = _
    rw [e, Option.bind_some]
    have hmem : oc a1 ∈ (a0.L.map oc).set i (oc a1) := List.mem_iff_getElem?.2 ⟨i, by rw [List.getElem?_set_self (List.getElem?_eq_some_iff.1 hi).1]⟩
    rcases find_m ⟨(a0.L.map oc).set i (oc a1), a0.Next⟩ a1.ID (Nat.le_trans hs2.1 (by decide)) with ⟨_, h⟩ | ⟨d, hfd, hd, hdid⟩
    · exact absurd rfl (h _ hmem)
    · have hdc := hs2.id_inj hd hmem hdid
      subst hdc
      show (m11_conns_Find ⟨(a0.L.map oc).set i (oc a1), a0.Next⟩ a1.ID).bind _ = _
      rw [hfd, Option.bind_some, h7, Option.bind_some, h8, Option.bind_some]
      dsimp only
      rw [if_pos (decide_eq_true (rfl : (0 : Int) = 0)), if_neg (fun h => Bool.noConfusion h)]
      show (m17_l17_known (oc a1)).bind _ = _
      rw [known_m _ hf1.k, Option.bind_some, kc_oc]
      show (m16_r17_SameConn a1 a1).bind _ = _
      rw [sameC_self a1 hf1, Option.bind_some, if_neg (by decide), if_neg (by rw [List.length_set, List.length_map]; simp), if_neg (fun h => Bool.noConfusion h)]
      exact h9
end Go.Proofs.YtlnpkincpgbmcaaDoor.Abs
