/-
  t
-/
import Derived.Test.YtdehclinlcnlhaaT19a
namespace Go.Proofs.Ytdehclinlcnlhaa.Abs
open Go.RowKit Go.Proofs
def m63_slices_Cloneo (a0 : List GApiWrite) : Option (List GApiWrite) :=
  if (([] : List GApiWrite).length + a0.length) * 56 ≤ 140737488355328 then (some (([] : List GApiWrite) ++ a0)) else none

set_option maxRecDepth 100000 in
theorem m63_slices_Cloneo_c {a0 : List GApiWrite} {r : (List GApiWrite)} (h : m63_slices_Cloneo a0 = some r) : CallsB Try.prog 63 [] [.one (.sl a0.length (a0.flatMap eGApiWrite))] (fun y m' => y = .s (.one (.ls 0 r.length)) ∧ m' = [.arr 88 3 0 (r.flatMap eGApiWrite)]) := by
  unfold m63_slices_Cloneo at h
  refine callsB_of Try.func63 rfl (nt := 8) rfl (Nat.le_of_ble_eq_true rfl) ?_
  intro w0 S0 X0 H0
  refine cseq ?_
  refine cregion ?_
  refine sv rfl (opv_as rfl) ?_
  refine snil ?_
  refine cseq ?_
  refine cseq ?_
  refine cregion ?_
  refine sv rfl (opv_mv rfl) ?_
  refine snilq rfl Try.underlying74 rfl (fun nq hnq => ?_)
  cases nq
  · skip
    refine snil ?_
    refine ccond rfl (fun hx => Bool.noConfusion hx) (fun _ => ?_)
    refine cskip ?_
    refine then_normal ?_
    refine cseq ?_
    refine cregion ?_
    refine sbuild0 rfl Try.underlying74 ei88 ?_
    refine sv rfl (opv_mv rfl) ?_
    obtain ⟨hb1, h⟩ := chk_eq h
    refine sapp (f := eGApiWrite) (xs := ([] : List GApiWrite)) (us := a0) rfl Try.underlying74 ei88 ni74 (fun _ => rfl) rfl rfl (.one _ _ _ _ (.id _ rfl)) rfl rfl rfl (.sl _ _ _ (flat_len (f := eGApiWrite) (fun _ => rfl) _)) rfl rfl hb1 (by decide) ?_
    refine sv rfl (opv_as rfl) ?_
    refine snil ?_
    refine cret ?_
    obtain rfl := Option.some.inj h
    exact ⟨Or.inr rfl, _, [0], [.one (.ls 0 (([] : List GApiWrite) ++ a0).length)], [.arr 88 3 0 ((([] : List GApiWrite) ++ a0).flatMap eGApiWrite)], (resVs_cons (ResV.tmp _ _ rfl) resVs_nil), rfl, rfl, ⟨by decide, rfl⟩, rfl, rfl, ⟨rfl, rfl⟩⟩
  · obtain rfl := List.eq_nil_of_length_eq_zero (hnq rfl)
    replace h : (some ([] : List GApiWrite)) = some r := by first | exact h | (rw [if_pos (by decide)] at h; exact h)
    refine snil ?_
    refine ccond rfl (fun _ => ?_) (fun hx => Bool.noConfusion hx)
    refine cseq ?_
    refine cregion ?_
    refine sv rfl (opv_as rfl) ?_
    refine snil ?_
    refine sadopt_c 88 3 2 (by decide) rfl ?_
    refine cret ?_
    refine then_ret ?_
    obtain rfl := Option.some.inj h
    exact ⟨Or.inr rfl, _, [0], [.one (.ls 0 ([] : List GApiWrite).length)], [.arr 88 3 0 (([] : List GApiWrite).flatMap eGApiWrite)], (resVs_cons (ResV.tmp _ _ rfl) resVs_nil), rfl, rfl, ⟨by decide, rfl⟩, rfl, rfl, ⟨rfl, rfl⟩⟩

section
open Go.Lib

set_option maxHeartbeats 4000000 in
set_option maxRecDepth 100000 in
theorem ins64_end (b n c vb vc : Nat) (vs : List Value) (w : World) (i0 : TypeInfo) (hi0 : Try.prog.info? 88 = some i0) (hs0 : i0.size = 3) (hroom : n + 1 ≤ c) (hc63 : c ≤ 9223372036854775807)
    (hvl : vs.length = 3) (hsp : ∀ j, j < 3 → (w.cell? ⟨b, n * 3 + j, none⟩).isSome = true) (hfz : ∀ j, j < 3 → w.frozen? ⟨b, n * 3 + j, none⟩ = false)
    (hvs : ∀ j v, vs[j]? = some v → w.cell? ⟨vb, j, none⟩ = some v) (h1v : ∀ v ∈ vs, v.oneCell' = true) :
    Calls Try.prog 64 #[.slice (some ⟨b, 0, none⟩) n c, .int .i64 n, .slice (some ⟨vb, 0, none⟩) 1 vc] w fun e w' =>
      e = .returned (.slice (some ⟨b, 0, none⟩) (n + 1) c) ∧ w' = w.setCells b (n * 3) vs := by
  have hsrc : _root_.Go.Src Try.prog i0.size 74 (.slice (some ⟨vb, 0, none⟩) 1 vc) 1 vs w := by
    rw [hs0]
    exact _root_.Go.Src.ofSlice w Try.underlying74 ⟨vb, 0, none⟩ 1 vc vs (by omega) (fun j u hj => by rw [Addr.add_lit, Nat.zero_add]; exact hvs j u hj) h1v
  go_enter Try.func64, Try.ntmps64
  go_wp2_with (at_builtin; refine wpList_append_room_src _ rfl _ _ 74 74 rfl 88 i0 Try.underlying74 hi0 b 0 n c rfl _ rfl 1 vs hsrc hroom (by rw [hvl, hs0, Nat.zero_add]; exact hsp) (by rw [hvl, hs0, Nat.zero_add]; exact hfz) ?_)
  go_ret
  refine ⟨rfl, ?_⟩
  first | rfl | (simp; done) | (simp [hs0]; done)

set_option maxHeartbeats 4000000 in
set_option maxRecDepth 100000 in
theorem ins64_egrow (b n c vb vc : Nat) (cs vs : List Value) (w : World) (i0 : TypeInfo) (hi0 : Try.prog.info? 88 = some i0) (hz0 : i0.zero = some (.agg #[.slice none 0 0, .slice none 0 0, .bool false])) (hs0 : i0.size = 3) (hnc : n ≤ c) (hroom : c < n + 1) (hn63 : n + 1 ≤ 9223372036854775807)
    (hfit : Builtin.nextslicecap (n + 1) c * i0.bytes ≤ 281474976710656) (hcl : cs.length = n * 3) (hvl : vs.length = 3)
    (hcs : ∀ j v, cs[j]? = some v → w.cell? ⟨b, j, none⟩ = some v) (hvs : ∀ j v, vs[j]? = some v → w.cell? ⟨vb, j, none⟩ = some v) (h1v : ∀ v ∈ vs, v.oneCell' = true) :
    Calls Try.prog 64 #[.slice (some ⟨b, 0, none⟩) n c, .int .i64 n, .slice (some ⟨vb, 0, none⟩) 1 vc] w fun e w' =>
      e = .returned (.slice (some ⟨w.heap.size, 0, none⟩) (n + 1) (grownCap w (n + 1) c 88)) ∧
      w' = w.drew.alloc (.cells ((cs ++ vs).toArray ++ Builtin.zeroCells (Value.cells (.agg #[.slice none 0 0, .slice none 0 0, .bool false])) (grownCap w (n + 1) c 88 - (n + 1))) 88) := by
  have hsrc : _root_.Go.Src Try.prog i0.size 74 (.slice (some ⟨vb, 0, none⟩) 1 vc) 1 vs w := by
    rw [hs0]
    exact _root_.Go.Src.ofSlice w Try.underlying74 ⟨vb, 0, none⟩ 1 vc vs (by omega) (fun j u hj => by rw [Addr.add_lit, Nat.zero_add]; exact hvs j u hj) h1v
  have hold : (Builtin.firstCells i0.size n (.slice (some ⟨b, 0, none⟩) n c)).run Try.prog w.drew = .ok cs.toArray w.drew := by
    rw [hs0]
    exact run_firstCells_some w.drew 3 n ⟨b, 0, none⟩ n c cs (by omega) (fun j v hj => by rw [Addr.add_lit, Nat.zero_add]; exact hcs j v hj)
  have hrun : ∀ ty, (Builtin.append_ #[74, 74] ty #[.slice (some ⟨b, 0, none⟩) n c, .slice (some ⟨vb, 0, none⟩) 1 vc]).run Try.prog w = .ok (.slice (some ⟨w.heap.size, 0, none⟩) (n + 1) (grownCap w (n + 1) c 88)) (w.drew.alloc (.cells ((cs ++ vs).toArray ++ Builtin.zeroCells (Value.cells (.agg #[.slice none 0 0, .slice none 0 0, .bool false])) (grownCap w (n + 1) c 88 - (n + 1))) 88)) := fun ty =>
    run_append_grow_src w 74 74 ty 88 i0 _ Try.underlying74 hi0 hz0 (some ⟨b, 0, none⟩) n c cs hold _ 1 vs hsrc hroom (by omega) hfit
  go_enter Try.func64, Try.ntmps64
  go_wp2_with (at_builtin; refine Lib.wpList_append_run _ rfl _ _ _ _ rfl _ _ rfl rfl _ _ (hrun _) ?_)
  all_goals (go_ret; first | exact ⟨rfl, rfl⟩ | exact ⟨rfl, by simp [Value.cells]⟩)

set_option maxHeartbeats 4000000 in
set_option maxRecDepth 100000 in
theorem ins64_shift (b n c i vb vc : Nat) (cs vs : List Value) (w : World) (hs0 : (Try.prog.info? 88).map (·.size) = some 3) (hi : i < n) (hroom : n + 1 ≤ c) (hc63 : c ≤ 9223372036854775807) (hvb : vb ≠ b)
    (hcl : cs.length = n * 3) (hvl : vs.length = 3)
    (hcs : ∀ j v, cs[j]? = some v → w.cell? ⟨b, j, none⟩ = some v) (hsp : ∀ j, j < (n + 1) * 3 → (w.cell? ⟨b, j, none⟩).isSome = true) (hfz : ∀ j, j < (n + 1) * 3 → w.frozen? ⟨b, j, none⟩ = false)
    (hvs : ∀ j v, vs[j]? = some v → w.cell? ⟨vb, j, none⟩ = some v) (h1c : ∀ v ∈ cs, v.oneCell' = true) (h1v : ∀ v ∈ vs, v.oneCell' = true)
    (tA tB : TypeId) (kA kB : Nat) (hsa : w.shape? vb = some (tA, kA)) (hsb : w.shape? b = some (tB, kB)) (hkB : kB ≠ 0) (hfa : w.frozen? ⟨vb, 0, none⟩ = false) (hfe : w.frozen? ⟨vb, kA, none⟩ = false) :
    Calls Try.prog 64 #[.slice (some ⟨b, 0, none⟩) n c, .int .i64 i, .slice (some ⟨vb, 0, none⟩) 1 vc] w fun e w' =>
      e = .returned (.slice (some ⟨b, 0, none⟩) (n + 1) c) ∧ w' = (w.drew.setCells b ((i + 1) * 3) (cs.drop ((i) * 3))).setCells b ((i) * 3) vs := by
  have hz2 : ¬ ((i : Int) = (n : Int)) := by omega
  have hz3 : ¬ ((c : Int) < (n : Int) + 1) := by omega
  have mixed : Try.prog.follows .mixedOrders = true := by kernel_rfl
  have hov : ∀ lb cb, (callFunc 78 #[.slice (some ⟨vb, 0, none⟩) 1 vc, .slice (some ⟨b, (i + 1) * 3, none⟩) lb cb]).run Try.prog w = .ok (.value (.bool false)) w := fun lb cb => by
    rw [run_callFunc_extern Try.func78 (by kernel_rfl) (by kernel_rfl) (by kernel_rfl) (e := Extern.SlicesOverlaps.overlaps #[74, 74] #[4]) (by kernel_rfl),
      Lib.run_overlaps_apart w 74 4 88 Try.underlying74 3 (fun w => run_sizeOf' hs0 w) ⟨vb, 0, none⟩ ⟨b, (i + 1) * 3, none⟩ 1 vc lb cb hvb tA tB kA kB hsa hsb hkB hfa hfe]
    rfl
  have hdl : (cs.drop ((i) * 3)).length = (n - i) * 3 := by rw [List.length_drop, hcl]; omega
  have hw1 : IntKind.i64.wrap ((i : Int) + 1) = (i : Int) + 1 := by rw [IntKind.wrap_i64]; omega
  have hb1 : (0 : Int) ≤ (i : Int) + 1 := by omega
  have hin : i ≤ n := by omega
  have htn : ((i : Int) + 1).toNat = i + 1 := by omega
  have hb2 : ¬ (c = i + 1) := by omega
  have hb3 : (i : Int) ≤ (n : Int) + 1 := by omega
  have hb4 : ¬ (c = i) := by omega
  have hcp1 : ∀ ty dc sc, (Builtin.copy_ #[74, 74] ty #[.slice (some ⟨b, (i + 1) * 3, none⟩) (n - i) dc, .slice (some ⟨b, (i) * 3, none⟩) (n + 1 - i) sc]).run Try.prog w.drew = .ok (goInt (n - i : Nat)) (w.drew.setCells b ((i + 1) * 3) (cs.drop ((i) * 3))) := fun ty dc sc =>
    run_copy_k w.drew _ _ ty 88 b ((i + 1) * 3) (n - i) dc ⟨b, (i) * 3, none⟩ (n + 1 - i) sc 3 (n - i) (cs.drop ((i) * 3)) Try.underlying74 hs0 (by simp only [Nat.min_def]; split <;> omega) hdl
      (fun j v hj => by rw [Addr.add_lit]; exact hcs ((i) * 3 + j) v (by rwa [List.getElem?_drop] at hj))
      (fun j hj => hsp _ (by rw [hdl] at hj; omega)) (fun j hj => hfz _ (by rw [hdl] at hj; omega)) (fun v hv => h1c v (List.mem_of_mem_drop hv))
  obtain ⟨W1, hW1⟩ : ∃ W1, W1 = w.drew.setCells b ((i + 1) * 3) (cs.drop ((i) * 3)) := ⟨_, rfl⟩
  have hsp1 : ∀ k, k < (n + 1) * 3 → (W1.cell? ⟨b, k, none⟩).isSome = true := fun k hk => by
    rw [hW1]
    exact isSome_setCells b (cs.drop ((i) * 3)) ((i + 1) * 3) w.drew (fun j hj => hsp _ (by rw [hdl] at hj; omega)) _ (hsp k hk)
  have hcp2 : ∀ (W : World), (∀ x, W.cell? x = W1.cell? x) → (∀ x, W.frozen? x = W1.frozen? x) → ∀ ty dc, (Builtin.copy_ #[74, 74] ty #[.slice (some ⟨b, (i) * 3, none⟩) (n + 1 - i) dc, .slice (some ⟨vb, 0, none⟩) 1 vc]).run Try.prog W = .ok (goInt (1 : Nat)) (W.setCells b ((i) * 3) vs) := fun W hWc hWf ty dc =>
    run_copy_k W _ _ ty 88 b ((i) * 3) (n + 1 - i) dc ⟨vb, 0, none⟩ 1 vc 3 1 vs Try.underlying74 hs0 (by simp only [Nat.min_def]; split <;> omega) (by omega)
      (fun j v hj => by
        rw [Addr.add_lit, hWc, hW1, Nat.zero_add, World.cell?_setCells_out b _ _ _ _ (fun h _ => absurd h hvb)]
        exact hvs j v hj)
      (fun j hj => by rw [hWc]; exact hsp1 _ (by omega)) (fun j hj => by rw [hWf, hW1, World.frozen?_setCells]; exact hfz _ (by omega)) h1v
  rw [← hW1] at hcp1
  go_enter Try.func64, Try.ntmps64
  go_wp2_with (simp only [hov])
  go_region_law_o (refine step_copy_runI rfl _ _ 74 74 rfl _ _ (by simp [Act.eval, Act.put]) (by simp [Act.eval, Act.put]) (hcp1 _ _ _) ?_)
  go_wp2_with (at_builtin; refine wpList_copy_runI _ rfl _ _ 74 74 rfl _ _ rfl rfl (hcp2 _ (fun _ => rfl) (fun _ => rfl) _ _) ?_)
  go_ret
  first | exact ⟨rfl, rfl⟩ | exact ⟨rfl, by rw [hW1]⟩

set_option maxHeartbeats 4000000 in
set_option maxRecDepth 100000 in
theorem ins64_grow (b n c i vb vc : Nat) (cs vs : List Value) (w : World) (i0 : TypeInfo) (hi0 : Try.prog.info? 88 = some i0) (hz0 : i0.zero = some (.agg #[.slice none 0 0, .slice none 0 0, .bool false])) (hs0 : i0.size = 3) (hi : i < n) (hnc : n ≤ c) (hroom : c < n + 1) (hn63 : n + 1 ≤ 4611686018427387904)
    (hb48 : (n + 1) * i0.bytes ≤ 281474976710656) (hfit : Builtin.nextslicecap (n + 1) c * i0.bytes ≤ 281474976710656) (hcl : cs.length = n * 3) (hvl : vs.length = 3)
    (hcs : ∀ j v, cs[j]? = some v → w.cell? ⟨b, j, none⟩ = some v) (hvs : ∀ j v, vs[j]? = some v → w.cell? ⟨vb, j, none⟩ = some v) (h1c : ∀ v ∈ cs, v.oneCell' = true) (h1v : ∀ v ∈ vs, v.oneCell' = true) :
    Calls Try.prog 64 #[.slice (some ⟨b, 0, none⟩) n c, .int .i64 i, .slice (some ⟨vb, 0, none⟩) 1 vc] w fun e w' =>
      e = .returned (.slice (some ⟨w.heap.size, 0, none⟩) (n + 1) (grownCap w (n + 1) c 88)) ∧
      w' = (((w.alloc (.cells ((cs.take ((i) * 3)).toArray ++ Builtin.zeroCells (Value.cells (.agg #[.slice none 0 0, .slice none 0 0, .bool false])) (n + 1 - i) ++ Builtin.zeroCells (Value.cells (.agg #[.slice none 0 0, .slice none 0 0, .bool false])) (grownCap w (n + 1) c 88 - (n + 1))) 88)).drew.setCells w.heap.size ((i) * 3) vs).drew).setCells w.heap.size ((i + 1) * 3) (cs.drop ((i) * 3)) := by
  have mixed : Try.prog.follows .mixedOrders = true := by kernel_rfl
  have hz2 : ¬ ((i : Int) = (n : Int)) := by omega
  have hz3 : (c : Int) < (n : Int) + 1 := by omega
  have hsz : (Try.prog.info? 88).map (·.size) = some 3 := by rw [hi0]; simp [hs0]
  have hbw : b < w.heap.size := block_lt_of_cell (hcs 0 _ (List.getElem?_eq_getElem (by omega)))
  have hvw : vb < w.heap.size := block_lt_of_cell (hvs 0 _ (List.getElem?_eq_getElem (by omega)))
  have hkk : (n : Int) + 1 - (i : Int) = ((n + 1 - i : Nat) : Int) := by omega
  have hik : i + (n + 1 - i) = n + 1 := by omega
  have htl : (cs.take ((i) * 3)).length = i * 3 := by rw [List.length_take]; omega
  have hold : (Builtin.firstCells i0.size i (.slice (some ⟨b, 0, none⟩) i c)).run Try.prog w.drew = .ok (cs.take ((i) * 3)).toArray w.drew := by
    rw [hs0]
    exact run_firstCells_some w.drew 3 i ⟨b, 0, none⟩ i c (cs.take ((i) * 3)) htl (fun j v hj => by
      rw [Addr.add_lit, Nat.zero_add]
      rw [List.getElem?_take] at hj
      split at hj
      · exact hcs j v hj
      · cases hj)
  have hrz : ∀ ty, (Builtin.append_ #[74, 3] ty #[.slice (some ⟨b, 0, none⟩) i c, .int .i64 ((n : Int) + 1 - (i : Int))]).run Try.prog w =
      .ok (.slice (some ⟨w.heap.size, 0, none⟩) (n + 1) (grownCap w (n + 1) c 88)) (w.drew.alloc (.cells ((cs.take ((i) * 3)).toArray ++ Builtin.zeroCells (Value.cells (.agg #[.slice none 0 0, .slice none 0 0, .bool false])) (n + 1 - i) ++ Builtin.zeroCells (Value.cells (.agg #[.slice none 0 0, .slice none 0 0, .bool false])) (grownCap w (n + 1) c 88 - (n + 1))) 88)) := fun ty => by
    have h := Lib.run_append_grow_zeros w 74 3 ty 88 i0 _ .i64 .i64 Try.underlying74 Try.underlying3 hi0 hz0 (some ⟨b, 0, none⟩) i c (cs.take ((i) * 3)) hold (n + 1 - i) (by omega) (by omega) (by omega) (by omega) (Nat.le_trans (Nat.mul_le_mul_right _ (by omega)) hb48) (by rw [hik]; exact hfit)
    rw [hik] at h
    rw [hkk]
    exact h
  obtain ⟨G, hG⟩ : ∃ G, G = grownCap w (n + 1) c 88 := ⟨_, rfl⟩
  obtain ⟨ROW, hROW⟩ : ∃ ROW : Array Value, ROW = (cs.take ((i) * 3)).toArray ++ Builtin.zeroCells (Value.cells (.agg #[.slice none 0 0, .slice none 0 0, .bool false])) (n + 1 - i) ++ Builtin.zeroCells (Value.cells (.agg #[.slice none 0 0, .slice none 0 0, .bool false])) (G - (n + 1)) := ⟨_, rfl⟩
  rw [← hG] at hrz ⊢
  rw [← hROW] at hrz ⊢
  have hzc : ∀ k, (Builtin.zeroCells (Value.cells (.agg #[.slice none 0 0, .slice none 0 0, .bool false])) k).size = k * 3 := fun k => by simp [Builtin.zeroCells, Value.cells]
  have hRl : (n + 1) * 3 ≤ ROW.size := by
    rw [hROW, Array.size_append, Array.size_append, hzc, hzc, List.size_toArray, htl]
    omega
  obtain ⟨W1, hW1⟩ : ∃ W1, W1 = w.drew.alloc (.cells ROW 88) := ⟨_, rfl⟩
  rw [← hW1] at hrz
  have hN : ∀ j, j < (n + 1) * 3 → (W1.cell? ⟨w.heap.size, j, none⟩).isSome = true := fun j hj => by
    rw [hW1, World.cell?_alloc_at (w := w.drew) ROW _ w.heap.size j rfl, Array.getElem?_eq_getElem (by omega)]; rfl
  have hNf : ∀ j, W1.frozen? ⟨w.heap.size, j, none⟩ = false := fun j => by rw [hW1]; exact World.frozen?_alloc_at (w := w.drew) ROW _ w.heap.size j rfl
  have hOb : ∀ j v, w.cell? ⟨b, j, none⟩ = some v → W1.cell? ⟨b, j, none⟩ = some v := fun j v h => by rw [hW1, World.cell?_alloc_past (w := w.drew) _ b j hbw]; exact h
  have hOv : ∀ j v, w.cell? ⟨vb, j, none⟩ = some v → W1.cell? ⟨vb, j, none⟩ = some v := fun j v h => by rw [hW1, World.cell?_alloc_past (w := w.drew) _ vb j hvw]; exact h
  have hcpA : ∀ (W : World), (∀ x, W.cell? x = W1.cell? x) → (∀ x, W.frozen? x = W1.frozen? x) → ∀ ty dc, (Builtin.copy_ #[74, 74] ty #[.slice (some ⟨w.heap.size, (i) * 3, none⟩) (n + 1 - i) dc, .slice (some ⟨vb, 0, none⟩) 1 vc]).run Try.prog W = .ok (goInt (1 : Nat)) (W.setCells w.heap.size ((i) * 3) vs) := fun W hWc hWf ty dc =>
    run_copy_k W _ _ ty 88 w.heap.size ((i) * 3) (n + 1 - i) dc ⟨vb, 0, none⟩ 1 vc 3 1 vs Try.underlying74 hsz (by simp only [Nat.min_def]; split <;> omega) (by omega)
      (fun j v hj => by rw [Addr.add_lit, hWc, Nat.zero_add]; exact hOv _ v (hvs j v hj))
      (fun j hj => by rw [hWc]; exact hN _ (by omega)) (fun j hj => by rw [hWf]; exact hNf _) h1v
  have hGn : n + 1 ≤ G := by rw [hG]; exact grownCap_ge w _ _ _
  have hG63 : G ≤ 9223372036854775807 := by
    have := grownCap_le_maxLen w (n + 1) c 88 (by unfold maxLen; omega)
    rw [← hG] at this
    unfold maxLen at this
    omega
  have hGi : ¬ (G = i) := by omega
  have hGim : ¬ (G = i + 1) := by omega
  have hci : ¬ (c = i) := by omega
  have hbN : b ≠ w.heap.size := by omega
  have hdl : (cs.drop ((i) * 3)).length = (n - i) * 3 := by rw [List.length_drop, hcl]; omega
  have hcpB : ∀ (W : World), (∀ x, W.cell? x = (W1.setCells w.heap.size ((i) * 3) vs).cell? x) → (∀ x, W.frozen? x = (W1.setCells w.heap.size ((i) * 3) vs).frozen? x) → ∀ ty dc sc, (Builtin.copy_ #[74, 74] ty #[.slice (some ⟨w.heap.size, (i + 1) * 3, none⟩) (n - i) dc, .slice (some ⟨b, (i) * 3, none⟩) (n - i) sc]).run Try.prog W = .ok (goInt (n - i : Nat)) (W.setCells w.heap.size ((i + 1) * 3) (cs.drop ((i) * 3))) := fun W hWc hWf ty dc sc =>
    run_copy_k W _ _ ty 88 w.heap.size ((i + 1) * 3) (n - i) dc ⟨b, (i) * 3, none⟩ (n - i) sc 3 (n - i) (cs.drop ((i) * 3)) Try.underlying74 hsz (by simp only [Nat.min_def]; split <;> omega) hdl
      (fun j v hj => by
        rw [Addr.add_lit, hWc, World.cell?_setCells_out _ _ _ _ _ (fun h _ => absurd h hbN)]
        exact hOb _ v (hcs ((i) * 3 + j) v (by rwa [List.getElem?_drop] at hj)))
      (fun j hj => by rw [hWc]; exact isSome_setCells w.heap.size vs ((i) * 3) W1 (fun t ht => hN _ (by omega)) _ (hN _ (by rw [hdl] at hj; omega)))
      (fun j hj => by rw [hWf, World.frozen?_setCells]; exact hNf _) (fun v hv => h1c v (List.mem_of_mem_drop hv))
  subst hW1
  have hE1 : ∀ x, ((w.alloc (.cells ROW 88)).drew).cell? x = (w.drew.alloc (.cells ROW 88)).cell? x := fun x => rfl
  have hE2 : ∀ x, ((w.alloc (.cells ROW 88)).drew).frozen? x = (w.drew.alloc (.cells ROW 88)).frozen? x := fun x => rfl
  have hF1 : ∀ x, (((w.alloc (.cells ROW 88)).drew.setCells w.heap.size ((i) * 3) vs).drew).cell? x = ((w.drew.alloc (.cells ROW 88)).setCells w.heap.size ((i) * 3) vs).cell? x := fun x => rfl
  have hF2 : ∀ x, (((w.alloc (.cells ROW 88)).drew.setCells w.heap.size ((i) * 3) vs).drew).frozen? x = ((w.drew.alloc (.cells ROW 88)).setCells w.heap.size ((i) * 3) vs).frozen? x := fun x => rfl
  have hw1 : IntKind.i64.wrap ((i : Int) + 1) = (i : Int) + 1 := by rw [IntKind.wrap_i64]; omega
  have hb1 : (0 : Int) ≤ (i : Int) + 1 := by omega
  have hin : i ≤ n := by omega
  have htn : ((i : Int) + 1).toNat = i + 1 := by omega
  have hb3 : (i : Int) ≤ (n : Int) := by omega
  clear hkk hik hold hROW hG hRl htl hzc
  go_enter Try.func64, Try.ntmps64
  go_wp2_with (first
    | (at_builtin; refine Lib.wpList_append_run _ rfl _ _ _ _ rfl _ _ rfl rfl _ _ (hrz _) ?_)
    | (at_builtin; refine wpList_copy_runI _ rfl _ _ 74 74 rfl _ _ rfl rfl (hcpA _ hE1 hE2 _ _) ?_)
    | (at_builtin; refine wpList_copy_runI _ rfl _ _ 74 74 rfl _ _ rfl rfl (hcpB _ (fun _ => rfl) (fun _ => rfl) _ _ _) ?_))
  go_region_law_o (refine step_copy_runI rfl _ _ 74 74 rfl (.slice (some ⟨w.heap.size, (i + 1) * 3, none⟩) (n - i) (G - (i + 1))) (.slice (some ⟨b, (i) * 3, none⟩) (n - i) (c - i)) (by simp [Act.eval, Act.put]) (by simp [Act.eval, Act.put]) (hcpB _ hF1 hF2 3 (G - (i + 1)) (c - i)) ?_)
  go_wp2
  go_ret
  exact ⟨rfl, rfl⟩

set_option maxHeartbeats 4000000 in
set_option maxRecDepth 100000 in
theorem ins64_nil (vb vc : Nat) (vs : List Value) (w : World) (i0 : TypeInfo) (hi0 : Try.prog.info? 88 = some i0) (hz0 : i0.zero = some (.agg #[.slice none 0 0, .slice none 0 0, .bool false])) (hs0 : i0.size = 3)
    (hfit : Builtin.nextslicecap (0 + 1) 0 * i0.bytes ≤ 281474976710656) (hvl : vs.length = 3)
    (hvs : ∀ j v, vs[j]? = some v → w.cell? ⟨vb, j, none⟩ = some v) (h1v : ∀ v ∈ vs, v.oneCell' = true) :
    Calls Try.prog 64 #[.slice none 0 0, .int .i64 ((0 : Nat) : Int), .slice (some ⟨vb, 0, none⟩) 1 vc] w fun e w' =>
      e = .returned (.slice (some ⟨w.heap.size, 0, none⟩) (0 + 1) (grownCap w (0 + 1) 0 88)) ∧
      w' = w.drew.alloc (.cells (([] ++ vs).toArray ++ Builtin.zeroCells (Value.cells (.agg #[.slice none 0 0, .slice none 0 0, .bool false])) (grownCap w (0 + 1) 0 88 - (0 + 1))) 88) := by
  have hsrc : _root_.Go.Src Try.prog i0.size 74 (.slice (some ⟨vb, 0, none⟩) 1 vc) 1 vs w := by
    rw [hs0]
    exact _root_.Go.Src.ofSlice w Try.underlying74 ⟨vb, 0, none⟩ 1 vc vs (by omega) (fun j u hj => by rw [Addr.add_lit, Nat.zero_add]; exact hvs j u hj) h1v
  have hold : (Builtin.firstCells i0.size 0 (.slice none 0 0)).run Try.prog w.drew = .ok ([] : List Value).toArray w.drew := by
    rw [hs0]
    exact run_firstCells_none w.drew 3 0 0 0
  have hrun : ∀ ty, (Builtin.append_ #[74, 74] ty #[.slice none 0 0, .slice (some ⟨vb, 0, none⟩) 1 vc]).run Try.prog w = .ok (.slice (some ⟨w.heap.size, 0, none⟩) (0 + 1) (grownCap w (0 + 1) 0 88)) (w.drew.alloc (.cells (([] ++ vs).toArray ++ Builtin.zeroCells (Value.cells (.agg #[.slice none 0 0, .slice none 0 0, .bool false])) (grownCap w (0 + 1) 0 88 - (0 + 1))) 88)) := fun ty =>
    run_append_grow_src w 74 74 ty 88 i0 _ Try.underlying74 hi0 hz0 none 0 0 [] hold _ 1 vs hsrc (by omega) (by omega) hfit
  go_enter Try.func64, Try.ntmps64
  go_wp2_with (at_builtin; refine Lib.wpList_append_run _ rfl _ _ _ _ rfl _ _ rfl rfl _ _ (hrun _) ?_)
  all_goals (go_ret; first | exact ⟨rfl, rfl⟩ | exact ⟨rfl, by simp [Value.cells]⟩)

theorem ins64_info : (Try.prog.info? 88).map (fun i => (i.zero, i.size, i.bytes)) = some (some (.agg #[.slice none 0 0, .slice none 0 0, .bool false]), 3, 56) := by kernel_rfl

theorem ins64_B {cs vs : List Lf} {n i : Nat} (hcl : cs.length = n * 3) (hvl : vs.length = 3) (hi : i ≤ n) (hn : (n + 1) * 56 ≤ 140737488355328) :
    CallsB Try.prog 64 [.arr 88 3 0 cs, .arr 88 3 0 vs] [.one (.ls 0 n), .one (.i .i64 (i : Int)), .one (.ls 1 1)] (fun y m' => y = .s (.one (.ls 0 (n + 1))) ∧ m' = [.arr 88 3 0 (cs.take (i * 3) ++ vs ++ cs.drop (i * 3)), .dead]) := by
  refine callsB_ins (by decide) hcl hvl (fun w v1 vb vc cur2 xs ys hown hg2 hcell hyl hne hx1 hy1 => ?_)
  obtain ⟨i0, hi0, hz0, hs0, hb0⟩ := info_parts ins64_info
  have hxl := hown.1
  have hfitG : ∀ {old}, old < n + 1 → Builtin.nextslicecap (n + 1) old * i0.bytes ≤ 281474976710656 := fun h => growslice_fits h (by rw [hb0]; exact hn)
  have hsz' : (Try.prog.info? 88).map (·.size) = some 3 := by rw [hi0]; simp [hs0]
  have hzc : ∀ k, (Builtin.zeroCells (Value.cells (.agg #[.slice none 0 0, .slice none 0 0, .bool false])) k).size = k * 3 := fun k => by simp [Builtin.zeroCells, Value.cells]
  have hg63 : ∀ c, grownCap w (n + 1) c 88 ≤ maxLen := fun c => grownCap_le_maxLen w (n + 1) c 88 (by unfold maxLen; omega)
  have hgge : ∀ c, n + 1 ≤ grownCap w (n + 1) c 88 := fun c => grownCap_ge w _ _ _
  rcases hown.2 with ⟨rfl, h0⟩ | ⟨g, cap, cur, rfl, _, hg, hnc, hcm, hcs, hct⟩
  · subst h0
    have hi0' : i = 0 := by omega
    subst hi0'
    have hx0 : xs = [] := List.length_eq_zero_iff.1 (hxl.trans (Nat.zero_mul _))
    subst hx0
    refine (ins64_nil vb vc ys w i0 hi0 hz0 hs0 (hfitG (by omega)) hyl hcell hy1).mono ?_
    rintro e w' ⟨rfl, rfl⟩
    refine ⟨_, w.heap.size, rfl, rowLeft_new (hgge 0) (hg63 0) ?_ ?_, .inr (Nat.le_refl _)⟩
    · have := hgge 0
      rw [Array.size_append, hzc, List.size_toArray, List.nil_append, hyl]; omega
    · rw [Array.toList_append, List.toList_toArray, List.take_left' (by rw [List.nil_append, hyl])]
      simp
  · have hcur : cur.toList.length = cap * 3 := by rw [Array.length_toList]; exact hcs
    have hcell1 : ∀ j v, xs[j]? = some v → w.cell? ⟨g, j, none⟩ = some v := fun j v hj => by
      unfold World.cell?
      rw [hg]
      rw [← hct, List.getElem?_take] at hj
      split at hj
      · simpa using hj
      · cases hj
    have hc63 : cap ≤ 9223372036854775807 := by unfold maxLen at hcm; exact hcm
    have hsome : ∀ j, j < cap * 3 → (w.cell? ⟨g, j, none⟩).isSome = true := fun j hj => by
      unfold World.cell?
      rw [hg]
      show (cur[j]?).isSome = true
      rw [Array.getElem?_eq_getElem (by omega)]; rfl
    have hfrz : ∀ j, w.frozen? ⟨g, j, none⟩ = false := fun j => by
      unfold World.frozen?
      rw [hg]
      show (decide (0 ≤ j) && decide (j < 0)) = false
      rw [decide_eq_false (Nat.not_lt_zero j), Bool.and_false]
    have hfrz2 : ∀ j, w.frozen? ⟨vb, j, none⟩ = false := fun j => by
      unfold World.frozen?
      rw [hg2]
      show (decide (0 ≤ j) && decide (j < 0)) = false
      rw [decide_eq_false (Nat.not_lt_zero j), Bool.and_false]
    have hvb : vb ≠ g := fun e => hne (by rw [e]; rfl)
    rcases Nat.lt_or_eq_of_le hi with hlt | rfl
    · rcases Nat.lt_or_ge cap (n + 1) with hroom | hroom
      · refine (ins64_grow g n cap i vb vc xs ys w i0 hi0 hz0 hs0 hlt hnc hroom (by omega) (by rw [hb0]; omega) (hfitG hroom) hxl hyl hcell1 hcell hx1 hy1).mono ?_
        rintro e w' ⟨rfl, rfl⟩
        have hge := hgge cap
        have htl : (xs.take (i * 3)).length = i * 3 := by rw [List.length_take]; omega
        have := rowLeft_grow (E := 88) (sz := 3) (w := w) (row := (xs.take (i * 3)).toArray ++ Builtin.zeroCells (Value.cells (.agg #[.slice none 0 0, .slice none 0 0, .bool false])) (n + 1 - i) ++ Builtin.zeroCells (Value.cells (.agg #[.slice none 0 0, .slice none 0 0, .bool false])) (grownCap w (n + 1) cap 88 - (n + 1))) (xs := xs.take (i * 3)) (vs := ys) (D := xs.drop (i * 3)) hlt hge (hg63 cap)
          (by rw [Array.size_append, Array.size_append, hzc, hzc, List.size_toArray, htl]; omega) hyl (by rw [List.length_drop, hxl]; omega)
          (by rw [Array.toList_append, Array.toList_append, List.toList_toArray, List.append_assoc, List.take_left' htl])
        refine ⟨_, w.heap.size, rfl, ?_, .inr (Nat.le_refl _)⟩
        first | exact this | simpa only [Nat.mul_one] using this
      · refine (ins64_shift g n cap i vb vc xs ys w hsz' hlt hroom hc63 hvb hxl hyl hcell1 (fun j hj => hsome j (by omega)) (fun j _ => hfrz j) hcell hx1 hy1 88 88 cur2.size cur.size (by unfold World.shape?; rw [hg2]) (by unfold World.shape?; rw [hg]) (by omega) (hfrz2 _) (hfrz2 _)).mono ?_
        rintro e w' ⟨rfl, rfl⟩
        have := rowLeft_shift (E := 88) (sz := 3) (b := g) (vs := ys) hg hlt hroom hcm hcs hyl
        rw [hct] at this
        refine ⟨_, g, rfl, ?_, .inl rfl⟩
        first | exact this | simpa only [Nat.mul_one] using this
    · have hxe : xs.take (i * 3) ++ ys ++ xs.drop (i * 3) = xs ++ ys := by
        rw [List.take_of_length_le (by omega), List.drop_of_length_le (by omega), List.append_nil]
      rw [hxe]
      rcases Nat.lt_or_ge cap (i + 1) with hroom | hroom
      · refine (ins64_egrow g i cap vb vc xs ys w i0 hi0 hz0 hs0 hnc hroom (by omega) (hfitG hroom) hxl hyl hcell1 hcell hy1).mono ?_
        rintro e w' ⟨rfl, rfl⟩
        have hge := hgge cap
        refine ⟨_, w.heap.size, rfl, rowLeft_new hge (hg63 cap) ?_ ?_, .inr (Nat.le_refl _)⟩
        · rw [Array.size_append, hzc, List.size_toArray, List.length_append, hxl, hyl]; omega
        · rw [Array.toList_append, List.toList_toArray, List.take_left' (by rw [List.length_append, hxl, hyl]; omega)]
      · refine (ins64_end g i cap vb vc ys w i0 hi0 hs0 hroom hc63 hyl (fun j hj => hsome _ (by omega)) (fun j _ => hfrz _) hcell hy1).mono ?_
        rintro e w' ⟨rfl, rfl⟩
        have := rowLeft_end (E := 88) (sz := 3) (n := i) (b := g) (vs := ys) hg hroom hcm hcs hyl
        rw [hct] at this
        exact ⟨_, g, rfl, this, .inl rfl⟩
end
def m64_slices_Insert (a0 : List GApiWrite) (a1 : Int) (a2 : List GApiWrite) : Option (List GApiWrite) := insM 56 a0 a1 a2
theorem m64_slices_Insert_c {a0 : List GApiWrite} {a1 : Int} {a2 r : List GApiWrite} (h : m64_slices_Insert a0 a1 a2 = some r) : CallsB Try.prog 64 [.arr 88 3 0 (a0.flatMap eGApiWrite), .arr 88 3 0 (a2.flatMap eGApiWrite)] [.one (.ls 0 a0.length), .one (.i .i64 a1), .one (.ls 1 a2.length)] (fun y m' => y = .s (.one (.ls 0 r.length)) ∧ m' = [.arr 88 3 0 (r.flatMap eGApiWrite), .dead]) :=
  insM_c (f := eGApiWrite) (fun _ => rfl) ins64_B h

def m45_buffer_Set_k1 (a0 : GBufferBuf) (a1 : GApiWrite) (b1 : Unit) : Option (GBufferBuf × Int) :=
  (m62_buffer_keysOf a0).bind fun v2 => (m61_keys_Find v2 a1.Key).bind fun v3 => (m63_slices_Cloneo a0.L).bind fun v4 => if v3.2 then ((idx v4 v3.1).bind fun u5 => some ((GBufferBuf.mk (v4.set v3.1.toNat (GApiWrite.mk a1.Key a1.Val a1.Del))), 0)) else (if (decide (16 ≤ (v4.length : Int))) then (some ((GBufferBuf.mk ([] : List GApiWrite)), 8)) else ((m64_slices_Insert v4 v3.1 [(GApiWrite.mk a1.Key a1.Val a1.Del)]).bind fun v6 => some ((GBufferBuf.mk v6), 0)))
def m45_buffer_Set (a0 : GBufferBuf) (a1 : GApiWrite) : Option (GBufferBuf × Int) :=
  (m59_buffer_Sane (GBufferBuf.mk a0.L)).bind fun v7 => if (!v7) then (some ((GBufferBuf.mk ([] : List GApiWrite)), 1)) else ((m60_buffer_saneWrite (GApiWrite.mk a1.Key a1.Val a1.Del)).bind fun v8 => if (!v8) then (some ((GBufferBuf.mk ([] : List GApiWrite)), 1)) else (m45_buffer_Set_k1 a0 a1 ()))

set_option maxRecDepth 100000 in
theorem m45_buffer_Set_c {a0 : GBufferBuf} {a1 : GApiWrite} {r : GBufferBuf × Int} (h : m45_buffer_Set a0 a1 = some r) : CallsA Try.prog 45 [.agg [.sl a0.L.length (a0.L.flatMap eGApiWrite)], .agg a1] (· = .tup [.agg [.sl r.1.L.length (r.1.L.flatMap eGApiWrite)], .one (.i .i64 r.2)]) := by
  unfold m45_buffer_Set at h
  refine callsA_of Try.func45 rfl (nt := 46) rfl (Nat.le_of_ble_eq_true rfl) ?_
  intro w0 S0
  refine cseq ?_
  refine cregion ?_
  refine sbox rfl rfl ?_
  refine sbox rfl rfl ?_
  refine salloc rfl zi76 ?_
  refine sv rfl (opv_as rfl) ?_
  refine snil ?_
  refine cseq ?_
  refine cseq ?_
  refine cjoin3 (Unit) (fun b1 => [(2, .s (.one (.lp 0 0))), (3, .s (.one (.lp 1 0))), (4, .s (.one (.lp 2 0)))]) (fun b1 => [.box [.sl a0.L.length (a0.L.flatMap eGApiWrite)], .box a1, .box [.raw (.slice none 0 0)]]) (fun b1 => m45_buffer_Set_k1 a0 a1 b1 = some r) (fun _ _ => inbL_of rfl) (fun _ _ => blkinb_of rfl) (fun _ _ => Nat.le_of_ble_eq_true rfl) (fun b1 h => ?_) ?_
  · unfold m45_buffer_Set_k1 at h
    refine cseq ?_
    obtain ⟨v2, hv2, h⟩ := bind_eq h
    obtain ⟨v3, hv3, h⟩ := bind_eq h
    refine cdraw_e [] [0, 1, 0, 4, 15, 31, 63, 63, 127, 511] [[.box [.sl a0.L.length (a0.L.flatMap eGApiWrite)], .box a1, .box [.raw (.slice none 0 0)]]] (by kernel_rfl) mixed (by kernel_rfl) (by decide) rfl rfl rfl rfl ?_
    refine ev (sees_at 0 rfl rfl) rfl rfl (opv_loadN ti76 rfl (.lp _ _ _ rfl) (Nat.le_of_ble_eq_true rfl)) ?_
    refine ed (sees_at 0 rfl rfl) rfl rfl (opD_call fn62 (opnds_cons rfl opnds_nil) rfl (m62_buffer_keysOf_c hv2)) ?_
    refine ev (sees_at 0 rfl rfl) rfl rfl (opv_fieldAddr_lp fi88_0 rfl) ?_
    refine ev (sees_at 0 rfl rfl) rfl rfl (opv_load1 ti42 rfl (.lp _ _ _ rfl) rfl) ?_
    refine ed (sees_at 0 rfl rfl) rfl rfl (opD_call fn61 (opnds_cons rfl (opnds_cons rfl opnds_nil)) rfl (m61_keys_Find_c hv3)) ?_
    refine ev (sees_at 0 rfl rfl) rfl rfl (opv_mvt rfl) ?_
    refine ev (sees_at 0 rfl rfl) rfl rfl (opv_extract rfl rfl) ?_
    refine ev (sees_at 0 rfl rfl) rfl rfl (opv_extract rfl rfl) ?_
    refine ev (sees_at 0 rfl rfl) rfl rfl (opv_as rfl) ?_
    refine ev (sees_at 0 rfl rfl) rfl rfl (opv_as rfl) ?_
    refine enil ?_
    refine then_normal ?_
    refine cseq ?_
    refine cregion ?_
    refine sv rfl (opv_fieldAddr_lp fi76_0 rfl) ?_
    refine sv rfl (opv_load1 ti74 rfl (.lp _ _ _ rfl) rfl) ?_
    obtain ⟨v4, hv4, h⟩ := bind_eq h
    refine scallB (x' := .s (.one (.ls 3 v4.length))) (M' := [.box [.sl a0.L.length (a0.L.flatMap eGApiWrite)], .box a1, .box [.raw (.slice none 0 0)], .arr 88 3 0 (v4.flatMap eGApiWrite)]) [] rfl fn63 (.func _) (opnds_cons rfl opnds_nil) (m63_slices_Cloneo_c hv4) rfl rfl (by decide) rfl rfl rfl ?_
    refine sv rfl (opv_as rfl) ?_
    refine snil ?_
    refine cseq ?_
    refine cseq ?_
    refine cregion ?_
    refine sv rfl (opv_mv rfl) ?_
    refine snil ?_
    refine ccond rfl (fun hc => ?_) (fun hc => ?_)
    · replace h := ite_t hc h
      clear hc
      refine cseq ?_
      refine cregion ?_
      refine sv rfl (opv_mv rfl) ?_
      refine sv rfl (opv_mv rfl) ?_
      refine sv rfl (opv_loadN ti88 rfl (.lp _ _ _ rfl) (Nat.le_of_ble_eq_true rfl)) ?_
      obtain ⟨u5, hu5, h⟩ := bind_eq h
      refine sv rfl (opv_ixo (f := eGApiWrite) si74 (fun _ => rfl) rfl rfl rfl rfl rfl hu5) ?_
      refine sseto (f := eGApiWrite) (u' := (GApiWrite.mk a1.Key a1.Val a1.Del)) (sz := 3) 0 sz88 (fun _ => rfl) rfl rfl rfl rfl rfl rfl rfl (List.all_eq_true.1 rfl) (idx_eq hu5).2 (Nat.le_of_ble_eq_true rfl) rfl ?_
      refine stell 28 (y := .s (.one (.ls 3 v4.length))) (.s (.one (.ls 3 (v4.set v3.1.toNat (GApiWrite.mk a1.Key a1.Val a1.Del)).length))) rfl (congrArg (fun n => AV.s (.one (.ls 3 n))) List.length_set.symm) ?_
      refine stell 8 (y := .s (.one (.ls 3 v4.length))) (.s (.one (.ls 3 (v4.set v3.1.toNat (GApiWrite.mk a1.Key a1.Val a1.Del)).length))) rfl (congrArg (fun n => AV.s (.one (.ls 3 n))) List.length_set.symm) ?_
      refine stell 30 (y := .s (.one (.ls 3 v4.length))) (.s (.one (.ls 3 (v4.set v3.1.toNat (GApiWrite.mk a1.Key a1.Val a1.Del)).length))) rfl (congrArg (fun n => AV.s (.one (.ls 3 n))) List.length_set.symm) ?_
      refine snil ?_
      refine cseq ?_
      refine cregion ?_
      refine sv rfl (opv_mv rfl) ?_
      refine sv rfl (opv_build zi76 pi76 (parts_cons rfl parts_nil) (.cons _ _ _ _ _ _ _ rfl rfl (Nat.le_of_ble_eq_true rfl) (.nil _))) ?_
      refine sstore sz76 rfl rfl rfl rfl (Nat.le_of_ble_eq_true rfl) ?_
      refine smem [.box [.sl a0.L.length (a0.L.flatMap eGApiWrite)], .box a1, .box [.ls 3 (v4.set v3.1.toNat (GApiWrite.mk a1.Key a1.Val a1.Del)).length], .arr 88 3 0 ((v4.set v3.1.toNat (GApiWrite.mk a1.Key a1.Val a1.Del)).flatMap eGApiWrite)] rfl ?_
      refine sv rfl (opv_as rfl) ?_
      refine snil ?_
      refine cret ?_
      refine then_ret ?_
      obtain rfl := Option.some.inj h
      refine ⟨Or.inr rfl, _, _, _, (resVs_cons (ResV.agg _ _ _ _ _ ti76 rfl (.lp _ _ _ rfl) (Nat.le_of_ble_eq_true rfl)) (resVs_cons (ResV.tmp _ _ rfl) resVs_nil)), (by (repeat' first | exact PubA.nil _ | apply PubA.cons | apply PubV.one | apply PubV.agg | exact PubL.nil | exact PubL.ls _ _ _ _ _ _ rfl (flat_len (f := eGApiWrite) (fun _ => rfl) _).symm | exact PubL.id _ rfl | exact PubLs.nil _ | apply PubLs.cons)), ?_⟩
      rfl
    · replace h := ite_f hc h
      clear hc
      refine cskip ?_
      refine then_normal ?_
      refine cseq ?_
      refine cseq ?_
      refine cregion ?_
      refine sv rfl (opv_mv rfl) ?_
      refine sv rfl (opv_len_ls si74 rfl rfl (flat_len (f := eGApiWrite) (fun _ => rfl) _).symm) ?_
      refine sv rfl (opv_geq rfl rfl) ?_
      refine snil ?_
      refine ccond rfl (fun hc => ?_) (fun hc => ?_)
      · replace h := ite_t hc h
        clear hc
        refine cseq ?_
        refine cregion ?_
        refine sv rfl (opv_build zi76 pi76 parts_nil (.nil _)) ?_
        refine sstore sz76 rfl rfl rfl rfl (Nat.le_of_ble_eq_true rfl) ?_
        refine smem [.box [.sl a0.L.length (a0.L.flatMap eGApiWrite)], .box a1, .box [.raw (.slice none 0 0)], .arr 88 3 0 (v4.flatMap eGApiWrite)] rfl ?_
        refine sv rfl (opv_as rfl) ?_
        refine snil ?_
        refine cret ?_
        refine then_ret ?_
        obtain rfl := Option.some.inj h
        refine ⟨Or.inr rfl, _, _, _, (resVs_cons (ResV.agg _ _ _ _ _ ti76 rfl (.lp _ _ _ rfl) (Nat.le_of_ble_eq_true rfl)) (resVs_cons (ResV.tmp _ _ rfl) resVs_nil)), (pubC rfl), ?_⟩
        rfl
      · replace h := ite_f hc h
        clear hc
        refine cskip ?_
        refine then_normal ?_
        refine cseq ?_
        refine cregion ?_
        refine sv rfl (opv_mv rfl) ?_
        refine sv rfl (opv_mv rfl) ?_
        refine sv rfl (opv_loadN ti88 rfl (.lp _ _ _ rfl) (Nat.le_of_ble_eq_true rfl)) ?_
        refine sbuild1 rfl Try.underlying74 ei88 rfl rfl (List.all_eq_true.1 rfl) (by decide) ?_
        refine smem [.box [.sl a0.L.length (a0.L.flatMap eGApiWrite)], .box a1, .box [.raw (.slice none 0 0)], .arr 88 3 0 (v4.flatMap eGApiWrite), .arr 88 3 0 ([(GApiWrite.mk a1.Key a1.Val a1.Del)].flatMap eGApiWrite)] rfl ?_
        obtain ⟨v6, hv6, h⟩ := bind_eq h
        refine scallB (x' := .s (.one (.ls 3 v6.length))) (M' := [.box [.sl a0.L.length (a0.L.flatMap eGApiWrite)], .box a1, .box [.raw (.slice none 0 0)], .arr 88 3 0 (v6.flatMap eGApiWrite), .dead]) [3, 4] rfl fn64 (.func _) (opnds_cons rfl (opnds_cons rfl (opnds_cons rfl opnds_nil))) (m64_slices_Insert_c hv6) rfl rfl (by decide) rfl rfl rfl ?_
        refine sv rfl (opv_build zi76 pi76 (parts_cons rfl parts_nil) (.cons _ _ _ _ _ _ _ rfl rfl (Nat.le_of_ble_eq_true rfl) (.nil _))) ?_
        refine sstore sz76 rfl rfl rfl rfl (Nat.le_of_ble_eq_true rfl) ?_
        refine smem [.box [.sl a0.L.length (a0.L.flatMap eGApiWrite)], .box a1, .box [.ls 3 v6.length], .arr 88 3 0 (v6.flatMap eGApiWrite), .dead] rfl ?_
        refine sv rfl (opv_as rfl) ?_
        refine snil ?_
        refine cret ?_
        obtain rfl := Option.some.inj h
        refine ⟨Or.inr rfl, _, _, _, (resVs_cons (ResV.agg _ _ _ _ _ ti76 rfl (.lp _ _ _ rfl) (Nat.le_of_ble_eq_true rfl)) (resVs_cons (ResV.tmp _ _ rfl) resVs_nil)), (by (repeat' first | exact PubA.nil _ | apply PubA.cons | apply PubV.one | apply PubV.agg | exact PubL.nil | exact PubL.ls _ _ _ _ _ _ rfl (flat_len (f := eGApiWrite) (fun _ => rfl) _).symm | exact PubL.id _ rfl | exact PubLs.nil _ | apply PubLs.cons)), ?_⟩
        rfl
  · skip
    refine cregion ?_
    refine sv rfl (opv_loadN ti76 rfl (.lp _ _ _ rfl) (Nat.le_of_ble_eq_true rfl)) ?_
    obtain ⟨v7, hv7, h⟩ := bind_eq h
    refine scall1 rfl fn59 (opnds_cons rfl opnds_nil) (pubA_id rfl) (m59_buffer_Sane_c hv7) ?_
    refine sv rfl (opv_not rfl) ?_
    refine sv rfl (opv_mv rfl) ?_
    refine ssplit 12 rfl (fun hc => ?_) (fun hc => ?_)
    · replace h := ite_t hc h
      clear hc
      refine soff rfl rfl rfl rfl ?_
      refine soff rfl rfl rfl rfl ?_
      refine soff rfl rfl rfl rfl ?_
      refine sv rfl (opv_pick_t rfl rfl) ?_
      refine snil ?_
      refine ccond rfl (fun _ => ?_) (fun hx => Bool.noConfusion hx)
      refine cseq ?_
      refine cregion ?_
      refine sv rfl (opv_build zi76 pi76 parts_nil (.nil _)) ?_
      refine sstore sz76 rfl rfl rfl rfl (Nat.le_of_ble_eq_true rfl) ?_
      refine smem [.box [.sl a0.L.length (a0.L.flatMap eGApiWrite)], .box a1, .box [.raw (.slice none 0 0)]] rfl ?_
      refine sv rfl (opv_as rfl) ?_
      refine snil ?_
      refine cret ?_
      refine then_ret ?_
      obtain rfl := Option.some.inj h
      refine ⟨Or.inr rfl, _, _, _, (resVs_cons (ResV.agg _ _ _ _ _ ti76 rfl (.lp _ _ _ rfl) (Nat.le_of_ble_eq_true rfl)) (resVs_cons (ResV.tmp _ _ rfl) resVs_nil)), (pubC rfl), ?_⟩
      rfl
    · replace h := ite_f hc h
      clear hc
      refine son rfl rfl rfl ?_
      refine sv rfl (opv_loadN ti88 rfl (.lp _ _ _ rfl) (Nat.le_of_ble_eq_true rfl)) ?_
      refine son rfl rfl rfl ?_
      obtain ⟨v8, hv8, h⟩ := bind_eq h
      refine scall1 rfl fn60 (opnds_cons rfl opnds_nil) (pubA_id rfl) (m60_buffer_saneWrite_c hv8) ?_
      refine son rfl rfl rfl ?_
      refine sv rfl (opv_not rfl) ?_
      refine sv rfl (opv_pick_f rfl rfl) ?_
      refine snil ?_
      refine ccond rfl (fun hc => ?_) (fun hc => ?_)
      · replace h := ite_t hc h
        clear hc
        refine cseq ?_
        refine cregion ?_
        refine sv rfl (opv_build zi76 pi76 parts_nil (.nil _)) ?_
        refine sstore sz76 rfl rfl rfl rfl (Nat.le_of_ble_eq_true rfl) ?_
        refine smem [.box [.sl a0.L.length (a0.L.flatMap eGApiWrite)], .box a1, .box [.raw (.slice none 0 0)]] rfl ?_
        refine sv rfl (opv_as rfl) ?_
        refine snil ?_
        refine cret ?_
        refine then_ret ?_
        obtain rfl := Option.some.inj h
        refine ⟨Or.inr rfl, _, _, _, (resVs_cons (ResV.agg _ _ _ _ _ ti76 rfl (.lp _ _ _ rfl) (Nat.le_of_ble_eq_true rfl)) (resVs_cons (ResV.tmp _ _ rfl) resVs_nil)), (pubC rfl), ?_⟩
        rfl
      · replace h := ite_f hc h
        clear hc
        refine cskip ?_
        refine then_normal ?_
        exact ⟨(), _, h, ⟨rfl, rfl, rfl, trivial⟩, rfl⟩

def m30_prog_alone_answer_k1 (a0 : GProgAlone) (b1 : Int × (List GApiWrite) × Bool × (List UInt8) × (List GApiKV)) : Option (GProgAlone × GMsgReply × Int) :=
  some ((GProgAlone.mk a0.base_ (GBufferBuf.mk b1.2.1)), (GMsgReply.mk 0 0 0 0 b1.2.2.1 b1.2.2.2.1 b1.2.2.2.2), b1.1)

def m30_prog_alone_answer_k6 (a0 : GProgAlone) (a1 : GMsgReq) (b6 : Bool) : Option (GProgAlone × GMsgReply × Int) :=
  if b6 then ((m45_buffer_Set (GBufferBuf.mk a0.buf_.L) (GApiWrite.mk a1.Key a1.Val (decide (a1.Kind = 5)))).bind fun v7 => m30_prog_alone_answer_k1 a0 (v7.2, v7.1.L, false, ([] : List UInt8), ([] : List GApiKV))) else (m30_prog_alone_answer_k1 a0 (0, a0.buf_.L, false, ([] : List UInt8), ([] : List GApiKV)))
def m30_prog_alone_answer (a0 : GProgAlone) (a1 : GMsgReq) : Option (GProgAlone × GMsgReply × Int) :=
  if (decide (a1.Kind = 3)) then ((m44_keys_One a1.Key).bind fun v2 => (m43_prog_alone_look (GProgAlone.mk a0.base_ (GBufferBuf.mk a0.buf_.L)) v2 1).bind fun v3 => if (decide (0 < (v3.length : Int))) then ((idx v3 0).bind fun u4 => m30_prog_alone_answer_k1 a0 (0, a0.buf_.L, true, u4.Val, ([] : List GApiKV))) else (m30_prog_alone_answer_k1 a0 (0, a0.buf_.L, false, ([] : List UInt8), ([] : List GApiKV)))) else (if (decide (a1.Kind = 6)) then ((m43_prog_alone_look (GProgAlone.mk a0.base_ (GBufferBuf.mk a0.buf_.L)) (GApiRange.mk a1.Rng.Lo a1.Rng.Hi a1.Rng.Open) 8).bind fun v5 => m30_prog_alone_answer_k1 a0 (0, a0.buf_.L, false, ([] : List UInt8), v5)) else (if (decide (a1.Kind = 4)) then (m30_prog_alone_answer_k6 a0 a1 (decide (a1.Kind = 4))) else (m30_prog_alone_answer_k6 a0 a1 (decide (a1.Kind = 5)))))

set_option maxRecDepth 100000 in
theorem m30_prog_alone_answer_c {a0 : GProgAlone} {a1 : GMsgReq} {r : GProgAlone × GMsgReply × Int} (h : m30_prog_alone_answer a0 a1 = some r) : CallsA Try.prog 30 [.agg a0, .agg a1] (· = .tup [.agg r.1, .agg r.2.1, .one (.i .i64 r.2.2)]) := by
  unfold m30_prog_alone_answer at h
  refine callsA_of Try.func30 rfl (nt := 57) rfl (Nat.le_of_ble_eq_true rfl) ?_
  intro w0 S0
  refine cseq ?_
  refine cregion ?_
  refine sbox rfl rfl ?_
  refine sbox rfl rfl ?_
  refine salloc rfl zi78 ?_
  refine salloc rfl zi51 ?_
  refine sv rfl (opv_as rfl) ?_
  refine snil ?_
  refine cseq ?_
  refine cregion ?_
  refine sv rfl (opv_as rfl) ?_
  refine snil ?_
  refine cseq ?_
  refine cregion ?_
  refine sv rfl (opv_build zi51 pi51 parts_nil (.nil _)) ?_
  refine salloc rfl zi51 ?_
  refine sstore sz51 rfl rfl rfl rfl (Nat.le_of_ble_eq_true rfl) ?_
  refine smem [.box a0, .box a1, .box [.raw (.slice none 0 0), .raw (.slice none 0 0)], .box [.i .i64 0, .i .i64 0, .i .i64 0, .i .i64 0, .b false, .raw (.slice none 0 0), .raw (.slice none 0 0)], .box [.i .i64 0, .i .i64 0, .i .i64 0, .i .i64 0, .b false, .raw (.slice none 0 0), .raw (.slice none 0 0)]] rfl ?_
  refine snil ?_
  refine cseq ?_
  refine cseq ?_
  refine cregion ?_
  refine sv rfl (opv_fieldAddr_lp fi46_0 rfl) ?_
  refine sv rfl (opv_load1 ti3 rfl (.lp _ _ _ rfl) rfl) ?_
  refine snil ?_
  refine cjoin (Int × (List GApiWrite) × Bool × (List UInt8) × (List GApiKV)) (fun b1 => [(2, .s (.one (.lp 0 0))), (4, .s (.one (.lp 2 0))), (5, .s (.one (.lp 3 0))), (7, .s (.one (.i .i64 b1.1))), (8, .s (.one (.lp 4 0)))]) (fun b1 => [.box [.sl a0.base_.length (a0.base_.flatMap eGApiKV), .sl b1.2.1.length (b1.2.1.flatMap eGApiWrite)], .box a1, .box [.raw (.slice none 0 0), .raw (.slice none 0 0)], .box [.i .i64 0, .i .i64 0, .i .i64 0, .i .i64 0, .b false, .raw (.slice none 0 0), .raw (.slice none 0 0)], .box [.i .i64 0, .i .i64 0, .i .i64 0, .i .i64 0, .b b1.2.2.1, .sl b1.2.2.2.1.length (b1.2.2.2.1.flatMap eU8), .sl b1.2.2.2.2.length (b1.2.2.2.2.flatMap eGApiKV)]]) (fun b1 => m30_prog_alone_answer_k1 a0 b1 = some r) (fun _ _ => inbL_of rfl) (fun _ _ => blkinb_of rfl) (fun _ _ => Nat.le_of_ble_eq_true rfl) (fun b1 h => ?_) ?_
  · unfold m30_prog_alone_answer_k1 at h
    refine cseq ?_
    refine cdraw_e [3, 4] [0, 0, 0, 1, 11, 31] [[.box [.sl a0.base_.length (a0.base_.flatMap eGApiKV), .sl b1.2.1.length (b1.2.1.flatMap eGApiWrite)], .box a1, .box [.raw (.slice none 0 0), .raw (.slice none 0 0)], .box [.i .i64 0, .i .i64 0, .i .i64 0, .i .i64 0, .b false, .raw (.slice none 0 0), .raw (.slice none 0 0)], .box [.i .i64 0, .i .i64 0, .i .i64 0, .i .i64 0, .b b1.2.2.1, .sl b1.2.2.2.1.length (b1.2.2.2.1.flatMap eU8), .sl b1.2.2.2.2.length (b1.2.2.2.2.flatMap eGApiKV)]], [.box [.sl a0.base_.length (a0.base_.flatMap eGApiKV), .sl b1.2.1.length (b1.2.1.flatMap eGApiWrite)], .box a1, .box [.sl a0.base_.length (a0.base_.flatMap eGApiKV), .sl b1.2.1.length (b1.2.1.flatMap eGApiWrite)], .box [.i .i64 0, .i .i64 0, .i .i64 0, .i .i64 0, .b false, .raw (.slice none 0 0), .raw (.slice none 0 0)], .box [.i .i64 0, .i .i64 0, .i .i64 0, .i .i64 0, .b b1.2.2.1, .sl b1.2.2.2.1.length (b1.2.2.2.1.flatMap eU8), .sl b1.2.2.2.2.length (b1.2.2.2.2.flatMap eGApiKV)]], [.box [.sl a0.base_.length (a0.base_.flatMap eGApiKV), .sl b1.2.1.length (b1.2.1.flatMap eGApiWrite)], .box a1, .box [.sl a0.base_.length (a0.base_.flatMap eGApiKV), .sl b1.2.1.length (b1.2.1.flatMap eGApiWrite)], .box [.i .i64 0, .i .i64 0, .i .i64 0, .i .i64 0, .b b1.2.2.1, .sl b1.2.2.2.1.length (b1.2.2.2.1.flatMap eU8), .sl b1.2.2.2.2.length (b1.2.2.2.2.flatMap eGApiKV)], .box [.i .i64 0, .i .i64 0, .i .i64 0, .i .i64 0, .b b1.2.2.1, .sl b1.2.2.2.1.length (b1.2.2.2.1.flatMap eU8), .sl b1.2.2.2.2.length (b1.2.2.2.2.flatMap eGApiKV)]]] (by kernel_rfl) mixed (by kernel_rfl) (by decide) rfl rfl rfl rfl ?_
    refine ev (sees_at 0 rfl rfl) rfl rfl (opv_loadN ti78 rfl (.lp _ _ _ rfl) (Nat.le_of_ble_eq_true rfl)) ?_
    refine ev (sees_all (md := [.box [.sl a0.base_.length (a0.base_.flatMap eGApiKV), .sl b1.2.1.length (b1.2.1.flatMap eGApiWrite)], .box a1, .dead, .dead, .box [.i .i64 0, .i .i64 0, .i .i64 0, .i .i64 0, .b b1.2.2.1, .sl b1.2.2.2.1.length (b1.2.2.2.1.flatMap eU8), .sl b1.2.2.2.2.length (b1.2.2.2.2.flatMap eGApiKV)]]) ⟨⟨rfl, ⟨rfl, ⟨trivial, ⟨trivial, ⟨rfl, trivial⟩⟩⟩⟩⟩, ⟨⟨rfl, ⟨rfl, ⟨trivial, ⟨trivial, ⟨rfl, trivial⟩⟩⟩⟩⟩, ⟨⟨rfl, ⟨rfl, ⟨trivial, ⟨trivial, ⟨rfl, trivial⟩⟩⟩⟩⟩, trivial⟩⟩⟩) rfl rfl (opv_loadN ti51 rfl (.lp _ _ _ rfl) (Nat.le_of_ble_eq_true rfl)) ?_
    refine emv rfl rfl (fun _ => opv_mv rfl) ?_
    refine ee0 0 rfl rfl rfl rfl (fun ζ => ?_) ?_
    · refine sstore sz78 rfl rfl rfl rfl (Nat.le_of_ble_eq_true rfl) ?_
      refine smem [.box [.sl a0.base_.length (a0.base_.flatMap eGApiKV), .sl b1.2.1.length (b1.2.1.flatMap eGApiWrite)], .box a1, .box [.sl a0.base_.length (a0.base_.flatMap eGApiKV), .sl b1.2.1.length (b1.2.1.flatMap eGApiWrite)], .box [.i .i64 0, .i .i64 0, .i .i64 0, .i .i64 0, .b false, .raw (.slice none 0 0), .raw (.slice none 0 0)], .box [.i .i64 0, .i .i64 0, .i .i64 0, .i .i64 0, .b b1.2.2.1, .sl b1.2.2.2.1.length (b1.2.2.2.1.flatMap eU8), .sl b1.2.2.2.2.length (b1.2.2.2.2.flatMap eGApiKV)]] rfl ?_
      exact eend
    refine ee0 1 rfl rfl rfl rfl (fun ζ => ?_) ?_
    · refine sstore sz51 rfl rfl rfl rfl (Nat.le_of_ble_eq_true rfl) ?_
      refine smem [.box [.sl a0.base_.length (a0.base_.flatMap eGApiKV), .sl b1.2.1.length (b1.2.1.flatMap eGApiWrite)], .box a1, .box [.sl a0.base_.length (a0.base_.flatMap eGApiKV), .sl b1.2.1.length (b1.2.1.flatMap eGApiWrite)], .box [.i .i64 0, .i .i64 0, .i .i64 0, .i .i64 0, .b b1.2.2.1, .sl b1.2.2.2.1.length (b1.2.2.2.1.flatMap eU8), .sl b1.2.2.2.2.length (b1.2.2.2.2.flatMap eGApiKV)], .box [.i .i64 0, .i .i64 0, .i .i64 0, .i .i64 0, .b b1.2.2.1, .sl b1.2.2.2.1.length (b1.2.2.2.1.flatMap eU8), .sl b1.2.2.2.2.length (b1.2.2.2.2.flatMap eGApiKV)]] rfl ?_
      exact eend
    refine ev (sees_at 2 rfl rfl) rfl rfl (opv_as rfl) ?_
    refine enil ?_
    refine then_normal ?_
    refine cret ?_
    obtain rfl := Option.some.inj h
    refine ⟨Or.inr rfl, _, _, _, (resVs_cons (ResV.agg _ _ _ _ _ ti78 rfl (.lp _ _ _ rfl) (Nat.le_of_ble_eq_true rfl)) (resVs_cons (ResV.agg _ _ _ _ _ ti51 rfl (.lp _ _ _ rfl) (Nat.le_of_ble_eq_true rfl)) (resVs_cons (ResV.tmp _ _ rfl) resVs_nil))), (pubA_id rfl), ?_⟩
    rfl
  · skip
    refine cblock ?_
    refine cseq ?_
    refine cregion ?_
    refine sv rfl (opv_ieql rfl rfl) ?_
    refine sv rfl (opv_as rfl) ?_
    refine snil ?_
    refine ccond rfl (fun hc => ?_) (fun hc => ?_)
    · replace h := ite_t hc h
      clear hc
      refine cseq ?_
      refine cdraw mixed (by kernel_rfl) ?_
      refine dv rfl (opv_loadN ti78 rfl (.lp _ _ _ rfl) (Nat.le_of_ble_eq_true rfl)) ?_
      refine dv rfl (opv_fieldAddr_lp fi46_5 rfl) ?_
      refine dv rfl (opv_load1 ti42 rfl (.lp _ _ _ rfl) rfl) ?_
      obtain ⟨v2, hv2, h⟩ := bind_eq h
      refine dd rfl (opD_call fn44 (opnds_cons rfl opnds_nil) rfl (m44_keys_One_c hv2)) ?_
      obtain ⟨v3, hv3, h⟩ := bind_eq h
      refine dd rfl (opD_call fn43 (opnds_cons rfl (opnds_cons rfl (opnds_cons rfl opnds_nil))) rfl (m43_prog_alone_look_c hv3)) ?_
      refine dv rfl (opv_as rfl) ?_
      refine dnil ?_
      refine then_normal ?_
      refine cseq ?_
      refine cregion ?_
      refine sv rfl (opv_mv rfl) ?_
      refine sv rfl (opv_len_sl si25 rfl) ?_
      refine sv rfl (opv_gtr rfl rfl) ?_
      refine snil ?_
      refine ccond rfl (fun hc => ?_) (fun hc => ?_)
      · replace h := ite_t hc h
        clear hc
        refine cpubbox 4 5 rfl rfl PubL.nil rfl ?_
        refine cpubbox 4 6 rfl rfl PubL.nil rfl ?_
        obtain ⟨u4, hu4, h⟩ := bind_eq h
        refine cdraw_e [5, 7] [0, 1, 3, 7, 0, 16, 63, 127] [[.box a0, .box a1, .box [.raw (.slice none 0 0), .raw (.slice none 0 0)], .box [.i .i64 0, .i .i64 0, .i .i64 0, .i .i64 0, .b false, .raw (.slice none 0 0), .raw (.slice none 0 0)], .box [.i .i64 0, .i .i64 0, .i .i64 0, .i .i64 0, .b false, .sl ([] : List UInt8).length (([] : List UInt8).flatMap eU8), .sl ([] : List GApiKV).length (([] : List GApiKV).flatMap eGApiKV)]], [.box a0, .box a1, .box [.raw (.slice none 0 0), .raw (.slice none 0 0)], .box [.i .i64 0, .i .i64 0, .i .i64 0, .i .i64 0, .b false, .raw (.slice none 0 0), .raw (.slice none 0 0)], .box [.i .i64 0, .i .i64 0, .i .i64 0, .i .i64 0, .b true, .sl ([] : List UInt8).length (([] : List UInt8).flatMap eU8), .sl ([] : List GApiKV).length (([] : List GApiKV).flatMap eGApiKV)]], [.box a0, .box a1, .box [.raw (.slice none 0 0), .raw (.slice none 0 0)], .box [.i .i64 0, .i .i64 0, .i .i64 0, .i .i64 0, .b false, .raw (.slice none 0 0), .raw (.slice none 0 0)], .box [.i .i64 0, .i .i64 0, .i .i64 0, .i .i64 0, .b true, .sl u4.Val.length (u4.Val.flatMap eU8), .sl ([] : List GApiKV).length (([] : List GApiKV).flatMap eGApiKV)]]] (by kernel_rfl) mixed (by kernel_rfl) (by decide) rfl rfl rfl rfl ?_
        refine emv rfl rfl (fun _ => opv_mv rfl) ?_
        refine ev (sees_all (md := [.box a0, .box a1, .box [.raw (.slice none 0 0), .raw (.slice none 0 0)], .box [.i .i64 0, .i .i64 0, .i .i64 0, .i .i64 0, .b false, .raw (.slice none 0 0), .raw (.slice none 0 0)], .dead]) ⟨⟨rfl, ⟨rfl, ⟨rfl, ⟨rfl, ⟨trivial, trivial⟩⟩⟩⟩⟩, ⟨⟨rfl, ⟨rfl, ⟨rfl, ⟨rfl, ⟨trivial, trivial⟩⟩⟩⟩⟩, ⟨⟨rfl, ⟨rfl, ⟨rfl, ⟨rfl, ⟨trivial, trivial⟩⟩⟩⟩⟩, trivial⟩⟩⟩) rfl rfl (opv_ix (f := eGApiKV) si25 (fun _ => rfl) rfl rfl rfl rfl hu4) ?_
        refine ev (sees_all (md := [.box a0, .box a1, .box [.raw (.slice none 0 0), .raw (.slice none 0 0)], .box [.i .i64 0, .i .i64 0, .i .i64 0, .i .i64 0, .b false, .raw (.slice none 0 0), .raw (.slice none 0 0)], .dead]) ⟨⟨rfl, ⟨rfl, ⟨rfl, ⟨rfl, ⟨trivial, trivial⟩⟩⟩⟩⟩, ⟨⟨rfl, ⟨rfl, ⟨rfl, ⟨rfl, ⟨trivial, trivial⟩⟩⟩⟩⟩, ⟨⟨rfl, ⟨rfl, ⟨rfl, ⟨rfl, ⟨trivial, trivial⟩⟩⟩⟩⟩, trivial⟩⟩⟩) rfl rfl (opv_fieldAddr_cp fi65_1 rfl) ?_
        refine ev (sees_all (md := [.box a0, .box a1, .box [.raw (.slice none 0 0), .raw (.slice none 0 0)], .box [.i .i64 0, .i .i64 0, .i .i64 0, .i .i64 0, .b false, .raw (.slice none 0 0), .raw (.slice none 0 0)], .dead]) ⟨⟨rfl, ⟨rfl, ⟨rfl, ⟨rfl, ⟨trivial, trivial⟩⟩⟩⟩⟩, ⟨⟨rfl, ⟨rfl, ⟨rfl, ⟨rfl, ⟨trivial, trivial⟩⟩⟩⟩⟩, ⟨⟨rfl, ⟨rfl, ⟨rfl, ⟨rfl, ⟨trivial, trivial⟩⟩⟩⟩⟩, trivial⟩⟩⟩) rfl rfl (opv_load1 ti42 rfl (.cp _) rfl) ?_
        refine ev (sees_at 0 rfl rfl) rfl rfl (opv_fieldAddr_lp fi51_4 rfl) ?_
        refine ee0 0 rfl rfl rfl rfl (fun ζ => ?_) ?_
        · refine sstore sz4 rfl rfl rfl rfl (Nat.le_of_ble_eq_true rfl) ?_
          refine smem [.box a0, .box a1, .box [.raw (.slice none 0 0), .raw (.slice none 0 0)], .box [.i .i64 0, .i .i64 0, .i .i64 0, .i .i64 0, .b false, .raw (.slice none 0 0), .raw (.slice none 0 0)], .box [.i .i64 0, .i .i64 0, .i .i64 0, .i .i64 0, .b true, .sl ([] : List UInt8).length (([] : List UInt8).flatMap eU8), .sl ([] : List GApiKV).length (([] : List GApiKV).flatMap eGApiKV)]] rfl ?_
          exact eend
        refine ev (sees_at 1 rfl rfl) rfl rfl (opv_fieldAddr_lp fi51_5 rfl) ?_
        refine ee0 1 rfl rfl rfl rfl (fun ζ => ?_) ?_
        · refine sstore sz42 rfl rfl rfl rfl (Nat.le_of_ble_eq_true rfl) ?_
          refine smem [.box a0, .box a1, .box [.raw (.slice none 0 0), .raw (.slice none 0 0)], .box [.i .i64 0, .i .i64 0, .i .i64 0, .i .i64 0, .b false, .raw (.slice none 0 0), .raw (.slice none 0 0)], .box [.i .i64 0, .i .i64 0, .i .i64 0, .i .i64 0, .b true, .sl u4.Val.length (u4.Val.flatMap eU8), .sl ([] : List GApiKV).length (([] : List GApiKV).flatMap eGApiKV)]] rfl ?_
          exact eend
        refine enil ?_
        refine block_normal ?_
        refine then_normal ?_
        exact ⟨(0, a0.buf_.L, true, u4.Val, ([] : List GApiKV)), _, h, ⟨rfl, rfl, rfl, rfl, rfl, trivial⟩, rfl⟩
      · replace h := ite_f hc h
        clear hc
        refine cpubbox 4 5 rfl rfl PubL.nil rfl ?_
        refine cpubbox 4 6 rfl rfl PubL.nil rfl ?_
        refine cskip ?_
        refine block_normal ?_
        refine then_normal ?_
        exact ⟨(0, a0.buf_.L, false, ([] : List UInt8), ([] : List GApiKV)), _, h, ⟨rfl, rfl, rfl, rfl, rfl, trivial⟩, rfl⟩
    · replace h := ite_f hc h
      clear hc
      refine cseq ?_
      refine cregion ?_
      refine sv rfl (opv_ieql rfl rfl) ?_
      refine sv rfl (opv_as rfl) ?_
      refine snil ?_
      refine ccond rfl (fun hc => ?_) (fun hc => ?_)
      · replace h := ite_t hc h
        clear hc
        refine cregion ?_
        refine sv rfl (opv_loadN ti78 rfl (.lp _ _ _ rfl) (Nat.le_of_ble_eq_true rfl)) ?_
        refine sv rfl (opv_fieldAddr_lp fi46_7 rfl) ?_
        refine sv rfl (opv_loadN ti44 rfl (.lp _ _ _ rfl) (Nat.le_of_ble_eq_true rfl)) ?_
        obtain ⟨v5, hv5, h⟩ := bind_eq h
        refine scall1 rfl fn43 (opnds_cons rfl (opnds_cons rfl (opnds_cons rfl opnds_nil))) (pubA_id rfl) (m43_prog_alone_look_c hv5) ?_
        refine sv rfl (opv_fieldAddr_lp fi51_6 rfl) ?_
        refine sstore sz25 rfl rfl rfl rfl (Nat.le_of_ble_eq_true rfl) ?_
        refine smem [.box a0, .box a1, .box [.raw (.slice none 0 0), .raw (.slice none 0 0)], .box [.i .i64 0, .i .i64 0, .i .i64 0, .i .i64 0, .b false, .raw (.slice none 0 0), .raw (.slice none 0 0)], .box [.i .i64 0, .i .i64 0, .i .i64 0, .i .i64 0, .b false, .raw (.slice none 0 0), .sl v5.length (v5.flatMap eGApiKV)]] rfl ?_
        refine spubbox 4 5 rfl rfl PubL.nil rfl ?_
        refine snil0 ?_
        refine block_normal ?_
        refine then_normal ?_
        exact ⟨(0, a0.buf_.L, false, ([] : List UInt8), v5), _, h, ⟨rfl, rfl, rfl, rfl, rfl, trivial⟩, rfl⟩
      · replace h := ite_f hc h
        clear hc
        refine cseq ?_
        refine cseq ?_
        refine cregion ?_
        refine sv rfl (opv_ieql rfl rfl) ?_
        refine sv rfl (opv_as rfl) ?_
        refine snil ?_
        refine cjoin (Bool) (fun b6 => [(2, .s (.one (.lp 0 0))), (3, .s (.one (.lp 1 0))), (4, .s (.one (.lp 2 0))), (5, .s (.one (.lp 3 0))), (7, .s (.one (.i .i64 0))), (8, .s (.one (.lp 4 0))), (36, .s (.one (.b b6)))]) (fun b6 => [.box a0, .box a1, .box [.raw (.slice none 0 0), .raw (.slice none 0 0)], .box [.i .i64 0, .i .i64 0, .i .i64 0, .i .i64 0, .b false, .raw (.slice none 0 0), .raw (.slice none 0 0)], .box [.i .i64 0, .i .i64 0, .i .i64 0, .i .i64 0, .b false, .raw (.slice none 0 0), .raw (.slice none 0 0)]]) (fun b6 => m30_prog_alone_answer_k6 a0 a1 b6 = some r) (fun _ _ => inbL_of rfl) (fun _ _ => blkinb_of rfl) (fun _ _ => Nat.le_of_ble_eq_true rfl) (fun b6 h => ?_) ?_
        · unfold m30_prog_alone_answer_k6 at h
          refine ccond rfl (fun hc => ?_) (fun hc => ?_)
          · replace h := ite_t hc h
            clear hc
            refine cregion ?_
            refine sv rfl (opv_fieldAddr_lp fi78_1 rfl) ?_
            refine sv rfl (opv_loadN ti76 rfl (.lp _ _ _ rfl) (Nat.le_of_ble_eq_true rfl)) ?_
            refine sv rfl (opv_fieldAddr_lp fi46_5 rfl) ?_
            refine sv rfl (opv_load1 ti42 rfl (.lp _ _ _ rfl) rfl) ?_
            refine sv rfl (opv_fieldAddr_lp fi46_6 rfl) ?_
            refine sv rfl (opv_load1 ti42 rfl (.lp _ _ _ rfl) rfl) ?_
            refine sv rfl (opv_fieldAddr_lp fi46_0 rfl) ?_
            refine sv rfl (opv_load1 ti3 rfl (.lp _ _ _ rfl) rfl) ?_
            refine sv rfl (opv_ieql rfl rfl) ?_
            refine sv rfl (opv_build zi88 pi88 (parts_cons rfl (parts_cons rfl (parts_cons rfl parts_nil))) (.cons _ _ _ _ _ _ _ rfl rfl (Nat.le_of_ble_eq_true rfl) (.cons _ _ _ _ _ _ _ rfl rfl (Nat.le_of_ble_eq_true rfl) (.cons _ _ _ _ _ _ _ rfl rfl (Nat.le_of_ble_eq_true rfl) (.nil _))))) ?_
            obtain ⟨v7, hv7, h⟩ := bind_eq h
            refine scall1 rfl fn45 (opnds_cons rfl (opnds_cons rfl opnds_nil)) (pubA_id rfl) (m45_buffer_Set_c hv7) ?_
            refine sv rfl (opv_mvt rfl) ?_
            refine sv rfl (opv_extract rfl rfl) ?_
            refine sv rfl (opv_extract rfl rfl) ?_
            refine sv rfl (opv_fieldAddr_lp fi78_1 rfl) ?_
            refine sstore sz76 rfl rfl rfl rfl (Nat.le_of_ble_eq_true rfl) ?_
            refine smem [.box [.sl a0.base_.length (a0.base_.flatMap eGApiKV), .sl v7.1.L.length (v7.1.L.flatMap eGApiWrite)], .box a1, .box [.raw (.slice none 0 0), .raw (.slice none 0 0)], .box [.i .i64 0, .i .i64 0, .i .i64 0, .i .i64 0, .b false, .raw (.slice none 0 0), .raw (.slice none 0 0)], .box [.i .i64 0, .i .i64 0, .i .i64 0, .i .i64 0, .b false, .raw (.slice none 0 0), .raw (.slice none 0 0)]] rfl ?_
            refine sv rfl (opv_as rfl) ?_
            refine spubbox 4 5 rfl rfl PubL.nil rfl ?_
            refine spubbox 4 6 rfl rfl PubL.nil rfl ?_
            refine snil0 ?_
            refine block_normal ?_
            refine then_normal ?_
            exact ⟨(v7.2, v7.1.L, false, ([] : List UInt8), ([] : List GApiKV)), _, h, ⟨rfl, rfl, rfl, rfl, rfl, trivial⟩, rfl⟩
          · replace h := ite_f hc h
            clear hc
            refine cpubbox 4 5 rfl rfl PubL.nil rfl ?_
            refine cpubbox 4 6 rfl rfl PubL.nil rfl ?_
            refine cskip ?_
            refine block_normal ?_
            refine then_normal ?_
            exact ⟨(0, a0.buf_.L, false, ([] : List UInt8), ([] : List GApiKV)), _, h, ⟨rfl, rfl, rfl, rfl, rfl, trivial⟩, rfl⟩
        · skip
          refine ccond rfl (fun hc => ?_) (fun hc => ?_)
          · replace h := ite_t hc h
            clear hc
            refine cskip ?_
            refine then_normal ?_
            exact ⟨(decide (a1.Kind = 4)), _, h, ⟨rfl, rfl, rfl, rfl, rfl, rfl, rfl, trivial⟩, rfl⟩
          · replace h := ite_f hc h
            clear hc
            refine cregion ?_
            refine sv rfl (opv_ieql rfl rfl) ?_
            refine sv rfl (opv_as rfl) ?_
            refine snil ?_
            exact ⟨(decide (a1.Kind = 5)), _, h, ⟨rfl, rfl, rfl, rfl, rfl, rfl, rfl, trivial⟩, rfl⟩

def m40_enc_News (a0 : List UInt8) : Option (Int × Int × (List UInt8)) :=
  some (0, 0, a0)

set_option maxRecDepth 100000 in
theorem m40_enc_News_c {a0 : List UInt8} {r : Int × Int × (List UInt8)} (h : m40_enc_News a0 = some r) : CallsB Try.prog 40 [] [.one (.sl a0.length (a0.flatMap eU8))] (fun y m' => y = .s (.one (.lp 0 0)) ∧ m' = [.box [.fn 53 [] [.lp 1 0, .lp 2 0], .i .i64 r.1], .box [.i .i64 r.2.1], .box [.sl r.2.2.length (r.2.2.flatMap eU8)]]) := by
  unfold m40_enc_News at h
  refine callsB_of Try.func40 rfl (nt := 7) rfl (Nat.le_of_ble_eq_true rfl) ?_
  intro w0 S0 X0 H0
  refine cseq ?_
  refine cregion ?_
  refine sbox rfl rfl ?_
  refine sv rfl (opv_as rfl) ?_
  refine snil ?_
  refine cseq ?_
  refine cregion ?_
  refine salloc rfl zi3 ?_
  refine sstore sz3 rfl rfl rfl rfl (Nat.le_of_ble_eq_true rfl) ?_
  refine smem [.box [.sl a0.length (a0.flatMap eU8)], .box [.i .i64 0]] rfl ?_
  refine snil ?_
  refine cseq ?_
  refine cregion ?_
  refine sv rfl (opv_makeFunc opnds1_nil (opnds1_cons rfl rfl (opnds1_cons rfl rfl opnds1_nil))) ?_
  refine sv rfl (opv_build zi113 pi113 (parts_cons rfl parts_nil) (.cons _ _ _ _ _ _ _ rfl rfl (Nat.le_of_ble_eq_true rfl) (.nil _))) ?_
  refine sbox rfl rfl ?_
  refine sv rfl (opv_as rfl) ?_
  refine snil ?_
  refine cret ?_
  obtain rfl := Option.some.inj h
  exact ⟨Or.inr rfl, _, [2, 1, 0], [.one (.lp 0 0)], [.box [.fn 53 [] [.lp 1 0, .lp 2 0], .i .i64 0], .box [.i .i64 0], .box [.sl a0.length (a0.flatMap eU8)]], (resVs_cons (ResV.tmp _ _ rfl) resVs_nil), rfl, rfl, ⟨by decide, rfl⟩, rfl, rfl, ⟨rfl, rfl⟩⟩

def m54_enc_Reader_Errs (a0 : Int) (a1 : Int) (a2 : List UInt8) : Option Int :=
  some a0

set_option maxRecDepth 100000 in
theorem m54_enc_Reader_Errs_c {a0 : Int} {a1 : Int} {a2 : List UInt8} {r : Int} (h : m54_enc_Reader_Errs a0 a1 a2 = some r) : CallsB Try.prog 54 [.box [.fn 53 [] [.lp 1 0, .lp 2 0], .i .i64 a0], .box [.i .i64 a1], .box [.sl a2.length (a2.flatMap eU8)]] [.one (.lp 0 0)] (fun y m' => y = .s (.one (.i .i64 r)) ∧ m' = [.box [.fn 53 [] [.lp 1 0, .lp 2 0], .i .i64 a0], .box [.i .i64 a1], .box [.sl a2.length (a2.flatMap eU8)]]) := by
  unfold m54_enc_Reader_Errs at h
  refine callsB_of Try.func54 rfl (nt := 9) rfl (Nat.le_of_ble_eq_true rfl) ?_
  intro w0 S0 X0 H0
  refine cseq ?_
  refine cregion ?_
  refine sv rfl (opv_as rfl) ?_
  refine snil ?_
  refine cseq ?_
  refine cseq ?_
  refine cregion ?_
  refine sv rfl (opv_mv rfl) ?_
  refine sv rfl (opv_pnil_eql Try.underlying95 rfl) ?_
  refine snil ?_
  refine ccond rfl (fun hx => Bool.noConfusion hx) (fun _ => ?_)
  refine cskip ?_
  refine then_normal ?_
  refine cseq ?_
  refine cregion ?_
  refine sv rfl (opv_mv rfl) ?_
  refine sv rfl (opv_nilCheck rfl rfl (fun _ _ _ h => by cases h)) ?_
  refine sv rfl (opv_fieldAddr_lp fi113_1 rfl) ?_
  refine sv rfl (opv_load1 ti49 rfl (.lp _ _ _ rfl) rfl) ?_
  refine sv rfl (opv_as rfl) ?_
  refine snil ?_
  refine cret ?_
  obtain rfl := Option.some.inj h
  exact ⟨Or.inr rfl, _, [0, 1, 2], [.one (.i .i64 a0)], [.box [.fn 53 [] [.lp 1 0, .lp 2 0], .i .i64 a0], .box [.i .i64 a1], .box [.sl a2.length (a2.flatMap eU8)]], (resVs_cons (ResV.tmp _ _ rfl) resVs_nil), rfl, rfl, ⟨by decide, rfl⟩, rfl, rfl, ⟨rfl, rfl⟩⟩

def m55_enc_Reader_Fails (a0 : Int) (a1 : Int) (a2 : Int) (a3 : List UInt8) : Option Int :=
  if (decide (a1 = 0)) then (some a0) else (some a1)

set_option maxRecDepth 100000 in
theorem m55_enc_Reader_Fails_c {a0 : Int} {a1 : Int} {a2 : Int} {a3 : List UInt8} {r : Int} (h : m55_enc_Reader_Fails a0 a1 a2 a3 = some r) : CallsB Try.prog 55 [.box [.fn 53 [] [.lp 1 0, .lp 2 0], .i .i64 a1], .box [.i .i64 a2], .box [.sl a3.length (a3.flatMap eU8)]] [.one (.lp 0 0), .one (.i .i64 a0)] (fun y m' => y = .tup [] ∧ m' = [.box [.fn 53 [] [.lp 1 0, .lp 2 0], .i .i64 r], .box [.i .i64 a2], .box [.sl a3.length (a3.flatMap eU8)]]) := by
  unfold m55_enc_Reader_Fails at h
  refine callsB_of Try.func55 rfl (nt := 17) rfl (Nat.le_of_ble_eq_true rfl) ?_
  intro w0 S0 X0 H0
  refine cseq ?_
  refine cregion ?_
  refine sv rfl (opv_mv rfl) ?_
  refine sv rfl (opv_pnil_neq Try.underlying95 rfl) ?_
  refine sv rfl (opv_mv rfl) ?_
  refine son rfl rfl rfl ?_
  refine sv rfl (opv_mv rfl) ?_
  refine son rfl rfl rfl ?_
  refine sv rfl (opv_nilCheck rfl rfl (fun _ _ _ h => by cases h)) ?_
  refine son rfl rfl rfl ?_
  refine sv rfl (opv_fieldAddr_lp fi113_1 rfl) ?_
  refine son rfl rfl rfl ?_
  refine sv rfl (opv_load1 ti49 rfl (.lp _ _ _ rfl) rfl) ?_
  refine son rfl rfl rfl ?_
  refine sv rfl (opv_ieql rfl rfl) ?_
  refine sv rfl (opv_pick_t rfl rfl) ?_
  refine snil ?_
  refine ccond rfl (fun hc => ?_) (fun hc => ?_)
  · replace h := ite_t hc h
    clear hc
    refine cregion ?_
    refine sv rfl (opv_mv rfl) ?_
    refine sv rfl (opv_mv rfl) ?_
    refine sv rfl (opv_nilCheck rfl rfl (fun _ _ _ h => by cases h)) ?_
    refine sv rfl (opv_fieldAddr_lp fi113_1 rfl) ?_
    refine sstore sz49 rfl rfl rfl rfl (Nat.le_of_ble_eq_true rfl) ?_
    refine smem [.box [.fn 53 [] [.lp 1 0, .lp 2 0], .i .i64 a0], .box [.i .i64 a2], .box [.sl a3.length (a3.flatMap eU8)]] rfl ?_
    refine snil0 ?_
    obtain rfl := Option.some.inj h
    exact ⟨Or.inl rfl, _, [0, 1, 2], [], [.box [.fn 53 [] [.lp 1 0, .lp 2 0], .i .i64 a0], .box [.i .i64 a2], .box [.sl a3.length (a3.flatMap eU8)]], resVs_nil, rfl, rfl, ⟨by decide, rfl⟩, rfl, rfl, ⟨rfl, rfl⟩⟩
  · replace h := ite_f hc h
    clear hc
    refine cskip ?_
    obtain rfl := Option.some.inj h
    exact ⟨Or.inl rfl, _, [0, 1, 2], [], [.box [.fn 53 [] [.lp 1 0, .lp 2 0], .i .i64 a1], .box [.i .i64 a2], .box [.sl a3.length (a3.flatMap eU8)]], resVs_nil, rfl, rfl, ⟨by decide, rfl⟩, rfl, rfl, ⟨rfl, rfl⟩⟩

def m53_enc_New_1s (a0 : Int) (a1 : Int) (a2 : List UInt8) : Option (Int × (List UInt8) × Int) :=
  (cut a2 (wI (a1 + a0)) (a2.length : Int)).bind fun c1 => some ((wI (a1 + a0)), c1, (wI (a1 + a0)))

set_option maxRecDepth 100000 in
theorem m53_enc_New_1s_c {a0 : Int} {a1 : Int} {a2 : List UInt8} {r : Int × (List UInt8) × Int} (h : m53_enc_New_1s a0 a1 a2 = some r) : CallsB Try.prog 53 [.box [.i .i64 a1], .box [.sl a2.length (a2.flatMap eU8)]] [.one (.i .i64 a0), .one (.lp 0 0), .one (.lp 1 0)] (fun y m' => y = .tup [.one (.i .i64 r.1), .one (.sl r.2.1.length (r.2.1.flatMap eU8))] ∧ m' = [.box [.i .i64 r.2.2], .box [.sl a2.length (a2.flatMap eU8)]]) := by
  unfold m53_enc_New_1s at h
  refine callsB_of Try.func53 rfl (nt := 13) rfl (Nat.le_of_ble_eq_true rfl) ?_
  intro w0 S0 X0 H0
  refine cseq ?_
  refine cregion ?_
  refine sv rfl (opv_as rfl) ?_
  refine sv rfl (opv_as rfl) ?_
  refine snil ?_
  refine cseq ?_
  refine cregion ?_
  refine sv rfl (opv_load1 ti3 rfl (.lp _ _ _ rfl) rfl) ?_
  refine sv rfl (opv_mv rfl) ?_
  refine sv rfl (opv_add rfl rfl) ?_
  refine sstore sz3 rfl rfl rfl rfl (Nat.le_of_ble_eq_true rfl) ?_
  refine smem [.box [.i .i64 (wI (a1 + a0))], .box [.sl a2.length (a2.flatMap eU8)]] rfl ?_
  refine snil ?_
  refine cseq ?_
  refine cdraw mixed (by kernel_rfl) ?_
  refine dv rfl (opv_load1 ti3 rfl (.lp _ _ _ rfl) rfl) ?_
  refine dv rfl (opv_load1 ti42 rfl (.lp _ _ _ rfl) rfl) ?_
  refine dv rfl (opv_load1 ti3 rfl (.lp _ _ _ rfl) rfl) ?_
  obtain ⟨c1, hc1, h⟩ := bind_eq h
  refine dv rfl (opv_cut (f := eU8) (lo := (wI (a1 + a0))) (hi := (a2.length : Int)) si42 (fun _ => rfl) rfl rfl rfl (bound_some rfl (cut_eq hc1).1.1) (by exact rfl) hc1) ?_
  refine dv rfl (opv_as rfl) ?_
  refine dv rfl (opv_as rfl) ?_
  refine dnil ?_
  refine then_normal ?_
  refine cret ?_
  obtain rfl := Option.some.inj h
  exact ⟨Or.inr rfl, _, [0, 1], [.one (.i .i64 (wI (a1 + a0))), .one (.sl c1.length (c1.flatMap eU8))], [.box [.i .i64 (wI (a1 + a0))], .box [.sl a2.length (a2.flatMap eU8)]], (resVs_cons (ResV.tmp _ _ rfl) (resVs_cons (ResV.tmp _ _ rfl) resVs_nil)), rfl, rfl, ⟨by decide, rfl⟩, rfl, rfl, ⟨rfl, rfl⟩⟩

def m69_enc_Reader_places_k1 (a1 : Int) (a2 : List UInt8) (b1 : Unit) : Option (Int × (List UInt8) × Int) :=
  (m53_enc_New_1s 0 a1 a2).bind fun v2 => some (v2.1, v2.2.1, v2.2.2)
def m69_enc_Reader_places (a0 : Int) (a1 : Int) (a2 : List UInt8) : Option (Int × (List UInt8) × Int) :=
  m69_enc_Reader_places_k1 a1 a2 ()

set_option maxRecDepth 100000 in
theorem m69_enc_Reader_places_c {a0 : Int} {a1 : Int} {a2 : List UInt8} {r : Int × (List UInt8) × Int} (h : m69_enc_Reader_places a0 a1 a2 = some r) : CallsB Try.prog 69 [.box [.fn 53 [] [.lp 1 0, .lp 2 0], .i .i64 a0], .box [.i .i64 a1], .box [.sl a2.length (a2.flatMap eU8)]] [.one (.lp 0 0)] (fun y m' => y = .tup [.one (.i .i64 r.1), .one (.sl r.2.1.length (r.2.1.flatMap eU8))] ∧ m' = [.box [.fn 53 [] [.lp 1 0, .lp 2 0], .i .i64 a0], .box [.i .i64 r.2.2], .box [.sl a2.length (a2.flatMap eU8)]]) := by
  unfold m69_enc_Reader_places at h
  refine callsB_of Try.func69 rfl (nt := 20) rfl (Nat.le_of_ble_eq_true rfl) ?_
  intro w0 S0 X0 H0
  refine cseq ?_
  refine cregion ?_
  refine sv rfl (opv_as rfl) ?_
  refine sv rfl (opv_as rfl) ?_
  refine snil ?_
  refine cseq ?_
  refine cseq ?_
  refine cjoin3 (Unit) (fun b1 => [(0, .s (.one (.lp 0 0)))]) (fun b1 => [.box [.fn 53 [] [.lp 1 0, .lp 2 0], .i .i64 a0], .box [.i .i64 a1], .box [.sl a2.length (a2.flatMap eU8)]]) (fun b1 => m69_enc_Reader_places_k1 a1 a2 b1 = some r) (fun _ _ => inbL_of rfl) (fun _ _ => blkinb_of rfl) (fun _ _ => Nat.le_of_ble_eq_true rfl) (fun b1 h => ?_) ?_
  · unfold m69_enc_Reader_places_k1 at h
    refine cseq ?_
    refine cregion ?_
    refine sv rfl (opv_mv rfl) ?_
    refine sv rfl (opv_nilCheck rfl rfl (fun _ _ _ h => by cases h)) ?_
    refine sv rfl (opv_fieldAddr_lp fi113_0 rfl) ?_
    refine sv rfl (opv_load1 ti111 rfl (.lp _ _ _ rfl) rfl) ?_
    obtain ⟨v2, hv2, h⟩ := bind_eq h
    refine scallB (x' := .tup [.one (.i .i64 v2.1), .one (.sl v2.2.1.length (v2.2.1.flatMap eU8))]) (M' := [.box [.fn 53 [] [.lp 1 0, .lp 2 0], .i .i64 a0], .box [.i .i64 v2.2.2], .box [.sl a2.length (a2.flatMap eU8)]]) [1, 2] rfl fn53 (.fn _ _ _ _ rfl) (opnds_cons rfl opnds_nil) (m53_enc_New_1s_c hv2) rfl rfl (by decide) rfl rfl rfl ?_
    refine sv rfl (opv_extract rfl rfl) ?_
    refine sv rfl (opv_extract rfl rfl) ?_
    refine sv rfl (opv_as rfl) ?_
    refine sv rfl (opv_as rfl) ?_
    refine snil ?_
    refine cret ?_
    obtain rfl := Option.some.inj h
    exact ⟨Or.inr rfl, _, [0, 1, 2], [.one (.i .i64 v2.1), .one (.sl v2.2.1.length (v2.2.1.flatMap eU8))], [.box [.fn 53 [] [.lp 1 0, .lp 2 0], .i .i64 a0], .box [.i .i64 v2.2.2], .box [.sl a2.length (a2.flatMap eU8)]], (resVs_cons (ResV.tmp _ _ rfl) (resVs_cons (ResV.tmp _ _ rfl) resVs_nil)), rfl, rfl, ⟨by decide, rfl⟩, rfl, rfl, ⟨rfl, rfl⟩⟩
  · skip
    refine cregion ?_
    refine sv rfl (opv_mv rfl) ?_
    refine sv rfl (opv_pnil_eql Try.underlying95 rfl) ?_
    refine sv rfl (opv_mv rfl) ?_
    refine son rfl rfl rfl ?_
    refine sv rfl (opv_mv rfl) ?_
    refine son rfl rfl rfl ?_
    refine sv rfl (opv_nilCheck rfl rfl (fun _ _ _ h => by cases h)) ?_
    refine son rfl rfl rfl ?_
    refine sv rfl (opv_fieldAddr_lp fi113_0 rfl) ?_
    refine son rfl rfl rfl ?_
    refine sv rfl (opv_load1 ti111 rfl (.lp _ _ _ rfl) rfl) ?_
    refine son rfl rfl rfl ?_
    refine sv rfl (opv_fnil_eql Try.underlying111 rfl rfl) ?_
    refine sv rfl (opv_pick_f rfl rfl) ?_
    refine snil ?_
    refine ccond rfl (fun hx => Bool.noConfusion hx) (fun _ => ?_)
    refine cskip ?_
    refine then_normal ?_
    exact ⟨(), _, h, ⟨rfl, trivial⟩, rfl⟩

def m56_enc_Reader_takes_k3 (a0 : Int) (a1 : Int) (v1 : Int × (List UInt8) × Int) (b3 : Int) : Option ((List UInt8) × Int × Int) :=
  (cut v1.2.1 0 a0).bind fun c4 => some (c4, a1, b3)
def m56_enc_Reader_takes (a0 : Int) (a1 : Int) (a2 : Int) (a3 : List UInt8) : Option ((List UInt8) × Int × Int) :=
  (m69_enc_Reader_places a1 a2 a3).bind fun v1 => if (decide ((v1.2.1.length : Int) < a0)) then ((m55_enc_Reader_Fails 2 a1 v1.2.2 a3).bind fun v2 => some (([] : List UInt8), v2, v1.2.2)) else (if (decide (0 < a0)) then ((m53_enc_New_1s a0 v1.2.2 a3).bind fun v5 => m56_enc_Reader_takes_k3 a0 a1 v1 v5.2.2) else (m56_enc_Reader_takes_k3 a0 a1 v1 v1.2.2))

set_option maxRecDepth 100000 in
theorem m56_enc_Reader_takes_c {a0 : Int} {a1 : Int} {a2 : Int} {a3 : List UInt8} {r : (List UInt8) × Int × Int} (h : m56_enc_Reader_takes a0 a1 a2 a3 = some r) : CallsB Try.prog 56 [.box [.fn 53 [] [.lp 1 0, .lp 2 0], .i .i64 a1], .box [.i .i64 a2], .box [.sl a3.length (a3.flatMap eU8)]] [.one (.lp 0 0), .one (.i .i64 a0)] (fun y m' => y = .s (.one (.sl r.1.length (r.1.flatMap eU8))) ∧ m' = [.box [.fn 53 [] [.lp 1 0, .lp 2 0], .i .i64 r.2.1], .box [.i .i64 r.2.2], .box [.sl a3.length (a3.flatMap eU8)]]) := by
  unfold m56_enc_Reader_takes at h
  refine callsB_of Try.func56 rfl (nt := 29) rfl (Nat.le_of_ble_eq_true rfl) ?_
  intro w0 S0 X0 H0
  refine cseq ?_
  refine cregion ?_
  refine sv rfl (opv_as rfl) ?_
  refine snil ?_
  refine cseq ?_
  refine cregion ?_
  refine sv rfl (opv_mv rfl) ?_
  obtain ⟨v1, hv1, h⟩ := bind_eq h
  refine scallB (x' := .tup [.one (.i .i64 v1.1), .one (.sl v1.2.1.length (v1.2.1.flatMap eU8))]) (M' := [.box [.fn 53 [] [.lp 1 0, .lp 2 0], .i .i64 a1], .box [.i .i64 v1.2.2], .box [.sl a3.length (a3.flatMap eU8)]]) [0, 1, 2] rfl fn69 (.func _) (opnds_cons rfl opnds_nil) (m69_enc_Reader_places_c hv1) rfl rfl (by decide) rfl rfl rfl ?_
  refine sv rfl (opv_mvt rfl) ?_
  refine sv rfl (opv_extract rfl rfl) ?_
  refine sv rfl (opv_extract rfl rfl) ?_
  refine sv rfl (opv_as rfl) ?_
  refine sv rfl (opv_as rfl) ?_
  refine snil ?_
  refine cseq ?_
  refine cseq ?_
  refine cregion ?_
  refine sv rfl (opv_mv rfl) ?_
  refine sv rfl (opv_len_sl si42 rfl) ?_
  refine sv rfl (opv_mv rfl) ?_
  refine sv rfl (opv_lss rfl rfl) ?_
  refine snil ?_
  refine ccond rfl (fun hc => ?_) (fun hc => ?_)
  · replace h := ite_t hc h
    clear hc
    refine cseq ?_
    refine cregion ?_
    refine sv rfl (opv_mv rfl) ?_
    obtain ⟨v2, hv2, h⟩ := bind_eq h
    refine scallB (x' := .tup []) (M' := [.box [.fn 53 [] [.lp 1 0, .lp 2 0], .i .i64 v2], .box [.i .i64 v1.2.2], .box [.sl a3.length (a3.flatMap eU8)]]) [0, 1, 2] rfl fn55 (.func _) (opnds_cons rfl (opnds_cons rfl opnds_nil)) (m55_enc_Reader_Fails_c hv2) rfl rfl (by decide) rfl rfl rfl ?_
    refine snil ?_
    refine cseq ?_
    refine cregion ?_
    refine sv rfl (opv_as rfl) ?_
    refine snil ?_
    refine cpub 4 rfl (by (repeat' first | exact PubA.nil _ | apply PubA.cons | apply PubV.one | apply PubV.agg | exact PubL.nil | exact PubL.id _ rfl | exact PubLs.nil _ | apply PubLs.cons)) ?_
    refine cret ?_
    refine then_ret ?_
    obtain rfl := Option.some.inj h
    exact ⟨Or.inr rfl, _, [0, 1, 2], [.one (.sl ([] : List UInt8).length (([] : List UInt8).flatMap eU8))], [.box [.fn 53 [] [.lp 1 0, .lp 2 0], .i .i64 v2], .box [.i .i64 v1.2.2], .box [.sl a3.length (a3.flatMap eU8)]], (resVs_cons (ResV.tmp _ _ rfl) resVs_nil), rfl, rfl, ⟨by decide, rfl⟩, rfl, rfl, ⟨rfl, rfl⟩⟩
  · replace h := ite_f hc h
    clear hc
    refine cskip ?_
    refine then_normal ?_
    refine cseq ?_
    refine cseq ?_
    refine cregion ?_
    refine sv rfl (opv_mv rfl) ?_
    refine sv rfl (opv_gtr rfl rfl) ?_
    refine snil ?_
    refine cjoin (Int) (fun b3 => [(1, .s (.one (.i .i64 a0))), (6, .s (.one (.sl v1.2.1.length (v1.2.1.flatMap eU8))))]) (fun b3 => [.box [.fn 53 [] [.lp 1 0, .lp 2 0], .i .i64 a1], .box [.i .i64 b3], .box [.sl a3.length (a3.flatMap eU8)]]) (fun b3 => m56_enc_Reader_takes_k3 a0 a1 v1 b3 = some r) (fun _ _ => inbL_of rfl) (fun _ _ => blkinb_of rfl) (fun _ _ => Nat.le_of_ble_eq_true rfl) (fun b3 h => ?_) ?_
    · unfold m56_enc_Reader_takes_k3 at h
      refine cseq ?_
      refine cregion ?_
      refine sv rfl (opv_mv rfl) ?_
      refine sv rfl (opv_mv rfl) ?_
      obtain ⟨c4, hc4, h⟩ := bind_eq h
      refine sv rfl (opv_cut (f := eU8) (lo := 0) (hi := a0) si42 (fun _ => rfl) rfl rfl rfl bound_none (bound_some rfl (Int.le_trans (cut_eq hc4).1.1 (cut_eq hc4).1.2.1)) hc4) ?_
      refine sv rfl (opv_as rfl) ?_
      refine snil ?_
      refine cret ?_
      obtain rfl := Option.some.inj h
      exact ⟨Or.inr rfl, _, [0, 1, 2], [.one (.sl c4.length (c4.flatMap eU8))], [.box [.fn 53 [] [.lp 1 0, .lp 2 0], .i .i64 a1], .box [.i .i64 b3], .box [.sl a3.length (a3.flatMap eU8)]], (resVs_cons (ResV.tmp _ _ rfl) resVs_nil), rfl, rfl, ⟨by decide, rfl⟩, rfl, rfl, ⟨rfl, rfl⟩⟩
    · skip
      refine ccond rfl (fun hc => ?_) (fun hc => ?_)
      · replace h := ite_t hc h
        clear hc
        refine cregion ?_
        refine sv rfl (opv_mv rfl) ?_
        refine sv rfl (opv_nilCheck rfl rfl (fun _ _ _ h => by cases h)) ?_
        refine sv rfl (opv_fieldAddr_lp fi113_0 rfl) ?_
        refine sv rfl (opv_load1 ti111 rfl (.lp _ _ _ rfl) rfl) ?_
        refine sv rfl (opv_mv rfl) ?_
        obtain ⟨v5, hv5, h⟩ := bind_eq h
        refine scallB (x' := .tup [.one (.i .i64 v5.1), .one (.sl v5.2.1.length (v5.2.1.flatMap eU8))]) (M' := [.box [.fn 53 [] [.lp 1 0, .lp 2 0], .i .i64 a1], .box [.i .i64 v5.2.2], .box [.sl a3.length (a3.flatMap eU8)]]) [1, 2] rfl fn53 (.fn _ _ _ _ rfl) (opnds_cons rfl opnds_nil) (m53_enc_New_1s_c hv5) rfl rfl (by decide) rfl rfl rfl ?_
        refine snil ?_
        exact ⟨v5.2.2, _, h, ⟨rfl, rfl, trivial⟩, rfl⟩
      · replace h := ite_f hc h
        clear hc
        refine cskip ?_
        refine then_normal ?_
        exact ⟨v1.2.2, _, h, ⟨rfl, rfl, trivial⟩, rfl⟩

def m41_enc_Reader_Us_k4 (v3 : (List UInt8) × Int × Int) (b4 : (BitVec 64)) : Option ((BitVec 64) × Int × Int) :=
  some (b4, v3.2.1, v3.2.2)

def m41_enc_Reader_Us_s5 (v3 : (List UInt8) × Int × Int) (s5 : (BitVec 64) × Int) : Option (LB ((BitVec 64) × Int) ((BitVec 64))) :=
  if (decide (s5.2 < (v3.1.length : Int))) then ((idx v3.1 s5.2).bind fun u6 => if 0 ≤ (wI (8 * s5.2)) then (some (.cont ((s5.1 ||| ((u6.toBitVec.setWidth 64) <<< (wI (8 * s5.2)).toNat)), (wI (s5.2 + 1))))) else none) else (some (.brk s5.1))

def m41_enc_Reader_Us_k2 (a0 : Int) (a1 : Int) (a2 : Int) (a3 : List UInt8) (b2 : Unit) : Option ((BitVec 64) × Int × Int) :=
  (m56_enc_Reader_takes a0 a1 a2 a3).bind fun v3 => (iterB (m41_enc_Reader_Us_s5 v3) fuel (0#64, 0)).bind fun e8 => m41_enc_Reader_Us_k4 v3 e8
def m41_enc_Reader_Us (a0 : Int) (a1 : Int) (a2 : Int) (a3 : List UInt8) : Option ((BitVec 64) × Int × Int) :=
  (m54_enc_Reader_Errs a1 a2 a3).bind fun v1 => if (!decide (v1 = 0)) then (some (0#64, a1, a2)) else (if (decide (a0 < 1)) then ((m55_enc_Reader_Fails 1 a1 a2 a3).bind fun v9 => some (0#64, v9, a2)) else (if (decide (8 < a0)) then ((m55_enc_Reader_Fails 1 a1 a2 a3).bind fun v10 => some (0#64, v10, a2)) else (m41_enc_Reader_Us_k2 a0 a1 a2 a3 ())))

set_option maxRecDepth 100000 in
theorem m41_enc_Reader_Us_c {a0 : Int} {a1 : Int} {a2 : Int} {a3 : List UInt8} {r : (BitVec 64) × Int × Int} (h : m41_enc_Reader_Us a0 a1 a2 a3 = some r) : CallsB Try.prog 41 [.box [.fn 53 [] [.lp 1 0, .lp 2 0], .i .i64 a1], .box [.i .i64 a2], .box [.sl a3.length (a3.flatMap eU8)]] [.one (.lp 0 0), .one (.i .i64 a0)] (fun y m' => y = .s (.one (.i .u64 (r.1.toNat : Int))) ∧ m' = [.box [.fn 53 [] [.lp 1 0, .lp 2 0], .i .i64 r.2.1], .box [.i .i64 r.2.2], .box [.sl a3.length (a3.flatMap eU8)]]) := by
  unfold m41_enc_Reader_Us at h
  refine callsB_of Try.func41 rfl (nt := 37) rfl (Nat.le_of_ble_eq_true rfl) ?_
  intro w0 S0 X0 H0
  refine cseq ?_
  refine cregion ?_
  refine sv rfl (opv_as rfl) ?_
  refine snil ?_
  refine cseq ?_
  refine cseq ?_
  refine cregion ?_
  refine sv rfl (opv_mv rfl) ?_
  obtain ⟨v1, hv1, h⟩ := bind_eq h
  refine scallB (x' := .s (.one (.i .i64 v1))) (M' := [.box [.fn 53 [] [.lp 1 0, .lp 2 0], .i .i64 a1], .box [.i .i64 a2], .box [.sl a3.length (a3.flatMap eU8)]]) [0, 1, 2] rfl fn54 (.func _) (opnds_cons rfl opnds_nil) (m54_enc_Reader_Errs_c hv1) rfl rfl (by decide) rfl rfl rfl ?_
  refine sv rfl (opv_ineq rfl rfl) ?_
  refine snil ?_
  refine ccond rfl (fun hc => ?_) (fun hc => ?_)
  · replace h := ite_t hc h
    clear hc
    refine cseq ?_
    refine cregion ?_
    refine sv rfl (opv_as rfl) ?_
    refine snil ?_
    refine cret ?_
    refine then_ret ?_
    obtain rfl := Option.some.inj h
    exact ⟨Or.inr rfl, _, [0, 1, 2], [.one (.i .u64 ((0#64).toNat : Int))], [.box [.fn 53 [] [.lp 1 0, .lp 2 0], .i .i64 a1], .box [.i .i64 a2], .box [.sl a3.length (a3.flatMap eU8)]], (resVs_cons (ResV.tmp _ _ rfl) resVs_nil), rfl, rfl, ⟨by decide, rfl⟩, rfl, rfl, ⟨rfl, rfl⟩⟩
  · replace h := ite_f hc h
    clear hc
    refine cskip ?_
    refine then_normal ?_
    refine cseq ?_
    refine cseq ?_
    refine cjoin3 (Unit) (fun b2 => [(0, .s (.one (.lp 0 0))), (1, .s (.one (.i .i64 a0)))]) (fun b2 => [.box [.fn 53 [] [.lp 1 0, .lp 2 0], .i .i64 a1], .box [.i .i64 a2], .box [.sl a3.length (a3.flatMap eU8)]]) (fun b2 => m41_enc_Reader_Us_k2 a0 a1 a2 a3 b2 = some r) (fun _ _ => inbL_of rfl) (fun _ _ => blkinb_of rfl) (fun _ _ => Nat.le_of_ble_eq_true rfl) (fun b2 h => ?_) ?_
    · unfold m41_enc_Reader_Us_k2 at h
      refine cseq ?_
      refine cregion ?_
      refine sv rfl (opv_as rfl) ?_
      refine snil ?_
      refine cseq ?_
      refine cseq ?_
      refine cregion ?_
      refine sv rfl (opv_mv rfl) ?_
      refine sv rfl (opv_mv rfl) ?_
      obtain ⟨v3, hv3, h⟩ := bind_eq h
      refine scallB (x' := .s (.one (.sl v3.1.length (v3.1.flatMap eU8)))) (M' := [.box [.fn 53 [] [.lp 1 0, .lp 2 0], .i .i64 v3.2.1], .box [.i .i64 v3.2.2], .box [.sl a3.length (a3.flatMap eU8)]]) [0, 1, 2] rfl fn56 (.func _) (opnds_cons rfl (opnds_cons rfl opnds_nil)) (m56_enc_Reader_takes_c hv3) rfl rfl (by decide) rfl rfl rfl ?_
      refine sv rfl (opv_len_sl si42 rfl) ?_
      refine sv rfl (opv_mv rfl) ?_
      refine snil ?_
      refine cjoin ((BitVec 64)) (fun b4 => [(5, .s (.one (.i .u64 (b4.toNat : Int))))]) (fun b4 => [.box [.fn 53 [] [.lp 1 0, .lp 2 0], .i .i64 v3.2.1], .box [.i .i64 v3.2.2], .box [.sl a3.length (a3.flatMap eU8)]]) (fun b4 => m41_enc_Reader_Us_k4 v3 b4 = some r) (fun _ _ => inbL_of rfl) (fun _ _ => blkinb_of rfl) (fun _ _ => Nat.le_of_ble_eq_true rfl) (fun b4 h => ?_) ?_
      · unfold m41_enc_Reader_Us_k4 at h
        refine cseq ?_
        refine cregion ?_
        refine sv rfl (opv_mv rfl) ?_
        refine sv rfl (opv_as rfl) ?_
        refine snil ?_
        refine cret ?_
        obtain rfl := Option.some.inj h
        exact ⟨Or.inr rfl, _, [0, 1, 2], [.one (.i .u64 (b4.toNat : Int))], [.box [.fn 53 [] [.lp 1 0, .lp 2 0], .i .i64 v3.2.1], .box [.i .i64 v3.2.2], .box [.sl a3.length (a3.flatMap eU8)]], (resVs_cons (ResV.tmp _ _ rfl) resVs_nil), rfl, rfl, ⟨by decide, rfl⟩, rfl, rfl, ⟨rfl, rfl⟩⟩
      · skip
        refine cblock ?_
        obtain ⟨x5, hx5, ho5⟩ := bind_eq h
        refine awc_loop (G := Nat × ((BitVec 64) × Int)) (fun g => [(5, .s (.one (.i .u64 (g.2.1.toNat : Int)))), (21, .s (.one (.sl v3.1.length (v3.1.flatMap eU8)))), (22, .s (.one (.i .i64 (v3.1.length : Int)))), (23, .s (.one (.i .i64 g.2.2)))]) (fun g => [.box [.fn 53 [] [.lp 1 0, .lp 2 0], .i .i64 v3.2.1], .box [.i .i64 v3.2.2], .box [.sl a3.length (a3.flatMap eU8)]]) (fun g => iterB (m41_enc_Reader_Us_s5 v3) g.1 g.2 = some x5) (fun g => g.1) (fuel, (0#64, 0)) hx5 ⟨rfl, rfl, rfl, rfl, trivial⟩ [] rfl (fun _ _ => inbL_of rfl) (fun _ _ => blkinb_of rfl) (fun _ _ => Nat.le_of_ble_eq_true rfl) ?_
        clear hx5 h
        rintro ⟨n5, s5⟩ h
        obtain ⟨n5, y5, rfl, h, hk5⟩ := iterB_eq h
        unfold m41_enc_Reader_Us_s5 at h
        refine cseq ?_
        refine cregion ?_
        refine sv rfl (opv_lss rfl rfl) ?_
        refine snil ?_
        refine cseq ?_
        refine ccond rfl (fun hc => ?_) (fun hc => ?_)
        · replace h := ite_t hc h
          clear hc
          refine cskip ?_
          refine then_normal ?_
          refine cseq ?_
          refine cblock ?_
          refine cseq ?_
          refine cregion ?_
          refine sv rfl (opv_mv rfl) ?_
          obtain ⟨u6, hu6, h⟩ := bind_eq h
          refine sv rfl (opv_ix (f := eU8) si42 (fun _ => rfl) rfl rfl rfl rfl hu6) ?_
          refine sv rfl (opv_load1 ti5 rfl (.cp _) rfl) ?_
          refine sv rfl (opv_as rfl) ?_
          refine sv rfl (opv_as rfl) ?_
          refine snil ?_
          refine cregion ?_
          refine sv rfl (opv_mv rfl) ?_
          refine sv rfl (opv_mv rfl) ?_
          refine sv rfl (opv_conv_bv (k := .u8) (a := u6.toBitVec) rfl Try.underlying5 Try.underlying94 rfl rfl) ?_
          refine sv rfl (opv_mv rfl) ?_
          refine sv rfl (opv_mul rfl rfl) ?_
          obtain ⟨hz7, h⟩ := chk_eq h
          refine sv rfl (opv_shl_u64 (a := (u6.toBitVec.setWidth 64)) rfl rfl rfl hz7) ?_
          refine sv rfl (opv_or_u64 (a := s5.1) (b := ((u6.toBitVec.setWidth 64) <<< (wI (8 * s5.2)).toNat)) rfl rfl rfl rfl) ?_
          refine sv rfl (opv_as rfl) ?_
          refine snil0 ?_
          refine block_normal ?_
          refine then_normal ?_
          refine cregion ?_
          refine sv rfl (opv_add rfl rfl) ?_
          refine sv rfl (opv_mv rfl) ?_
          refine snil ?_
          obtain rfl := Option.some.inj h
          exact ⟨(n5, ((s5.1 ||| ((u6.toBitVec.setWidth 64) <<< (wI (8 * s5.2)).toNat)), (wI (s5.2 + 1)))), _, hk5, ⟨rfl, rfl, rfl, rfl, trivial⟩, rfl, Nat.lt_succ_self _⟩
        · replace h := ite_f hc h
          clear hc
          refine cexit ?_
          refine then_exit ?_
          refine then_exit ?_
          refine block_hit ?_
          refine then_normal ?_
          obtain rfl := Option.some.inj h
          obtain rfl : _ = x5 := hk5
          exact ⟨s5.1, _, ho5, ⟨rfl, trivial⟩, rfl⟩
    · skip
      refine cregion ?_
      refine sv rfl (opv_mv rfl) ?_
      refine sv rfl (opv_lss rfl rfl) ?_
      refine sv rfl (opv_mv rfl) ?_
      refine ssplit 13 rfl (fun hc => ?_) (fun hc => ?_)
      · replace h := ite_t hc h
        clear hc
        refine soff rfl rfl rfl rfl ?_
        refine soff rfl rfl rfl rfl ?_
        refine sv rfl (opv_pick_t rfl rfl) ?_
        refine snil ?_
        refine ccond rfl (fun _ => ?_) (fun hx => Bool.noConfusion hx)
        refine cseq ?_
        refine cregion ?_
        refine sv rfl (opv_mv rfl) ?_
        obtain ⟨v9, hv9, h⟩ := bind_eq h
        refine scallB (x' := .tup []) (M' := [.box [.fn 53 [] [.lp 1 0, .lp 2 0], .i .i64 v9], .box [.i .i64 a2], .box [.sl a3.length (a3.flatMap eU8)]]) [0, 1, 2] rfl fn55 (.func _) (opnds_cons rfl (opnds_cons rfl opnds_nil)) (m55_enc_Reader_Fails_c hv9) rfl rfl (by decide) rfl rfl rfl ?_
        refine snil ?_
        refine cseq ?_
        refine cregion ?_
        refine sv rfl (opv_as rfl) ?_
        refine snil ?_
        refine cret ?_
        refine then_ret ?_
        obtain rfl := Option.some.inj h
        exact ⟨Or.inr rfl, _, [0, 1, 2], [.one (.i .u64 ((0#64).toNat : Int))], [.box [.fn 53 [] [.lp 1 0, .lp 2 0], .i .i64 v9], .box [.i .i64 a2], .box [.sl a3.length (a3.flatMap eU8)]], (resVs_cons (ResV.tmp _ _ rfl) resVs_nil), rfl, rfl, ⟨by decide, rfl⟩, rfl, rfl, ⟨rfl, rfl⟩⟩
      · replace h := ite_f hc h
        clear hc
        refine son rfl rfl rfl ?_
        refine sv rfl (opv_mv rfl) ?_
        refine son rfl rfl rfl ?_
        refine sv rfl (opv_gtr rfl rfl) ?_
        refine sv rfl (opv_pick_f rfl rfl) ?_
        refine snil ?_
        refine ccond rfl (fun hc => ?_) (fun hc => ?_)
        · replace h := ite_t hc h
          clear hc
          refine cseq ?_
          refine cregion ?_
          refine sv rfl (opv_mv rfl) ?_
          obtain ⟨v10, hv10, h⟩ := bind_eq h
          refine scallB (x' := .tup []) (M' := [.box [.fn 53 [] [.lp 1 0, .lp 2 0], .i .i64 v10], .box [.i .i64 a2], .box [.sl a3.length (a3.flatMap eU8)]]) [0, 1, 2] rfl fn55 (.func _) (opnds_cons rfl (opnds_cons rfl opnds_nil)) (m55_enc_Reader_Fails_c hv10) rfl rfl (by decide) rfl rfl rfl ?_
          refine snil ?_
          refine cseq ?_
          refine cregion ?_
          refine sv rfl (opv_as rfl) ?_
          refine snil ?_
          refine cret ?_
          refine then_ret ?_
          obtain rfl := Option.some.inj h
          exact ⟨Or.inr rfl, _, [0, 1, 2], [.one (.i .u64 ((0#64).toNat : Int))], [.box [.fn 53 [] [.lp 1 0, .lp 2 0], .i .i64 v10], .box [.i .i64 a2], .box [.sl a3.length (a3.flatMap eU8)]], (resVs_cons (ResV.tmp _ _ rfl) resVs_nil), rfl, rfl, ⟨by decide, rfl⟩, rfl, rfl, ⟨rfl, rfl⟩⟩
        · replace h := ite_f hc h
          clear hc
          refine cskip ?_
          refine then_normal ?_
          exact ⟨(), _, h, ⟨rfl, rfl, trivial⟩, rfl⟩

def m23_prog_Num (a0 : List UInt8) : Option Int :=
  (cut a0 0 (if 4 < (a0.length : Int) then 4 else (a0.length : Int))).bind fun c1 => (m40_enc_News c1).bind fun v2 => (m41_enc_Reader_Us (c1.length : Int) v2.1 v2.2.1 v2.2.2).bind fun v3 => some (wI (v3.1.toNat : Int))

set_option maxRecDepth 100000 in
theorem m23_prog_Num_c {a0 : List UInt8} {r : Int} (h : m23_prog_Num a0 = some r) : CallsA Try.prog 23 [.one (.sl a0.length (a0.flatMap eU8))] (· = .s (.one (.i .i64 r))) := by
  unfold m23_prog_Num at h
  refine callsA_of Try.func23 rfl (nt := 14) rfl (Nat.le_of_ble_eq_true rfl) ?_
  intro w0 S0
  refine cseq ?_
  refine cregion ?_
  refine sv rfl (opv_as rfl) ?_
  refine snil ?_
  refine cseq ?_
  refine cregion ?_
  refine sv rfl (opv_mv rfl) ?_
  refine sv rfl (opv_mv rfl) ?_
  refine sv rfl (opv_len_sl si42 rfl) ?_
  refine sv rfl (opv_min rfl rfl) ?_
  obtain ⟨c1, hc1, h⟩ := bind_eq h
  refine sv rfl (opv_cut (f := eU8) (lo := 0) (hi := (if 4 < (a0.length : Int) then 4 else (a0.length : Int))) si42 (fun _ => rfl) rfl rfl rfl bound_none (bound_some rfl (Int.le_trans (cut_eq hc1).1.1 (cut_eq hc1).1.2.1)) hc1) ?_
  refine sv rfl (opv_as rfl) ?_
  refine snil ?_
  refine cseq ?_
  refine cregion ?_
  refine sv rfl (opv_mv rfl) ?_
  obtain ⟨v2, hv2, h⟩ := bind_eq h
  refine scallB (x' := .s (.one (.lp 0 0))) (M' := [.box [.fn 53 [] [.lp 1 0, .lp 2 0], .i .i64 v2.1], .box [.i .i64 v2.2.1], .box [.sl v2.2.2.length (v2.2.2.flatMap eU8)]]) [] rfl fn40 (.func _) (opnds_cons rfl opnds_nil) (m40_enc_News_c hv2) rfl rfl (by decide) rfl rfl rfl ?_
  refine sv rfl (opv_mv rfl) ?_
  refine sv rfl (opv_len_sl si42 rfl) ?_
  obtain ⟨v3, hv3, h⟩ := bind_eq h
  refine scallB (x' := .s (.one (.i .u64 (v3.1.toNat : Int)))) (M' := [.box [.fn 53 [] [.lp 1 0, .lp 2 0], .i .i64 v3.2.1], .box [.i .i64 v3.2.2], .box [.sl v2.2.2.length (v2.2.2.flatMap eU8)]]) [0, 1, 2] rfl fn41 (.func _) (opnds_cons rfl (opnds_cons rfl opnds_nil)) (m41_enc_Reader_Us_c hv3) rfl rfl (by decide) rfl rfl rfl ?_
  refine sv rfl (opv_conv_int Try.underlying94 Try.underlying3 rfl) ?_
  refine sv rfl (opv_as rfl) ?_
  refine snil ?_
  refine cret ?_
  obtain rfl := Option.some.inj h
  refine ⟨Or.inr rfl, _, _, _, (resVs_cons (ResV.tmp _ _ rfl) resVs_nil), (pubA_id rfl), ?_⟩
  rfl

def m38_prog_sum_k1 (b1 : Int) : Option Int :=
  some b1

def m38_prog_sum_s2 (a0 : List GApiKV) (s2 : Int × Int) : Option (LB (Int × Int) (Int)) :=
  if (decide (s2.2 < (a0.length : Int))) then ((idx a0 s2.2).bind fun u3 => (m23_prog_Num u3.Val).bind fun v4 => (m50_prog_around (wI (s2.1 + v4))).bind fun v5 => some (.cont (v5, (wI (s2.2 + 1))))) else (some (.brk s2.1))
def m38_prog_sum (a0 : List GApiKV) : Option Int :=
  (iterB (m38_prog_sum_s2 a0) fuel (0, 0)).bind fun e6 => m38_prog_sum_k1 e6

set_option maxRecDepth 100000 in
theorem m38_prog_sum_c {a0 : List GApiKV} {r : Int} (h : m38_prog_sum a0 = some r) : CallsA Try.prog 38 [.one (.sl a0.length (a0.flatMap eGApiKV))] (· = .s (.one (.i .i64 r))) := by
  unfold m38_prog_sum at h
  refine callsA_of Try.func38 rfl (nt := 20) rfl (Nat.le_of_ble_eq_true rfl) ?_
  intro w0 S0
  refine cseq ?_
  refine cregion ?_
  refine sv rfl (opv_as rfl) ?_
  refine snil ?_
  refine cseq ?_
  refine cregion ?_
  refine sv rfl (opv_as rfl) ?_
  refine snil ?_
  refine cseq ?_
  refine cseq ?_
  refine cregion ?_
  refine sv rfl (opv_mv rfl) ?_
  refine sv rfl (opv_len_sl si25 rfl) ?_
  refine sv rfl (opv_mv rfl) ?_
  refine snil ?_
  refine cjoin (Int) (fun b1 => [(3, .s (.one (.i .i64 b1)))]) (fun b1 => []) (fun b1 => m38_prog_sum_k1 b1 = some r) (fun _ _ => inbL_of rfl) (fun _ _ => blkinb_of rfl) (fun _ _ => Nat.le_of_ble_eq_true rfl) (fun b1 h => ?_) ?_
  · unfold m38_prog_sum_k1 at h
    refine cseq ?_
    refine cregion ?_
    refine sv rfl (opv_mv rfl) ?_
    refine sv rfl (opv_as rfl) ?_
    refine snil ?_
    refine cret ?_
    obtain rfl := Option.some.inj h
    refine ⟨Or.inr rfl, _, _, _, (resVs_cons (ResV.tmp _ _ rfl) resVs_nil), (pubA_id rfl), ?_⟩
    rfl
  · skip
    refine cblock ?_
    obtain ⟨x2, hx2, ho2⟩ := bind_eq h
    refine awc_loop (G := Nat × (Int × Int)) (fun g => [(3, .s (.one (.i .i64 g.2.1))), (6, .s (.one (.sl a0.length (a0.flatMap eGApiKV)))), (7, .s (.one (.i .i64 (a0.length : Int)))), (8, .s (.one (.i .i64 g.2.2)))]) (fun g => []) (fun g => iterB (m38_prog_sum_s2 a0) g.1 g.2 = some x2) (fun g => g.1) (fuel, (0, 0)) hx2 ⟨rfl, rfl, rfl, rfl, trivial⟩ [] rfl (fun _ _ => inbL_of rfl) (fun _ _ => blkinb_of rfl) (fun _ _ => Nat.le_of_ble_eq_true rfl) ?_
    clear hx2 h
    rintro ⟨n2, s2⟩ h
    obtain ⟨n2, y2, rfl, h, hk2⟩ := iterB_eq h
    unfold m38_prog_sum_s2 at h
    refine cseq ?_
    refine cregion ?_
    refine sv rfl (opv_lss rfl rfl) ?_
    refine snil ?_
    refine cseq ?_
    refine ccond rfl (fun hc => ?_) (fun hc => ?_)
    · replace h := ite_t hc h
      clear hc
      refine cskip ?_
      refine then_normal ?_
      refine cseq ?_
      refine cblock ?_
      refine cseq ?_
      refine cregion ?_
      obtain ⟨u3, hu3, h⟩ := bind_eq h
      refine sv rfl (opv_ix (f := eGApiKV) si25 (fun _ => rfl) rfl rfl rfl rfl hu3) ?_
      refine sv rfl (opv_loadNe (ys := [.sl u3.Key.length (u3.Key.flatMap eU8), .sl u3.Val.length (u3.Val.flatMap eU8)]) ti65 rfl (.cp _) rfl rfl) ?_
      refine salloc rfl zi65 ?_
      refine sstore sz65 rfl rfl rfl rfl (Nat.le_of_ble_eq_true rfl) ?_
      refine smem [.box u3] rfl ?_
      refine snil ?_
      refine cregion ?_
      refine sv rfl (opv_mv rfl) ?_
      refine sv rfl (opv_fieldAddr_lp fi65_1 rfl) ?_
      refine sv rfl (opv_load1 ti42 rfl (.lp _ _ _ rfl) rfl) ?_
      obtain ⟨v4, hv4, h⟩ := bind_eq h
      refine scall1 rfl fn23 (opnds_cons rfl opnds_nil) (pubA_id rfl) (m23_prog_Num_c hv4) ?_
      refine sv rfl (opv_add rfl rfl) ?_
      obtain ⟨v5, hv5, h⟩ := bind_eq h
      refine scall1 rfl fn50 (opnds_cons rfl opnds_nil) (pubA_id rfl) (m50_prog_around_c hv5) ?_
      refine sv rfl (opv_as rfl) ?_
      refine snil0 ?_
      refine block_normal ?_
      refine then_normal ?_
      refine cregion ?_
      refine sv rfl (opv_add rfl rfl) ?_
      refine sv rfl (opv_mv rfl) ?_
      refine snil ?_
      obtain rfl := Option.some.inj h
      exact ⟨(n2, (v5, (wI (s2.2 + 1)))), _, hk2, ⟨rfl, rfl, rfl, rfl, trivial⟩, rfl, Nat.lt_succ_self _⟩
    · replace h := ite_f hc h
      clear hc
      refine cexit ?_
      refine then_exit ?_
      refine then_exit ?_
      refine block_hit ?_
      refine then_normal ?_
      obtain rfl := Option.some.inj h
      obtain rfl : _ = x2 := hk2
      exact ⟨s2.1, _, ho2, ⟨rfl, trivial⟩, rfl⟩

def m20_prog_Take_k4 (a1 : GProgState) (b4 : Int × Int × Int × Int × Int × Int × Int × Int) : Option (GProgState × Int) :=
  some ((GProgState.mk (wI (a1.PC + 1)) (GAnon33.mk b4.1 b4.2.1 b4.2.2.1 b4.2.2.2.1 b4.2.2.2.2.1 b4.2.2.2.2.2.1 b4.2.2.2.2.2.2.1 b4.2.2.2.2.2.2.2) a1.Stopped), 0)

def m20_prog_Take_k2 (a0 : GProgProg) (a1 : GProgState) (a2 : GMsgReply) (b2 : Unit) : Option (GProgState × Int) :=
  (idx a0.Ops a1.PC).bind fun u3 => if (decide (u3.What = 1)) then (if 0 ≤ u3.B ∧ u3.B < ((8 : Nat) : Int) then ((putGAnon33 (GAnon33.mk a1.Regs.R0 a1.Regs.R1 a1.Regs.R2 a1.Regs.R3 a1.Regs.R4 a1.Regs.R5 a1.Regs.R6 a1.Regs.R7) u3.B 0).bind fun q6 => if 0 ≤ u3.A ∧ u3.A < ((8 : Nat) : Int) then ((putGAnon33 (GAnon33.mk q6.R0 q6.R1 q6.R2 q6.R3 q6.R4 q6.R5 q6.R6 q6.R7) u3.A 0).bind fun q8 => if a2.Found then (if 0 ≤ u3.B ∧ u3.B < ((8 : Nat) : Int) then ((putGAnon33 (GAnon33.mk q8.R0 q8.R1 q8.R2 q8.R3 q8.R4 q8.R5 q8.R6 q8.R7) u3.B 1).bind fun q10 => (m23_prog_Num a2.Val).bind fun v11 => if 0 ≤ u3.A ∧ u3.A < ((8 : Nat) : Int) then ((putGAnon33 (GAnon33.mk q10.R0 q10.R1 q10.R2 q10.R3 q10.R4 q10.R5 q10.R6 q10.R7) u3.A v11).bind fun q13 => m20_prog_Take_k4 a1 (q13.R0, q13.R1, q13.R2, q13.R3, q13.R4, q13.R5, q13.R6, q13.R7)) else none) else none) else (m20_prog_Take_k4 a1 (q8.R0, q8.R1, q8.R2, q8.R3, q8.R4, q8.R5, q8.R6, q8.R7))) else none) else none) else (if (decide (u3.What = 4)) then ((m38_prog_sum a2.List).bind fun v14 => if 0 ≤ u3.B ∧ u3.B < ((8 : Nat) : Int) then ((putGAnon33 (GAnon33.mk a1.Regs.R0 a1.Regs.R1 a1.Regs.R2 a1.Regs.R3 a1.Regs.R4 a1.Regs.R5 a1.Regs.R6 a1.Regs.R7) u3.B v14).bind fun q16 => if 0 ≤ u3.A ∧ u3.A < ((8 : Nat) : Int) then ((putGAnon33 (GAnon33.mk q16.R0 q16.R1 q16.R2 q16.R3 q16.R4 q16.R5 q16.R6 q16.R7) u3.A (a2.List.length : Int)).bind fun q18 => m20_prog_Take_k4 a1 (q18.R0, q18.R1, q18.R2, q18.R3, q18.R4, q18.R5, q18.R6, q18.R7)) else none) else none) else (m20_prog_Take_k4 a1 (a1.Regs.R0, a1.Regs.R1, a1.Regs.R2, a1.Regs.R3, a1.Regs.R4, a1.Regs.R5, a1.Regs.R6, a1.Regs.R7)))
def m20_prog_Take (a0 : GProgProg) (a1 : GProgState) (a2 : GMsgReply) : Option (GProgState × Int) :=
  (m15_prog_Sane a0).bind fun v1 => if (!v1) then (some ((GProgState.mk 0 (GAnon33.mk 0 0 0 0 0 0 0 0) false), 1)) else ((m37_prog_within a1.PC (wI ((a0.Ops.length : Int) - 1))).bind fun v19 => if (!v19) then (some ((GProgState.mk 0 (GAnon33.mk 0 0 0 0 0 0 0 0) false), 7)) else (if a1.Stopped then (some ((GProgState.mk 0 (GAnon33.mk 0 0 0 0 0 0 0 0) false), 7)) else ((idx a0.Ops a1.PC).bind fun u20 => (m32_prog_asks (GProgOp.mk u20.What u20.A u20.B u20.N u20.Key (GApiRange.mk u20.Rng.Lo u20.Rng.Hi u20.Rng.Open))).bind fun v21 => if (!v21) then (some ((GProgState.mk 0 (GAnon33.mk 0 0 0 0 0 0 0 0) false), 7)) else (m20_prog_Take_k2 a0 a1 a2 ()))))

set_option maxRecDepth 100000 in
theorem m20_prog_Take_c {a0 : GProgProg} {a1 : GProgState} {a2 : GMsgReply} {r : GProgState × Int} (h : m20_prog_Take a0 a1 a2 = some r) : CallsA Try.prog 20 [.agg a0, .agg a1, .agg a2] (· = .tup [.agg r.1, .one (.i .i64 r.2)]) := by
  unfold m20_prog_Take at h
  refine callsA_of Try.func20 rfl (nt := 88) rfl (Nat.le_of_ble_eq_true rfl) ?_
  intro w0 S0
  refine cseq ?_
  refine cregion ?_
  refine sbox rfl rfl ?_
  refine sbox rfl rfl ?_
  refine sbox rfl rfl ?_
  refine salloc rfl zi35 ?_
  refine sv rfl (opv_as rfl) ?_
  refine snil ?_
  refine cseq ?_
  refine cseq ?_
  refine cregion ?_
  refine sv rfl (opv_loadN ti31 rfl (.lp _ _ _ rfl) (Nat.le_of_ble_eq_true rfl)) ?_
  obtain ⟨v1, hv1, h⟩ := bind_eq h
  refine scall1 rfl fn15 (opnds_cons rfl opnds_nil) (pubA_id rfl) (m15_prog_Sane_c hv1) ?_
  refine sv rfl (opv_not rfl) ?_
  refine snil ?_
  refine ccond rfl (fun hc => ?_) (fun hc => ?_)
  · replace h := ite_t hc h
    clear hc
    refine cseq ?_
    refine cregion ?_
    refine sv rfl (opv_build zi35 pi35 parts_nil (.nil _)) ?_
    refine sstore sz35 rfl rfl rfl rfl (Nat.le_of_ble_eq_true rfl) ?_
    refine smem [.box a0, .box a1, .box a2, .box [.i .i64 0, .i .i64 0, .i .i64 0, .i .i64 0, .i .i64 0, .i .i64 0, .i .i64 0, .i .i64 0, .i .i64 0, .b false]] rfl ?_
    refine sv rfl (opv_as rfl) ?_
    refine snil ?_
    refine cret ?_
    refine then_ret ?_
    obtain rfl := Option.some.inj h
    refine ⟨Or.inr rfl, _, _, _, (resVs_cons (ResV.agg _ _ _ _ _ ti35 rfl (.lp _ _ _ rfl) (Nat.le_of_ble_eq_true rfl)) (resVs_cons (ResV.tmp _ _ rfl) resVs_nil)), (pubA_id rfl), ?_⟩
    rfl
  · replace h := ite_f hc h
    clear hc
    refine cskip ?_
    refine then_normal ?_
    refine cseq ?_
    refine cseq ?_
    refine cjoin3 (Unit) (fun b2 => [(3, .s (.one (.lp 0 0))), (4, .s (.one (.lp 1 0))), (5, .s (.one (.lp 2 0))), (6, .s (.one (.lp 3 0)))]) (fun b2 => [.box a0, .box a1, .box a2, .box [.i .i64 0, .i .i64 0, .i .i64 0, .i .i64 0, .i .i64 0, .i .i64 0, .i .i64 0, .i .i64 0, .i .i64 0, .b false]]) (fun b2 => m20_prog_Take_k2 a0 a1 a2 b2 = some r) (fun _ _ => inbL_of rfl) (fun _ _ => blkinb_of rfl) (fun _ _ => Nat.le_of_ble_eq_true rfl) (fun b2 h => ?_) ?_
    · unfold m20_prog_Take_k2 at h
      refine cseq ?_
      refine cregion ?_
      refine sv rfl (opv_fieldAddr_lp fi31_1 rfl) ?_
      refine sv rfl (opv_load1 ti29 rfl (.lp _ _ _ rfl) rfl) ?_
      refine sv rfl (opv_fieldAddr_lp fi35_0 rfl) ?_
      refine sv rfl (opv_load1 ti3 rfl (.lp _ _ _ rfl) rfl) ?_
      obtain ⟨u3, hu3, h⟩ := bind_eq h
      refine sv rfl (opv_ix (f := eGProgOp) si29 (fun _ => rfl) rfl rfl rfl rfl hu3) ?_
      refine sv rfl (opv_loadNe (ys := [.i .i64 u3.What, .i .i64 u3.A, .i .i64 u3.B, .i .i64 u3.N, .sl u3.Key.length (u3.Key.flatMap eU8), .sl u3.Rng.Lo.length (u3.Rng.Lo.flatMap eU8), .sl u3.Rng.Hi.length (u3.Rng.Hi.flatMap eU8), .b u3.Rng.Open]) ti71 rfl (.cp _) rfl rfl) ?_
      refine salloc rfl zi71 ?_
      refine sstore sz71 rfl rfl rfl rfl (Nat.le_of_ble_eq_true rfl) ?_
      refine smem [.box a0, .box a1, .box a2, .box [.i .i64 0, .i .i64 0, .i .i64 0, .i .i64 0, .i .i64 0, .i .i64 0, .i .i64 0, .i .i64 0, .i .i64 0, .b false], .box u3] rfl ?_
      refine snil ?_
      refine cseq ?_
      refine cregion ?_
      refine sv rfl (opv_fieldAddr_lp fi35_0 rfl) ?_
      refine sv rfl (opv_load1 ti3 rfl (.lp _ _ _ rfl) rfl) ?_
      refine sv rfl (opv_add rfl rfl) ?_
      refine sv rfl (opv_fieldAddr_lp fi35_0 rfl) ?_
      refine sstore sz3 rfl rfl rfl rfl (Nat.le_of_ble_eq_true rfl) ?_
      refine smem [.box a0, .box [.i .i64 (wI (a1.PC + 1)), .i .i64 a1.Regs.R0, .i .i64 a1.Regs.R1, .i .i64 a1.Regs.R2, .i .i64 a1.Regs.R3, .i .i64 a1.Regs.R4, .i .i64 a1.Regs.R5, .i .i64 a1.Regs.R6, .i .i64 a1.Regs.R7, .b a1.Stopped], .box a2, .box [.i .i64 0, .i .i64 0, .i .i64 0, .i .i64 0, .i .i64 0, .i .i64 0, .i .i64 0, .i .i64 0, .i .i64 0, .b false], .box u3] rfl ?_
      refine snil ?_
      refine cseq ?_
      refine cseq ?_
      refine cregion ?_
      refine sv rfl (opv_fieldAddr_lp fi71_0 rfl) ?_
      refine sv rfl (opv_load1 ti3 rfl (.lp _ _ _ rfl) rfl) ?_
      refine snil ?_
      refine cjoin (Int × Int × Int × Int × Int × Int × Int × Int) (fun b4 => [(4, .s (.one (.lp 1 0))), (6, .s (.one (.lp 3 0)))]) (fun b4 => [.box a0, .box [.i .i64 (wI (a1.PC + 1)), .i .i64 b4.1, .i .i64 b4.2.1, .i .i64 b4.2.2.1, .i .i64 b4.2.2.2.1, .i .i64 b4.2.2.2.2.1, .i .i64 b4.2.2.2.2.2.1, .i .i64 b4.2.2.2.2.2.2.1, .i .i64 b4.2.2.2.2.2.2.2, .b a1.Stopped], .box a2, .box [.i .i64 0, .i .i64 0, .i .i64 0, .i .i64 0, .i .i64 0, .i .i64 0, .i .i64 0, .i .i64 0, .i .i64 0, .b false], .box u3]) (fun b4 => m20_prog_Take_k4 a1 b4 = some r) (fun _ _ => inbL_of rfl) (fun _ _ => blkinb_of rfl) (fun _ _ => Nat.le_of_ble_eq_true rfl) (fun b4 h => ?_) ?_
      · unfold m20_prog_Take_k4 at h
        refine cseq ?_
        refine cregion ?_
        refine sv rfl (opv_loadN ti35 rfl (.lp _ _ _ rfl) (Nat.le_of_ble_eq_true rfl)) ?_
        refine sstore sz35 rfl rfl rfl rfl (Nat.le_of_ble_eq_true rfl) ?_
        refine smem [.box a0, .box [.i .i64 (wI (a1.PC + 1)), .i .i64 b4.1, .i .i64 b4.2.1, .i .i64 b4.2.2.1, .i .i64 b4.2.2.2.1, .i .i64 b4.2.2.2.2.1, .i .i64 b4.2.2.2.2.2.1, .i .i64 b4.2.2.2.2.2.2.1, .i .i64 b4.2.2.2.2.2.2.2, .b a1.Stopped], .box a2, .box [.i .i64 (wI (a1.PC + 1)), .i .i64 b4.1, .i .i64 b4.2.1, .i .i64 b4.2.2.1, .i .i64 b4.2.2.2.1, .i .i64 b4.2.2.2.2.1, .i .i64 b4.2.2.2.2.2.1, .i .i64 b4.2.2.2.2.2.2.1, .i .i64 b4.2.2.2.2.2.2.2, .b a1.Stopped], .box u3] rfl ?_
        refine sv rfl (opv_as rfl) ?_
        refine snil ?_
        refine cret ?_
        obtain rfl := Option.some.inj h
        refine ⟨Or.inr rfl, _, _, _, (resVs_cons (ResV.agg _ _ _ _ _ ti35 rfl (.lp _ _ _ rfl) (Nat.le_of_ble_eq_true rfl)) (resVs_cons (ResV.tmp _ _ rfl) resVs_nil)), (pubA_id rfl), ?_⟩
        rfl
      · skip
        refine cblock ?_
        refine cseq ?_
        refine cregion ?_
        refine sv rfl (opv_ieql rfl rfl) ?_
        refine sv rfl (opv_as rfl) ?_
        refine snil ?_
        refine ccond rfl (fun hc => ?_) (fun hc => ?_)
        · replace h := ite_t hc h
          clear hc
          refine cseq ?_
          obtain ⟨hj5, h⟩ := chk_eq h
          obtain ⟨q6, hq6, h⟩ := bind_eq h
          obtain ⟨hj7, h⟩ := chk_eq h
          obtain ⟨q8, hq8, h⟩ := bind_eq h
          refine cdraw_e [6, 9] [0, 1, 0, 4, 0, 19, 51, 0, 255, 511] [[.box a0, .box [.i .i64 (wI (a1.PC + 1)), .i .i64 a1.Regs.R0, .i .i64 a1.Regs.R1, .i .i64 a1.Regs.R2, .i .i64 a1.Regs.R3, .i .i64 a1.Regs.R4, .i .i64 a1.Regs.R5, .i .i64 a1.Regs.R6, .i .i64 a1.Regs.R7, .b a1.Stopped], .box a2, .box [.i .i64 0, .i .i64 0, .i .i64 0, .i .i64 0, .i .i64 0, .i .i64 0, .i .i64 0, .i .i64 0, .i .i64 0, .b false], .box u3], [.box a0, .box [.i .i64 (wI (a1.PC + 1)), .i .i64 q6.R0, .i .i64 q6.R1, .i .i64 q6.R2, .i .i64 q6.R3, .i .i64 q6.R4, .i .i64 q6.R5, .i .i64 q6.R6, .i .i64 q6.R7, .b a1.Stopped], .box a2, .box [.i .i64 0, .i .i64 0, .i .i64 0, .i .i64 0, .i .i64 0, .i .i64 0, .i .i64 0, .i .i64 0, .i .i64 0, .b false], .box u3], [.box a0, .box [.i .i64 (wI (a1.PC + 1)), .i .i64 q8.R0, .i .i64 q8.R1, .i .i64 q8.R2, .i .i64 q8.R3, .i .i64 q8.R4, .i .i64 q8.R5, .i .i64 q8.R6, .i .i64 q8.R7, .b a1.Stopped], .box a2, .box [.i .i64 0, .i .i64 0, .i .i64 0, .i .i64 0, .i .i64 0, .i .i64 0, .i .i64 0, .i .i64 0, .i .i64 0, .b false], .box u3]] (by kernel_rfl) mixed (by kernel_rfl) (by decide) rfl rfl rfl rfl ?_
          refine ev (sees_at 0 rfl rfl) rfl rfl (opv_fieldAddr_lp fi71_2 rfl) ?_
          refine ev (sees_at 0 rfl rfl) rfl rfl (opv_load1 ti3 rfl (.lp _ _ _ rfl) rfl) ?_
          refine ev (sees_all (md := [.box a0, .dead, .box a2, .box [.i .i64 0, .i .i64 0, .i .i64 0, .i .i64 0, .i .i64 0, .i .i64 0, .i .i64 0, .i .i64 0, .i .i64 0, .b false], .box u3]) ⟨⟨rfl, ⟨trivial, ⟨rfl, ⟨rfl, ⟨rfl, trivial⟩⟩⟩⟩⟩, ⟨⟨rfl, ⟨trivial, ⟨rfl, ⟨rfl, ⟨rfl, trivial⟩⟩⟩⟩⟩, ⟨⟨rfl, ⟨trivial, ⟨rfl, ⟨rfl, ⟨rfl, trivial⟩⟩⟩⟩⟩, trivial⟩⟩⟩) rfl rfl (opv_fieldAddr_lp fi71_1 rfl) ?_
          refine ev (sees_all (md := [.box a0, .dead, .box a2, .box [.i .i64 0, .i .i64 0, .i .i64 0, .i .i64 0, .i .i64 0, .i .i64 0, .i .i64 0, .i .i64 0, .i .i64 0, .b false], .box u3]) ⟨⟨rfl, ⟨trivial, ⟨rfl, ⟨rfl, ⟨rfl, trivial⟩⟩⟩⟩⟩, ⟨⟨rfl, ⟨trivial, ⟨rfl, ⟨rfl, ⟨rfl, trivial⟩⟩⟩⟩⟩, ⟨⟨rfl, ⟨trivial, ⟨rfl, ⟨rfl, ⟨rfl, trivial⟩⟩⟩⟩⟩, trivial⟩⟩⟩) rfl rfl (opv_load1 ti3 rfl (.lp _ _ _ rfl) rfl) ?_
          refine ev (sees_at 0 rfl rfl) rfl rfl (opv_fieldAddr_lp fi35_1 rfl) ?_
          refine ev (sees_at 0 rfl rfl) rfl rfl (opv_ixsx ai33 rfl rfl hj5) ?_
          refine ee0 0 rfl rfl rfl rfl (fun ζ => ?_) ?_
          · refine sstore sz3 rfl rfl rfl rfl (fitsx hj5 (Nat.le_of_ble_eq_true rfl)) ?_
            refine smem [.box a0, .box [.i .i64 (wI (a1.PC + 1)), .i .i64 q6.R0, .i .i64 q6.R1, .i .i64 q6.R2, .i .i64 q6.R3, .i .i64 q6.R4, .i .i64 q6.R5, .i .i64 q6.R6, .i .i64 q6.R7, .b a1.Stopped], .box a2, .box [.i .i64 0, .i .i64 0, .i .i64 0, .i .i64 0, .i .i64 0, .i .i64 0, .i .i64 0, .i .i64 0, .i .i64 0, .b false], .box u3] (put_blk (pu33 hq6 [.i .i64 (wI (a1.PC + 1))] [.b a1.Stopped])) ?_
            exact eend
          refine ev (sees_all (md := [.box a0, .dead, .box a2, .box [.i .i64 0, .i .i64 0, .i .i64 0, .i .i64 0, .i .i64 0, .i .i64 0, .i .i64 0, .i .i64 0, .i .i64 0, .b false], .box u3]) ⟨⟨rfl, ⟨trivial, ⟨rfl, ⟨rfl, ⟨rfl, trivial⟩⟩⟩⟩⟩, ⟨⟨rfl, ⟨trivial, ⟨rfl, ⟨rfl, ⟨rfl, trivial⟩⟩⟩⟩⟩, ⟨⟨rfl, ⟨trivial, ⟨rfl, ⟨rfl, ⟨rfl, trivial⟩⟩⟩⟩⟩, trivial⟩⟩⟩) rfl rfl (opv_fieldAddr_lp fi35_1 rfl) ?_
          refine ev (sees_at 1 rfl rfl) rfl rfl (opv_ixsx ai33 rfl rfl hj7) ?_
          refine ee0 1 rfl rfl rfl rfl (fun ζ => ?_) ?_
          · refine sstore sz3 rfl rfl rfl rfl (fitsx hj7 (Nat.le_of_ble_eq_true rfl)) ?_
            refine smem [.box a0, .box [.i .i64 (wI (a1.PC + 1)), .i .i64 q8.R0, .i .i64 q8.R1, .i .i64 q8.R2, .i .i64 q8.R3, .i .i64 q8.R4, .i .i64 q8.R5, .i .i64 q8.R6, .i .i64 q8.R7, .b a1.Stopped], .box a2, .box [.i .i64 0, .i .i64 0, .i .i64 0, .i .i64 0, .i .i64 0, .i .i64 0, .i .i64 0, .i .i64 0, .i .i64 0, .b false], .box u3] (put_blk (pu33 hq8 [.i .i64 (wI (a1.PC + 1))] [.b a1.Stopped])) ?_
            exact eend
          refine enil ?_
          refine then_normal ?_
          refine cseq ?_
          refine cregion ?_
          refine sv rfl (opv_fieldAddr_lp fi51_4 rfl) ?_
          refine sv rfl (opv_load1 ti4 rfl (.lp _ _ _ rfl) rfl) ?_
          refine snil ?_
          refine ccond rfl (fun hc => ?_) (fun hc => ?_)
          · replace h := ite_t hc h
            clear hc
            refine cseq ?_
            refine cregion ?_
            refine sv rfl (opv_fieldAddr_lp fi71_2 rfl) ?_
            refine sv rfl (opv_load1 ti3 rfl (.lp _ _ _ rfl) rfl) ?_
            refine sv rfl (opv_fieldAddr_lp fi35_1 rfl) ?_
            obtain ⟨hj9, h⟩ := chk_eq h
            refine sv rfl (opv_ixsx ai33 rfl rfl hj9) ?_
            obtain ⟨q10, hq10, h⟩ := bind_eq h
            refine sstore sz3 rfl rfl rfl rfl (fitsx hj9 (Nat.le_of_ble_eq_true rfl)) ?_
            refine smem [.box a0, .box [.i .i64 (wI (a1.PC + 1)), .i .i64 q10.R0, .i .i64 q10.R1, .i .i64 q10.R2, .i .i64 q10.R3, .i .i64 q10.R4, .i .i64 q10.R5, .i .i64 q10.R6, .i .i64 q10.R7, .b a1.Stopped], .box a2, .box [.i .i64 0, .i .i64 0, .i .i64 0, .i .i64 0, .i .i64 0, .i .i64 0, .i .i64 0, .i .i64 0, .i .i64 0, .b false], .box u3] (put_blk (pu33 hq10 [.i .i64 (wI (a1.PC + 1))] [.b a1.Stopped])) ?_
            refine snil ?_
            obtain ⟨v11, hv11, h⟩ := bind_eq h
            obtain ⟨hj12, h⟩ := chk_eq h
            obtain ⟨q13, hq13, h⟩ := bind_eq h
            refine cdraw_e [7] [0, 1, 0, 4, 12, 0, 63, 127] [[.box a0, .box [.i .i64 (wI (a1.PC + 1)), .i .i64 q10.R0, .i .i64 q10.R1, .i .i64 q10.R2, .i .i64 q10.R3, .i .i64 q10.R4, .i .i64 q10.R5, .i .i64 q10.R6, .i .i64 q10.R7, .b a1.Stopped], .box a2, .box [.i .i64 0, .i .i64 0, .i .i64 0, .i .i64 0, .i .i64 0, .i .i64 0, .i .i64 0, .i .i64 0, .i .i64 0, .b false], .box u3], [.box a0, .box [.i .i64 (wI (a1.PC + 1)), .i .i64 q13.R0, .i .i64 q13.R1, .i .i64 q13.R2, .i .i64 q13.R3, .i .i64 q13.R4, .i .i64 q13.R5, .i .i64 q13.R6, .i .i64 q13.R7, .b a1.Stopped], .box a2, .box [.i .i64 0, .i .i64 0, .i .i64 0, .i .i64 0, .i .i64 0, .i .i64 0, .i .i64 0, .i .i64 0, .i .i64 0, .b false], .box u3]] (by kernel_rfl) mixed (by kernel_rfl) (by decide) rfl rfl rfl rfl ?_
            refine ev (sees_at 0 rfl rfl) rfl rfl (opv_fieldAddr_lp fi71_1 rfl) ?_
            refine ev (sees_at 0 rfl rfl) rfl rfl (opv_load1 ti3 rfl (.lp _ _ _ rfl) rfl) ?_
            refine ev (sees_at 0 rfl rfl) rfl rfl (opv_fieldAddr_lp fi51_5 rfl) ?_
            refine ev (sees_at 0 rfl rfl) rfl rfl (opv_load1 ti42 rfl (.lp _ _ _ rfl) rfl) ?_
            refine ed (sees_at 0 rfl rfl) rfl rfl (opD_call fn23 (opnds_cons rfl opnds_nil) rfl (m23_prog_Num_c hv11)) ?_
            refine ev (sees_at 0 rfl rfl) rfl rfl (opv_fieldAddr_lp fi35_1 rfl) ?_
            refine ev (sees_at 0 rfl rfl) rfl rfl (opv_ixsx ai33 rfl rfl hj12) ?_
            refine ee0 0 rfl rfl rfl rfl (fun ζ => ?_) ?_
            · refine sstore sz3 rfl rfl rfl rfl (fitsx hj12 (Nat.le_of_ble_eq_true rfl)) ?_
              refine smem [.box a0, .box [.i .i64 (wI (a1.PC + 1)), .i .i64 q13.R0, .i .i64 q13.R1, .i .i64 q13.R2, .i .i64 q13.R3, .i .i64 q13.R4, .i .i64 q13.R5, .i .i64 q13.R6, .i .i64 q13.R7, .b a1.Stopped], .box a2, .box [.i .i64 0, .i .i64 0, .i .i64 0, .i .i64 0, .i .i64 0, .i .i64 0, .i .i64 0, .i .i64 0, .i .i64 0, .b false], .box u3] (put_blk (pu33 hq13 [.i .i64 (wI (a1.PC + 1))] [.b a1.Stopped])) ?_
              exact eend
            refine enil ?_
            refine block_normal ?_
            refine then_normal ?_
            exact ⟨(q13.R0, q13.R1, q13.R2, q13.R3, q13.R4, q13.R5, q13.R6, q13.R7), _, h, ⟨rfl, rfl, trivial⟩, rfl⟩
          · replace h := ite_f hc h
            clear hc
            refine cskip ?_
            refine block_normal ?_
            refine then_normal ?_
            exact ⟨(q8.R0, q8.R1, q8.R2, q8.R3, q8.R4, q8.R5, q8.R6, q8.R7), _, h, ⟨rfl, rfl, trivial⟩, rfl⟩
        · replace h := ite_f hc h
          clear hc
          refine cseq ?_
          refine cregion ?_
          refine sv rfl (opv_ieql rfl rfl) ?_
          refine sv rfl (opv_as rfl) ?_
          refine snil ?_
          refine ccond rfl (fun hc => ?_) (fun hc => ?_)
          · replace h := ite_t hc h
            clear hc
            refine cseq ?_
            obtain ⟨v14, hv14, h⟩ := bind_eq h
            obtain ⟨hj15, h⟩ := chk_eq h
            obtain ⟨q16, hq16, h⟩ := bind_eq h
            refine cdraw_e [7] [0, 1, 0, 4, 12, 0, 63, 127] [[.box a0, .box [.i .i64 (wI (a1.PC + 1)), .i .i64 a1.Regs.R0, .i .i64 a1.Regs.R1, .i .i64 a1.Regs.R2, .i .i64 a1.Regs.R3, .i .i64 a1.Regs.R4, .i .i64 a1.Regs.R5, .i .i64 a1.Regs.R6, .i .i64 a1.Regs.R7, .b a1.Stopped], .box a2, .box [.i .i64 0, .i .i64 0, .i .i64 0, .i .i64 0, .i .i64 0, .i .i64 0, .i .i64 0, .i .i64 0, .i .i64 0, .b false], .box u3], [.box a0, .box [.i .i64 (wI (a1.PC + 1)), .i .i64 q16.R0, .i .i64 q16.R1, .i .i64 q16.R2, .i .i64 q16.R3, .i .i64 q16.R4, .i .i64 q16.R5, .i .i64 q16.R6, .i .i64 q16.R7, .b a1.Stopped], .box a2, .box [.i .i64 0, .i .i64 0, .i .i64 0, .i .i64 0, .i .i64 0, .i .i64 0, .i .i64 0, .i .i64 0, .i .i64 0, .b false], .box u3]] (by kernel_rfl) mixed (by kernel_rfl) (by decide) rfl rfl rfl rfl ?_
            refine ev (sees_at 0 rfl rfl) rfl rfl (opv_fieldAddr_lp fi71_2 rfl) ?_
            refine ev (sees_at 0 rfl rfl) rfl rfl (opv_load1 ti3 rfl (.lp _ _ _ rfl) rfl) ?_
            refine ev (sees_at 0 rfl rfl) rfl rfl (opv_fieldAddr_lp fi51_6 rfl) ?_
            refine ev (sees_at 0 rfl rfl) rfl rfl (opv_load1 ti25 rfl (.lp _ _ _ rfl) rfl) ?_
            refine ed (sees_at 0 rfl rfl) rfl rfl (opD_call fn38 (opnds_cons rfl opnds_nil) rfl (m38_prog_sum_c hv14)) ?_
            refine ev (sees_at 0 rfl rfl) rfl rfl (opv_fieldAddr_lp fi35_1 rfl) ?_
            refine ev (sees_at 0 rfl rfl) rfl rfl (opv_ixsx ai33 rfl rfl hj15) ?_
            refine ee0 0 rfl rfl rfl rfl (fun ζ => ?_) ?_
            · refine sstore sz3 rfl rfl rfl rfl (fitsx hj15 (Nat.le_of_ble_eq_true rfl)) ?_
              refine smem [.box a0, .box [.i .i64 (wI (a1.PC + 1)), .i .i64 q16.R0, .i .i64 q16.R1, .i .i64 q16.R2, .i .i64 q16.R3, .i .i64 q16.R4, .i .i64 q16.R5, .i .i64 q16.R6, .i .i64 q16.R7, .b a1.Stopped], .box a2, .box [.i .i64 0, .i .i64 0, .i .i64 0, .i .i64 0, .i .i64 0, .i .i64 0, .i .i64 0, .i .i64 0, .i .i64 0, .b false], .box u3] (put_blk (pu33 hq16 [.i .i64 (wI (a1.PC + 1))] [.b a1.Stopped])) ?_
              exact eend
            refine enil ?_
            refine then_normal ?_
            refine cregion ?_
            refine sv rfl (opv_fieldAddr_lp fi71_1 rfl) ?_
            refine sv rfl (opv_load1 ti3 rfl (.lp _ _ _ rfl) rfl) ?_
            refine sv rfl (opv_fieldAddr_lp fi51_6 rfl) ?_
            refine sv rfl (opv_load1 ti25 rfl (.lp _ _ _ rfl) rfl) ?_
            refine sv rfl (opv_len_sl si25 rfl) ?_
            refine sv rfl (opv_fieldAddr_lp fi35_1 rfl) ?_
            obtain ⟨hj17, h⟩ := chk_eq h
            refine sv rfl (opv_ixsx ai33 rfl rfl hj17) ?_
            obtain ⟨q18, hq18, h⟩ := bind_eq h
            refine sstore sz3 rfl rfl rfl rfl (fitsx hj17 (Nat.le_of_ble_eq_true rfl)) ?_
            refine smem [.box a0, .box [.i .i64 (wI (a1.PC + 1)), .i .i64 q18.R0, .i .i64 q18.R1, .i .i64 q18.R2, .i .i64 q18.R3, .i .i64 q18.R4, .i .i64 q18.R5, .i .i64 q18.R6, .i .i64 q18.R7, .b a1.Stopped], .box a2, .box [.i .i64 0, .i .i64 0, .i .i64 0, .i .i64 0, .i .i64 0, .i .i64 0, .i .i64 0, .i .i64 0, .i .i64 0, .b false], .box u3] (put_blk (pu33 hq18 [.i .i64 (wI (a1.PC + 1))] [.b a1.Stopped])) ?_
            refine snil0 ?_
            refine block_normal ?_
            refine then_normal ?_
            exact ⟨(q18.R0, q18.R1, q18.R2, q18.R3, q18.R4, q18.R5, q18.R6, q18.R7), _, h, ⟨rfl, rfl, trivial⟩, rfl⟩
          · replace h := ite_f hc h
            clear hc
            refine cskip ?_
            refine block_normal ?_
            refine then_normal ?_
            exact ⟨(a1.Regs.R0, a1.Regs.R1, a1.Regs.R2, a1.Regs.R3, a1.Regs.R4, a1.Regs.R5, a1.Regs.R6, a1.Regs.R7), _, h, ⟨rfl, rfl, trivial⟩, rfl⟩
    · skip
      refine cregion ?_
      refine sv rfl (opv_fieldAddr_lp fi35_0 rfl) ?_
      refine sv rfl (opv_load1 ti3 rfl (.lp _ _ _ rfl) rfl) ?_
      refine sv rfl (opv_fieldAddr_lp fi31_1 rfl) ?_
      refine sv rfl (opv_load1 ti29 rfl (.lp _ _ _ rfl) rfl) ?_
      refine sv rfl (opv_len_sl si29 rfl) ?_
      refine sv rfl (opv_sub rfl rfl) ?_
      obtain ⟨v19, hv19, h⟩ := bind_eq h
      refine scall1 rfl fn37 (opnds_cons rfl (opnds_cons rfl opnds_nil)) (pubA_id rfl) (m37_prog_within_c hv19) ?_
      refine sv rfl (opv_not rfl) ?_
      refine sv rfl (opv_mv rfl) ?_
      refine ssplit 21 rfl (fun hc => ?_) (fun hc => ?_)
      · replace h := ite_t hc h
        clear hc
        refine soff rfl rfl rfl rfl ?_
        refine soff rfl rfl rfl rfl ?_
        refine sv rfl (opv_pick_t rfl rfl) ?_
        refine sv rfl (opv_mv rfl) ?_
        refine soff rfl rfl rfl rfl ?_
        refine soff rfl rfl rfl rfl ?_
        refine soff rfl rfl rfl rfl ?_
        refine soff rfl rfl rfl rfl ?_
        refine soff rfl rfl rfl rfl ?_
        refine soff rfl rfl rfl rfl ?_
        refine soff rfl rfl rfl rfl ?_
        refine soff rfl rfl rfl rfl ?_
        refine sv rfl (opv_pick_t rfl rfl) ?_
        refine snil ?_
        refine ccond rfl (fun _ => ?_) (fun hx => Bool.noConfusion hx)
        refine cseq ?_
        refine cregion ?_
        refine sv rfl (opv_build zi35 pi35 parts_nil (.nil _)) ?_
        refine sstore sz35 rfl rfl rfl rfl (Nat.le_of_ble_eq_true rfl) ?_
        refine smem [.box a0, .box a1, .box a2, .box [.i .i64 0, .i .i64 0, .i .i64 0, .i .i64 0, .i .i64 0, .i .i64 0, .i .i64 0, .i .i64 0, .i .i64 0, .b false]] rfl ?_
        refine sv rfl (opv_as rfl) ?_
        refine snil ?_
        refine cret ?_
        refine then_ret ?_
        obtain rfl := Option.some.inj h
        refine ⟨Or.inr rfl, _, _, _, (resVs_cons (ResV.agg _ _ _ _ _ ti35 rfl (.lp _ _ _ rfl) (Nat.le_of_ble_eq_true rfl)) (resVs_cons (ResV.tmp _ _ rfl) resVs_nil)), (pubA_id rfl), ?_⟩
        rfl
      · replace h := ite_f hc h
        clear hc
        refine son rfl rfl rfl ?_
        refine sv rfl (opv_fieldAddr_lp fi35_2 rfl) ?_
        refine son rfl rfl rfl ?_
        refine sv rfl (opv_load1 ti4 rfl (.lp _ _ _ rfl) rfl) ?_
        refine sv rfl (opv_pick_f rfl rfl) ?_
        refine sv rfl (opv_mv rfl) ?_
        refine ssplit 25 rfl (fun hc => ?_) (fun hc => ?_)
        · replace h := ite_t hc h
          clear hc
          refine soff rfl rfl rfl rfl ?_
          refine soff rfl rfl rfl rfl ?_
          refine soff rfl rfl rfl rfl ?_
          refine soff rfl rfl rfl rfl ?_
          refine soff rfl rfl rfl rfl ?_
          refine soff rfl rfl rfl rfl ?_
          refine soff rfl rfl rfl rfl ?_
          refine soff rfl rfl rfl rfl ?_
          refine sv rfl (opv_pick_t rfl rfl) ?_
          refine snil ?_
          refine ccond rfl (fun _ => ?_) (fun hx => Bool.noConfusion hx)
          refine cseq ?_
          refine cregion ?_
          refine sv rfl (opv_build zi35 pi35 parts_nil (.nil _)) ?_
          refine sstore sz35 rfl rfl rfl rfl (Nat.le_of_ble_eq_true rfl) ?_
          refine smem [.box a0, .box a1, .box a2, .box [.i .i64 0, .i .i64 0, .i .i64 0, .i .i64 0, .i .i64 0, .i .i64 0, .i .i64 0, .i .i64 0, .i .i64 0, .b false]] rfl ?_
          refine sv rfl (opv_as rfl) ?_
          refine snil ?_
          refine cret ?_
          refine then_ret ?_
          obtain rfl := Option.some.inj h
          refine ⟨Or.inr rfl, _, _, _, (resVs_cons (ResV.agg _ _ _ _ _ ti35 rfl (.lp _ _ _ rfl) (Nat.le_of_ble_eq_true rfl)) (resVs_cons (ResV.tmp _ _ rfl) resVs_nil)), (pubA_id rfl), ?_⟩
          rfl
        · replace h := ite_f hc h
          clear hc
          refine son rfl rfl rfl ?_
          refine sv rfl (opv_fieldAddr_lp fi31_1 rfl) ?_
          refine son rfl rfl rfl ?_
          refine sv rfl (opv_load1 ti29 rfl (.lp _ _ _ rfl) rfl) ?_
          refine son rfl rfl rfl ?_
          refine sv rfl (opv_fieldAddr_lp fi35_0 rfl) ?_
          refine son rfl rfl rfl ?_
          refine sv rfl (opv_load1 ti3 rfl (.lp _ _ _ rfl) rfl) ?_
          refine son rfl rfl rfl ?_
          obtain ⟨u20, hu20, h⟩ := bind_eq h
          refine sv rfl (opv_ix (f := eGProgOp) si29 (fun _ => rfl) rfl rfl rfl rfl hu20) ?_
          refine son rfl rfl rfl ?_
          refine sv rfl (opv_loadNe (ys := [.i .i64 u20.What, .i .i64 u20.A, .i .i64 u20.B, .i .i64 u20.N, .sl u20.Key.length (u20.Key.flatMap eU8), .sl u20.Rng.Lo.length (u20.Rng.Lo.flatMap eU8), .sl u20.Rng.Hi.length (u20.Rng.Hi.flatMap eU8), .b u20.Rng.Open]) ti71 rfl (.cp _) rfl rfl) ?_
          refine son rfl rfl rfl ?_
          obtain ⟨v21, hv21, h⟩ := bind_eq h
          refine scall1 rfl fn32 (opnds_cons rfl opnds_nil) (pubA_id rfl) (m32_prog_asks_c hv21) ?_
          refine son rfl rfl rfl ?_
          refine sv rfl (opv_not rfl) ?_
          refine sv rfl (opv_pick_f rfl rfl) ?_
          refine snil ?_
          refine ccond rfl (fun hc => ?_) (fun hc => ?_)
          · replace h := ite_t hc h
            clear hc
            refine cseq ?_
            refine cregion ?_
            refine sv rfl (opv_build zi35 pi35 parts_nil (.nil _)) ?_
            refine sstore sz35 rfl rfl rfl rfl (Nat.le_of_ble_eq_true rfl) ?_
            refine smem [.box a0, .box a1, .box a2, .box [.i .i64 0, .i .i64 0, .i .i64 0, .i .i64 0, .i .i64 0, .i .i64 0, .i .i64 0, .i .i64 0, .i .i64 0, .b false]] rfl ?_
            refine sv rfl (opv_as rfl) ?_
            refine snil ?_
            refine cret ?_
            refine then_ret ?_
            obtain rfl := Option.some.inj h
            refine ⟨Or.inr rfl, _, _, _, (resVs_cons (ResV.agg _ _ _ _ _ ti35 rfl (.lp _ _ _ rfl) (Nat.le_of_ble_eq_true rfl)) (resVs_cons (ResV.tmp _ _ rfl) resVs_nil)), (pubA_id rfl), ?_⟩
            rfl
          · replace h := ite_f hc h
            clear hc
            refine cskip ?_
            refine then_normal ?_
            exact ⟨(), _, h, ⟨rfl, rfl, rfl, rfl, trivial⟩, rfl⟩

def m14_prog_Run_s2 (a0 : GProgProg) (s2 : (List GApiKV) × (List GApiWrite) × Int × Int × Int × Int × Int × Int × Int × Int × Int × Bool) : Option (LR ((List GApiKV) × (List GApiWrite) × Int × Int × Int × Int × Int × Int × Int × Int × Int × Bool) (Unit) ((List GApiKV) × GProgState)) :=
  (m18_prog_Next (GProgProg.mk a0.RO a0.Ops) (GProgState.mk s2.2.2.1 (GAnon33.mk s2.2.2.2.1 s2.2.2.2.2.1 s2.2.2.2.2.2.1 s2.2.2.2.2.2.2.1 s2.2.2.2.2.2.2.2.1 s2.2.2.2.2.2.2.2.2.1 s2.2.2.2.2.2.2.2.2.2.1 s2.2.2.2.2.2.2.2.2.2.2.1) s2.2.2.2.2.2.2.2.2.2.2.2)).bind fun v3 => if (!v3.2.2) then ((m29_prog_alone_all (GProgAlone.mk s2.1 (GBufferBuf.mk s2.2.1))).bind fun v4 => some (.ret (v4, (GProgState.mk v3.2.1.PC (GAnon33.mk v3.2.1.Regs.R0 v3.2.1.Regs.R1 v3.2.1.Regs.R2 v3.2.1.Regs.R3 v3.2.1.Regs.R4 v3.2.1.Regs.R5 v3.2.1.Regs.R6 v3.2.1.Regs.R7) v3.2.1.Stopped)))) else ((m30_prog_alone_answer (GProgAlone.mk s2.1 (GBufferBuf.mk s2.2.1)) (GMsgReq.mk v3.1.Kind v3.1.Seq v3.1.Token v3.1.Attempt v3.1.RO v3.1.Key v3.1.Val (GApiRange.mk v3.1.Rng.Lo v3.1.Rng.Hi v3.1.Rng.Open))).bind fun v5 => if (!decide (v5.2.2 = 0)) then ((m29_prog_alone_all (GProgAlone.mk s2.1 (GBufferBuf.mk s2.2.1))).bind fun v6 => some (.ret (v6, (GProgState.mk v3.2.1.PC (GAnon33.mk v3.2.1.Regs.R0 v3.2.1.Regs.R1 v3.2.1.Regs.R2 v3.2.1.Regs.R3 v3.2.1.Regs.R4 v3.2.1.Regs.R5 v3.2.1.Regs.R6 v3.2.1.Regs.R7) v3.2.1.Stopped)))) else ((m20_prog_Take (GProgProg.mk a0.RO a0.Ops) (GProgState.mk v3.2.1.PC (GAnon33.mk v3.2.1.Regs.R0 v3.2.1.Regs.R1 v3.2.1.Regs.R2 v3.2.1.Regs.R3 v3.2.1.Regs.R4 v3.2.1.Regs.R5 v3.2.1.Regs.R6 v3.2.1.Regs.R7) v3.2.1.Stopped) v5.2.1).bind fun v7 => if (!decide (v7.2 = 0)) then ((m29_prog_alone_all (GProgAlone.mk v5.1.base_ (GBufferBuf.mk v5.1.buf_.L))).bind fun v8 => some (.ret (v8, (GProgState.mk v3.2.1.PC (GAnon33.mk v3.2.1.Regs.R0 v3.2.1.Regs.R1 v3.2.1.Regs.R2 v3.2.1.Regs.R3 v3.2.1.Regs.R4 v3.2.1.Regs.R5 v3.2.1.Regs.R6 v3.2.1.Regs.R7) v3.2.1.Stopped)))) else (some (.cont (v5.1.base_, v5.1.buf_.L, v7.1.PC, v7.1.Regs.R0, v7.1.Regs.R1, v7.1.Regs.R2, v7.1.Regs.R3, v7.1.Regs.R4, v7.1.Regs.R5, v7.1.Regs.R6, v7.1.Regs.R7, v7.1.Stopped)))))

def m14_prog_Run_k1 (a0 : GProgProg) (a1 : List GApiKV) (b1 : Unit) : Option ((List GApiKV) × GProgState) :=
  (iter (m14_prog_Run_s2 a0) fuel (a1, ([] : List GApiWrite), 0, 0, 0, 0, 0, 0, 0, 0, 0, false)).bind fun x => match x with | .inl r => some r | .inr _ => none
def m14_prog_Run (a0 : GProgProg) (a1 : List GApiKV) : Option ((List GApiKV) × GProgState) :=
  (m15_prog_Sane (GProgProg.mk a0.RO a0.Ops)).bind fun v9 => if (!v9) then (some (a1, (GProgState.mk 0 (GAnon33.mk 0 0 0 0 0 0 0 0) false))) else ((m28_prog_rises a1).bind fun v10 => if (!v10) then (some (a1, (GProgState.mk 0 (GAnon33.mk 0 0 0 0 0 0 0 0) false))) else (m14_prog_Run_k1 a0 a1 ()))

set_option maxRecDepth 100000 in
theorem m14_prog_Run_c {a0 : GProgProg} {a1 : List GApiKV} {r : (List GApiKV) × GProgState} (h : m14_prog_Run a0 a1 = some r) : CallsA Try.prog 14 [.agg a0, .one (.sl a1.length (a1.flatMap eGApiKV))] (· = .tup [.one (.sl r.1.length (r.1.flatMap eGApiKV)), .agg r.2]) := by
  unfold m14_prog_Run at h
  refine callsA_of Try.func14 rfl (nt := 64) rfl (Nat.le_of_ble_eq_true rfl) ?_
  intro w0 S0
  refine cseq ?_
  refine cregion ?_
  refine sbox rfl rfl ?_
  refine sv rfl (opv_as rfl) ?_
  refine salloc rfl zi35 ?_
  refine snil ?_
  refine cseq ?_
  refine cseq ?_
  refine cjoin3 (Unit) (fun b1 => [(1, .s (.one (.sl a1.length (a1.flatMap eGApiKV)))), (2, .s (.one (.lp 0 0))), (5, .s (.one (.lp 1 0)))]) (fun b1 => [.box a0, .box [.i .i64 0, .i .i64 0, .i .i64 0, .i .i64 0, .i .i64 0, .i .i64 0, .i .i64 0, .i .i64 0, .i .i64 0, .b false]]) (fun b1 => m14_prog_Run_k1 a0 a1 b1 = some r) (fun _ _ => inbL_of rfl) (fun _ _ => blkinb_of rfl) (fun _ _ => Nat.le_of_ble_eq_true rfl) (fun b1 h => ?_) ?_
  · unfold m14_prog_Run_k1 at h
    refine cseq ?_
    refine cregion ?_
    refine sv rfl (opv_mv rfl) ?_
    refine sv rfl (opv_build zi78 pi78 (parts_cons rfl parts_nil) (.cons _ _ _ _ _ _ _ rfl rfl (Nat.le_of_ble_eq_true rfl) (.nil _))) ?_
    refine sv rfl (opv_build zi35 pi35 parts_nil (.nil _)) ?_
    refine salloc rfl zi78 ?_
    refine salloc rfl zi35 ?_
    refine sstore sz78 rfl rfl rfl rfl (Nat.le_of_ble_eq_true rfl) ?_
    refine smem [.box a0, .box [.i .i64 0, .i .i64 0, .i .i64 0, .i .i64 0, .i .i64 0, .i .i64 0, .i .i64 0, .i .i64 0, .i .i64 0, .b false], .box [.sl a1.length (a1.flatMap eGApiKV), .raw (.slice none 0 0)], .box [.i .i64 0, .i .i64 0, .i .i64 0, .i .i64 0, .i .i64 0, .i .i64 0, .i .i64 0, .i .i64 0, .i .i64 0, .b false]] rfl ?_
    refine sstore sz35 rfl rfl rfl rfl (Nat.le_of_ble_eq_true rfl) ?_
    refine smem [.box a0, .box [.i .i64 0, .i .i64 0, .i .i64 0, .i .i64 0, .i .i64 0, .i .i64 0, .i .i64 0, .i .i64 0, .i .i64 0, .b false], .box [.sl a1.length (a1.flatMap eGApiKV), .raw (.slice none 0 0)], .box [.i .i64 0, .i .i64 0, .i .i64 0, .i .i64 0, .i .i64 0, .i .i64 0, .i .i64 0, .i .i64 0, .i .i64 0, .b false]] rfl ?_
    refine snil ?_
    refine cblock ?_
    refine cpubbox 2 1 rfl rfl PubL.nil rfl ?_
    obtain ⟨x2, hx2, ho2⟩ := bind_eq h
    refine awc_loop (G := Nat × ((List GApiKV) × (List GApiWrite) × Int × Int × Int × Int × Int × Int × Int × Int × Int × Bool)) (fun g => [(2, .s (.one (.lp 0 0))), (5, .s (.one (.lp 1 0))), (6, .s (.one (.lp 2 0))), (7, .s (.one (.lp 3 0)))]) (fun g => [.box a0, .box [.i .i64 0, .i .i64 0, .i .i64 0, .i .i64 0, .i .i64 0, .i .i64 0, .i .i64 0, .i .i64 0, .i .i64 0, .b false], .box [.sl g.2.1.length (g.2.1.flatMap eGApiKV), .sl g.2.2.1.length (g.2.2.1.flatMap eGApiWrite)], .box [.i .i64 g.2.2.2.1, .i .i64 g.2.2.2.2.1, .i .i64 g.2.2.2.2.2.1, .i .i64 g.2.2.2.2.2.2.1, .i .i64 g.2.2.2.2.2.2.2.1, .i .i64 g.2.2.2.2.2.2.2.2.1, .i .i64 g.2.2.2.2.2.2.2.2.2.1, .i .i64 g.2.2.2.2.2.2.2.2.2.2.1, .i .i64 g.2.2.2.2.2.2.2.2.2.2.2.1, .b g.2.2.2.2.2.2.2.2.2.2.2.2]]) (fun g => iter (m14_prog_Run_s2 a0) g.1 g.2 = some x2) (fun g => g.1) (fuel, (a1, ([] : List GApiWrite), 0, 0, 0, 0, 0, 0, 0, 0, 0, false)) hx2 ⟨rfl, rfl, rfl, rfl, trivial⟩ [] rfl (fun _ _ => inbL_of rfl) (fun _ _ => blkinb_of rfl) (fun _ _ => Nat.le_of_ble_eq_true rfl) ?_
    clear hx2 h
    rintro ⟨n2, s2⟩ h
    obtain ⟨n2, y2, rfl, h, hk2⟩ := iter_eq h
    unfold m14_prog_Run_s2 at h
    refine cblock ?_
    refine cseq ?_
    refine cregion ?_
    refine sv rfl (opv_loadN ti31 rfl (.lp _ _ _ rfl) (Nat.le_of_ble_eq_true rfl)) ?_
    refine sv rfl (opv_loadN ti35 rfl (.lp _ _ _ rfl) (Nat.le_of_ble_eq_true rfl)) ?_
    obtain ⟨v3, hv3, h⟩ := bind_eq h
    refine scall1 rfl fn18 (opnds_cons rfl (opnds_cons rfl opnds_nil)) (pubA_id rfl) (m18_prog_Next_c hv3) ?_
    refine sv rfl (opv_mvt rfl) ?_
    refine sv rfl (opv_extract rfl rfl) ?_
    refine sv rfl (opv_extract rfl rfl) ?_
    refine sv rfl (opv_extract rfl rfl) ?_
    refine salloc rfl zi46 ?_
    refine salloc rfl zi35 ?_
    refine sstore sz46 rfl rfl rfl rfl (Nat.le_of_ble_eq_true rfl) ?_
    refine smem [.box a0, .box [.i .i64 0, .i .i64 0, .i .i64 0, .i .i64 0, .i .i64 0, .i .i64 0, .i .i64 0, .i .i64 0, .i .i64 0, .b false], .box [.sl s2.1.length (s2.1.flatMap eGApiKV), .sl s2.2.1.length (s2.2.1.flatMap eGApiWrite)], .box [.i .i64 s2.2.2.1, .i .i64 s2.2.2.2.1, .i .i64 s2.2.2.2.2.1, .i .i64 s2.2.2.2.2.2.1, .i .i64 s2.2.2.2.2.2.2.1, .i .i64 s2.2.2.2.2.2.2.2.1, .i .i64 s2.2.2.2.2.2.2.2.2.1, .i .i64 s2.2.2.2.2.2.2.2.2.2.1, .i .i64 s2.2.2.2.2.2.2.2.2.2.2.1, .b s2.2.2.2.2.2.2.2.2.2.2.2], .box v3.1, .box [.i .i64 0, .i .i64 0, .i .i64 0, .i .i64 0, .i .i64 0, .i .i64 0, .i .i64 0, .i .i64 0, .i .i64 0, .b false]] rfl ?_
    refine sstore sz35 rfl rfl rfl rfl (Nat.le_of_ble_eq_true rfl) ?_
    refine smem [.box a0, .box [.i .i64 0, .i .i64 0, .i .i64 0, .i .i64 0, .i .i64 0, .i .i64 0, .i .i64 0, .i .i64 0, .i .i64 0, .b false], .box [.sl s2.1.length (s2.1.flatMap eGApiKV), .sl s2.2.1.length (s2.2.1.flatMap eGApiWrite)], .box [.i .i64 s2.2.2.1, .i .i64 s2.2.2.2.1, .i .i64 s2.2.2.2.2.1, .i .i64 s2.2.2.2.2.2.1, .i .i64 s2.2.2.2.2.2.2.1, .i .i64 s2.2.2.2.2.2.2.2.1, .i .i64 s2.2.2.2.2.2.2.2.2.1, .i .i64 s2.2.2.2.2.2.2.2.2.2.1, .i .i64 s2.2.2.2.2.2.2.2.2.2.2.1, .b s2.2.2.2.2.2.2.2.2.2.2.2], .box v3.1, .box v3.2.1] rfl ?_
    refine sv rfl (opv_as rfl) ?_
    refine snil ?_
    refine cseq ?_
    refine cseq ?_
    refine cregion ?_
    refine sv rfl (opv_mv rfl) ?_
    refine sv rfl (opv_not rfl) ?_
    refine snil ?_
    refine ccond rfl (fun hc => ?_) (fun hc => ?_)
    · replace h := ite_t hc h
      clear hc
      refine cseq ?_
      obtain ⟨v4, hv4, h⟩ := bind_eq h
      refine cdraw_e [4] [0, 1, 0, 3, 15] [[.box a0, .box [.i .i64 0, .i .i64 0, .i .i64 0, .i .i64 0, .i .i64 0, .i .i64 0, .i .i64 0, .i .i64 0, .i .i64 0, .b false], .box [.sl s2.1.length (s2.1.flatMap eGApiKV), .sl s2.2.1.length (s2.2.1.flatMap eGApiWrite)], .box [.i .i64 s2.2.2.1, .i .i64 s2.2.2.2.1, .i .i64 s2.2.2.2.2.1, .i .i64 s2.2.2.2.2.2.1, .i .i64 s2.2.2.2.2.2.2.1, .i .i64 s2.2.2.2.2.2.2.2.1, .i .i64 s2.2.2.2.2.2.2.2.2.1, .i .i64 s2.2.2.2.2.2.2.2.2.2.1, .i .i64 s2.2.2.2.2.2.2.2.2.2.2.1, .b s2.2.2.2.2.2.2.2.2.2.2.2], .box v3.1, .box v3.2.1], [.box a0, .box v3.2.1, .box [.sl s2.1.length (s2.1.flatMap eGApiKV), .sl s2.2.1.length (s2.2.1.flatMap eGApiWrite)], .box [.i .i64 s2.2.2.1, .i .i64 s2.2.2.2.1, .i .i64 s2.2.2.2.2.1, .i .i64 s2.2.2.2.2.2.1, .i .i64 s2.2.2.2.2.2.2.1, .i .i64 s2.2.2.2.2.2.2.2.1, .i .i64 s2.2.2.2.2.2.2.2.2.1, .i .i64 s2.2.2.2.2.2.2.2.2.2.1, .i .i64 s2.2.2.2.2.2.2.2.2.2.2.1, .b s2.2.2.2.2.2.2.2.2.2.2.2], .box v3.1, .box v3.2.1]] (by kernel_rfl) mixed (by kernel_rfl) (by decide) rfl rfl rfl rfl ?_
      refine ev (sees_at 0 rfl rfl) rfl rfl (opv_loadN ti78 rfl (.lp _ _ _ rfl) (Nat.le_of_ble_eq_true rfl)) ?_
      refine ed (sees_at 0 rfl rfl) rfl rfl (opD_call fn29 (opnds_cons rfl opnds_nil) rfl (m29_prog_alone_all_c hv4)) ?_
      refine ev (sees_at 0 rfl rfl) rfl rfl (opv_loadN ti35 rfl (.lp _ _ _ rfl) (Nat.le_of_ble_eq_true rfl)) ?_
      refine ev (sees_at 0 rfl rfl) rfl rfl (opv_as rfl) ?_
      refine ee0 0 rfl rfl rfl rfl (fun ζ => ?_) ?_
      · refine sstore sz35 rfl rfl rfl rfl (Nat.le_of_ble_eq_true rfl) ?_
        refine smem [.box a0, .box v3.2.1, .box [.sl s2.1.length (s2.1.flatMap eGApiKV), .sl s2.2.1.length (s2.2.1.flatMap eGApiWrite)], .box [.i .i64 s2.2.2.1, .i .i64 s2.2.2.2.1, .i .i64 s2.2.2.2.2.1, .i .i64 s2.2.2.2.2.2.1, .i .i64 s2.2.2.2.2.2.2.1, .i .i64 s2.2.2.2.2.2.2.2.1, .i .i64 s2.2.2.2.2.2.2.2.2.1, .i .i64 s2.2.2.2.2.2.2.2.2.2.1, .i .i64 s2.2.2.2.2.2.2.2.2.2.2.1, .b s2.2.2.2.2.2.2.2.2.2.2.2], .box v3.1, .box v3.2.1] rfl ?_
        exact eend
      refine enil ?_
      refine then_normal ?_
      refine cret ?_
      refine then_ret ?_
      refine block_ret ?_
      refine then_ret ?_
      refine block_ret ?_
      obtain rfl := Option.some.inj h
      obtain rfl : Sum.inl _ = x2 := hk2
      replace ho2 : some _ = some _ := ho2
      obtain rfl := Option.some.inj ho2
      refine ⟨Or.inr rfl, _, _, _, (resVs_cons (ResV.tmp _ _ rfl) (resVs_cons (ResV.agg _ _ _ _ _ ti35 rfl (.lp _ _ _ rfl) (Nat.le_of_ble_eq_true rfl)) resVs_nil)), (pubA_id rfl), ?_⟩
      rfl
    · replace h := ite_f hc h
      clear hc
      refine cskip ?_
      refine then_normal ?_
      refine cseq ?_
      refine cregion ?_
      refine sv rfl (opv_loadN ti78 rfl (.lp _ _ _ rfl) (Nat.le_of_ble_eq_true rfl)) ?_
      refine sv rfl (opv_loadN ti46 rfl (.lp _ _ _ rfl) (Nat.le_of_ble_eq_true rfl)) ?_
      obtain ⟨v5, hv5, h⟩ := bind_eq h
      refine scall1 rfl fn30 (opnds_cons rfl (opnds_cons rfl opnds_nil)) (pubA_id rfl) (m30_prog_alone_answer_c hv5) ?_
      refine sv rfl (opv_mvt rfl) ?_
      refine sv rfl (opv_extract rfl rfl) ?_
      refine sv rfl (opv_extract rfl rfl) ?_
      refine sv rfl (opv_extract rfl rfl) ?_
      refine salloc rfl zi78 ?_
      refine salloc rfl zi51 ?_
      refine sstore sz78 rfl rfl rfl rfl (Nat.le_of_ble_eq_true rfl) ?_
      refine smem [.box a0, .box [.i .i64 0, .i .i64 0, .i .i64 0, .i .i64 0, .i .i64 0, .i .i64 0, .i .i64 0, .i .i64 0, .i .i64 0, .b false], .box [.sl s2.1.length (s2.1.flatMap eGApiKV), .sl s2.2.1.length (s2.2.1.flatMap eGApiWrite)], .box [.i .i64 s2.2.2.1, .i .i64 s2.2.2.2.1, .i .i64 s2.2.2.2.2.1, .i .i64 s2.2.2.2.2.2.1, .i .i64 s2.2.2.2.2.2.2.1, .i .i64 s2.2.2.2.2.2.2.2.1, .i .i64 s2.2.2.2.2.2.2.2.2.1, .i .i64 s2.2.2.2.2.2.2.2.2.2.1, .i .i64 s2.2.2.2.2.2.2.2.2.2.2.1, .b s2.2.2.2.2.2.2.2.2.2.2.2], .box v3.1, .box v3.2.1, .box v5.1, .box [.i .i64 0, .i .i64 0, .i .i64 0, .i .i64 0, .b false, .raw (.slice none 0 0), .raw (.slice none 0 0)]] rfl ?_
      refine sstore sz51 rfl rfl rfl rfl (Nat.le_of_ble_eq_true rfl) ?_
      refine smem [.box a0, .box [.i .i64 0, .i .i64 0, .i .i64 0, .i .i64 0, .i .i64 0, .i .i64 0, .i .i64 0, .i .i64 0, .i .i64 0, .b false], .box [.sl s2.1.length (s2.1.flatMap eGApiKV), .sl s2.2.1.length (s2.2.1.flatMap eGApiWrite)], .box [.i .i64 s2.2.2.1, .i .i64 s2.2.2.2.1, .i .i64 s2.2.2.2.2.1, .i .i64 s2.2.2.2.2.2.1, .i .i64 s2.2.2.2.2.2.2.1, .i .i64 s2.2.2.2.2.2.2.2.1, .i .i64 s2.2.2.2.2.2.2.2.2.1, .i .i64 s2.2.2.2.2.2.2.2.2.2.1, .i .i64 s2.2.2.2.2.2.2.2.2.2.2.1, .b s2.2.2.2.2.2.2.2.2.2.2.2], .box v3.1, .box v3.2.1, .box v5.1, .box v5.2.1] rfl ?_
      refine sv rfl (opv_as rfl) ?_
      refine snil ?_
      refine cseq ?_
      refine cseq ?_
      refine cregion ?_
      refine sv rfl (opv_mv rfl) ?_
      refine sv rfl (opv_ineq rfl rfl) ?_
      refine snil ?_
      refine ccond rfl (fun hc => ?_) (fun hc => ?_)
      · replace h := ite_t hc h
        clear hc
        refine cseq ?_
        obtain ⟨v6, hv6, h⟩ := bind_eq h
        refine cdraw_e [4] [0, 1, 0, 3, 15] [[.box a0, .box [.i .i64 0, .i .i64 0, .i .i64 0, .i .i64 0, .i .i64 0, .i .i64 0, .i .i64 0, .i .i64 0, .i .i64 0, .b false], .box [.sl s2.1.length (s2.1.flatMap eGApiKV), .sl s2.2.1.length (s2.2.1.flatMap eGApiWrite)], .box [.i .i64 s2.2.2.1, .i .i64 s2.2.2.2.1, .i .i64 s2.2.2.2.2.1, .i .i64 s2.2.2.2.2.2.1, .i .i64 s2.2.2.2.2.2.2.1, .i .i64 s2.2.2.2.2.2.2.2.1, .i .i64 s2.2.2.2.2.2.2.2.2.1, .i .i64 s2.2.2.2.2.2.2.2.2.2.1, .i .i64 s2.2.2.2.2.2.2.2.2.2.2.1, .b s2.2.2.2.2.2.2.2.2.2.2.2], .box v3.1, .box v3.2.1, .box v5.1, .box v5.2.1], [.box a0, .box v3.2.1, .box [.sl s2.1.length (s2.1.flatMap eGApiKV), .sl s2.2.1.length (s2.2.1.flatMap eGApiWrite)], .box [.i .i64 s2.2.2.1, .i .i64 s2.2.2.2.1, .i .i64 s2.2.2.2.2.1, .i .i64 s2.2.2.2.2.2.1, .i .i64 s2.2.2.2.2.2.2.1, .i .i64 s2.2.2.2.2.2.2.2.1, .i .i64 s2.2.2.2.2.2.2.2.2.1, .i .i64 s2.2.2.2.2.2.2.2.2.2.1, .i .i64 s2.2.2.2.2.2.2.2.2.2.2.1, .b s2.2.2.2.2.2.2.2.2.2.2.2], .box v3.1, .box v3.2.1, .box v5.1, .box v5.2.1]] (by kernel_rfl) mixed (by kernel_rfl) (by decide) rfl rfl rfl rfl ?_
        refine ev (sees_at 0 rfl rfl) rfl rfl (opv_loadN ti78 rfl (.lp _ _ _ rfl) (Nat.le_of_ble_eq_true rfl)) ?_
        refine ed (sees_at 0 rfl rfl) rfl rfl (opD_call fn29 (opnds_cons rfl opnds_nil) rfl (m29_prog_alone_all_c hv6)) ?_
        refine ev (sees_at 0 rfl rfl) rfl rfl (opv_loadN ti35 rfl (.lp _ _ _ rfl) (Nat.le_of_ble_eq_true rfl)) ?_
        refine ev (sees_at 0 rfl rfl) rfl rfl (opv_as rfl) ?_
        refine ee0 0 rfl rfl rfl rfl (fun ζ => ?_) ?_
        · refine sstore sz35 rfl rfl rfl rfl (Nat.le_of_ble_eq_true rfl) ?_
          refine smem [.box a0, .box v3.2.1, .box [.sl s2.1.length (s2.1.flatMap eGApiKV), .sl s2.2.1.length (s2.2.1.flatMap eGApiWrite)], .box [.i .i64 s2.2.2.1, .i .i64 s2.2.2.2.1, .i .i64 s2.2.2.2.2.1, .i .i64 s2.2.2.2.2.2.1, .i .i64 s2.2.2.2.2.2.2.1, .i .i64 s2.2.2.2.2.2.2.2.1, .i .i64 s2.2.2.2.2.2.2.2.2.1, .i .i64 s2.2.2.2.2.2.2.2.2.2.1, .i .i64 s2.2.2.2.2.2.2.2.2.2.2.1, .b s2.2.2.2.2.2.2.2.2.2.2.2], .box v3.1, .box v3.2.1, .box v5.1, .box v5.2.1] rfl ?_
          exact eend
        refine enil ?_
        refine then_normal ?_
        refine cret ?_
        refine then_ret ?_
        refine block_ret ?_
        refine then_ret ?_
        refine block_ret ?_
        obtain rfl := Option.some.inj h
        obtain rfl : Sum.inl _ = x2 := hk2
        replace ho2 : some _ = some _ := ho2
        obtain rfl := Option.some.inj ho2
        refine ⟨Or.inr rfl, _, _, _, (resVs_cons (ResV.tmp _ _ rfl) (resVs_cons (ResV.agg _ _ _ _ _ ti35 rfl (.lp _ _ _ rfl) (Nat.le_of_ble_eq_true rfl)) resVs_nil)), (pubA_id rfl), ?_⟩
        rfl
      · replace h := ite_f hc h
        clear hc
        refine cskip ?_
        refine then_normal ?_
        refine cseq ?_
        refine cregion ?_
        refine sv rfl (opv_loadN ti78 rfl (.lp _ _ _ rfl) (Nat.le_of_ble_eq_true rfl)) ?_
        refine sstore sz78 rfl rfl rfl rfl (Nat.le_of_ble_eq_true rfl) ?_
        refine smem [.box a0, .box [.i .i64 0, .i .i64 0, .i .i64 0, .i .i64 0, .i .i64 0, .i .i64 0, .i .i64 0, .i .i64 0, .i .i64 0, .b false], .box v5.1, .box [.i .i64 s2.2.2.1, .i .i64 s2.2.2.2.1, .i .i64 s2.2.2.2.2.1, .i .i64 s2.2.2.2.2.2.1, .i .i64 s2.2.2.2.2.2.2.1, .i .i64 s2.2.2.2.2.2.2.2.1, .i .i64 s2.2.2.2.2.2.2.2.2.1, .i .i64 s2.2.2.2.2.2.2.2.2.2.1, .i .i64 s2.2.2.2.2.2.2.2.2.2.2.1, .b s2.2.2.2.2.2.2.2.2.2.2.2], .box v3.1, .box v3.2.1, .box v5.1, .box v5.2.1] rfl ?_
        refine snil ?_
        refine cseq ?_
        refine cregion ?_
        refine sv rfl (opv_loadN ti31 rfl (.lp _ _ _ rfl) (Nat.le_of_ble_eq_true rfl)) ?_
        refine sv rfl (opv_loadN ti35 rfl (.lp _ _ _ rfl) (Nat.le_of_ble_eq_true rfl)) ?_
        refine sv rfl (opv_loadN ti51 rfl (.lp _ _ _ rfl) (Nat.le_of_ble_eq_true rfl)) ?_
        obtain ⟨v7, hv7, h⟩ := bind_eq h
        refine scall1 rfl fn20 (opnds_cons rfl (opnds_cons rfl (opnds_cons rfl opnds_nil))) (pubA_id rfl) (m20_prog_Take_c hv7) ?_
        refine sv rfl (opv_mvt rfl) ?_
        refine sv rfl (opv_extract rfl rfl) ?_
        refine sv rfl (opv_extract rfl rfl) ?_
        refine sstore sz35 rfl rfl rfl rfl (Nat.le_of_ble_eq_true rfl) ?_
        refine smem [.box a0, .box [.i .i64 0, .i .i64 0, .i .i64 0, .i .i64 0, .i .i64 0, .i .i64 0, .i .i64 0, .i .i64 0, .i .i64 0, .b false], .box v5.1, .box v7.1, .box v3.1, .box v3.2.1, .box v5.1, .box v5.2.1] rfl ?_
        refine sv rfl (opv_as rfl) ?_
        refine snil ?_
        refine cseq ?_
        refine cregion ?_
        refine sv rfl (opv_mv rfl) ?_
        refine sv rfl (opv_ineq rfl rfl) ?_
        refine snil ?_
        refine ccond rfl (fun hc => ?_) (fun hc => ?_)
        · replace h := ite_t hc h
          clear hc
          refine cseq ?_
          obtain ⟨v8, hv8, h⟩ := bind_eq h
          refine cdraw_e [4] [0, 1, 0, 3, 15] [[.box a0, .box [.i .i64 0, .i .i64 0, .i .i64 0, .i .i64 0, .i .i64 0, .i .i64 0, .i .i64 0, .i .i64 0, .i .i64 0, .b false], .box v5.1, .box v7.1, .box v3.1, .box v3.2.1, .box v5.1, .box v5.2.1], [.box a0, .box v3.2.1, .box v5.1, .box v7.1, .box v3.1, .box v3.2.1, .box v5.1, .box v5.2.1]] (by kernel_rfl) mixed (by kernel_rfl) (by decide) rfl rfl rfl rfl ?_
          refine ev (sees_at 0 rfl rfl) rfl rfl (opv_loadN ti78 rfl (.lp _ _ _ rfl) (Nat.le_of_ble_eq_true rfl)) ?_
          refine ed (sees_at 0 rfl rfl) rfl rfl (opD_call fn29 (opnds_cons rfl opnds_nil) rfl (m29_prog_alone_all_c hv8)) ?_
          refine ev (sees_at 0 rfl rfl) rfl rfl (opv_loadN ti35 rfl (.lp _ _ _ rfl) (Nat.le_of_ble_eq_true rfl)) ?_
          refine ev (sees_at 0 rfl rfl) rfl rfl (opv_as rfl) ?_
          refine ee0 0 rfl rfl rfl rfl (fun ζ => ?_) ?_
          · refine sstore sz35 rfl rfl rfl rfl (Nat.le_of_ble_eq_true rfl) ?_
            refine smem [.box a0, .box v3.2.1, .box v5.1, .box v7.1, .box v3.1, .box v3.2.1, .box v5.1, .box v5.2.1] rfl ?_
            exact eend
          refine enil ?_
          refine then_normal ?_
          refine cret ?_
          refine block_ret ?_
          refine then_ret ?_
          refine block_ret ?_
          obtain rfl := Option.some.inj h
          obtain rfl : Sum.inl _ = x2 := hk2
          replace ho2 : some _ = some _ := ho2
          obtain rfl := Option.some.inj ho2
          refine ⟨Or.inr rfl, _, _, _, (resVs_cons (ResV.tmp _ _ rfl) (resVs_cons (ResV.agg _ _ _ _ _ ti35 rfl (.lp _ _ _ rfl) (Nat.le_of_ble_eq_true rfl)) resVs_nil)), (pubA_id rfl), ?_⟩
          rfl
        · replace h := ite_f hc h
          clear hc
          refine cskip ?_
          refine block_normal ?_
          refine then_normal ?_
          obtain rfl := Option.some.inj h
          exact ⟨(n2, (v5.1.base_, v5.1.buf_.L, v7.1.PC, v7.1.Regs.R0, v7.1.Regs.R1, v7.1.Regs.R2, v7.1.Regs.R3, v7.1.Regs.R4, v7.1.Regs.R5, v7.1.Regs.R6, v7.1.Regs.R7, v7.1.Stopped)), _, hk2, ⟨rfl, rfl, rfl, rfl, trivial⟩, rfl, Nat.lt_succ_self _⟩
  · skip
    refine cregion ?_
    refine sv rfl (opv_loadN ti31 rfl (.lp _ _ _ rfl) (Nat.le_of_ble_eq_true rfl)) ?_
    obtain ⟨v9, hv9, h⟩ := bind_eq h
    refine scall1 rfl fn15 (opnds_cons rfl opnds_nil) (pubA_id rfl) (m15_prog_Sane_c hv9) ?_
    refine sv rfl (opv_not rfl) ?_
    refine sv rfl (opv_mv rfl) ?_
    refine ssplit 17 rfl (fun hc => ?_) (fun hc => ?_)
    · replace h := ite_t hc h
      clear hc
      refine soff rfl rfl rfl rfl ?_
      refine soff rfl rfl rfl rfl ?_
      refine soff rfl rfl rfl rfl ?_
      refine sv rfl (opv_pick_t rfl rfl) ?_
      refine snil ?_
      refine ccond rfl (fun _ => ?_) (fun hx => Bool.noConfusion hx)
      refine cseq ?_
      refine cregion ?_
      refine sv rfl (opv_mv rfl) ?_
      refine sv rfl (opv_build zi35 pi35 parts_nil (.nil _)) ?_
      refine sv rfl (opv_as rfl) ?_
      refine sstore sz35 rfl rfl rfl rfl (Nat.le_of_ble_eq_true rfl) ?_
      refine smem [.box a0, .box [.i .i64 0, .i .i64 0, .i .i64 0, .i .i64 0, .i .i64 0, .i .i64 0, .i .i64 0, .i .i64 0, .i .i64 0, .b false]] rfl ?_
      refine snil ?_
      refine cret ?_
      refine then_ret ?_
      obtain rfl := Option.some.inj h
      refine ⟨Or.inr rfl, _, _, _, (resVs_cons (ResV.tmp _ _ rfl) (resVs_cons (ResV.agg _ _ _ _ _ ti35 rfl (.lp _ _ _ rfl) (Nat.le_of_ble_eq_true rfl)) resVs_nil)), (pubA_id rfl), ?_⟩
      rfl
    · replace h := ite_f hc h
      clear hc
      refine son rfl rfl rfl ?_
      refine sv rfl (opv_mv rfl) ?_
      refine son rfl rfl rfl ?_
      obtain ⟨v10, hv10, h⟩ := bind_eq h
      refine scall1 rfl fn28 (opnds_cons rfl opnds_nil) (pubA_id rfl) (m28_prog_rises_c hv10) ?_
      refine son rfl rfl rfl ?_
      refine sv rfl (opv_not rfl) ?_
      refine sv rfl (opv_pick_f rfl rfl) ?_
      refine snil ?_
      refine ccond rfl (fun hc => ?_) (fun hc => ?_)
      · replace h := ite_t hc h
        clear hc
        refine cseq ?_
        refine cregion ?_
        refine sv rfl (opv_mv rfl) ?_
        refine sv rfl (opv_build zi35 pi35 parts_nil (.nil _)) ?_
        refine sv rfl (opv_as rfl) ?_
        refine sstore sz35 rfl rfl rfl rfl (Nat.le_of_ble_eq_true rfl) ?_
        refine smem [.box a0, .box [.i .i64 0, .i .i64 0, .i .i64 0, .i .i64 0, .i .i64 0, .i .i64 0, .i .i64 0, .i .i64 0, .i .i64 0, .b false]] rfl ?_
        refine snil ?_
        refine cret ?_
        refine then_ret ?_
        obtain rfl := Option.some.inj h
        refine ⟨Or.inr rfl, _, _, _, (resVs_cons (ResV.tmp _ _ rfl) (resVs_cons (ResV.agg _ _ _ _ _ ti35 rfl (.lp _ _ _ rfl) (Nat.le_of_ble_eq_true rfl)) resVs_nil)), (pubA_id rfl), ?_⟩
        rfl
      · replace h := ite_f hc h
        clear hc
        refine cskip ?_
        refine then_normal ?_
        exact ⟨(), _, h, ⟨rfl, rfl, rfl, trivial⟩, rfl⟩

def m9_l19_awake  : Option Bool :=
  (m14_prog_Run (GProgProg.mk false [(GProgOp.mk 1 0 1 0 [(UInt8.ofBitVec (97#8))] (GApiRange.mk ([] : List UInt8) ([] : List UInt8) false)), (GProgOp.mk 6 0 2 1 ([] : List UInt8) (GApiRange.mk ([] : List UInt8) ([] : List UInt8) false)), (GProgOp.mk 2 0 0 0 [(UInt8.ofBitVec (97#8))] (GApiRange.mk ([] : List UInt8) ([] : List UInt8) false))]) ([] : List GApiKV)).bind fun v1 => (m14_prog_Run (GProgProg.mk false [(GProgOp.mk 1 0 1 0 [(UInt8.ofBitVec (97#8))] (GApiRange.mk ([] : List UInt8) ([] : List UInt8) false)), (GProgOp.mk 6 0 2 1 ([] : List UInt8) (GApiRange.mk ([] : List UInt8) ([] : List UInt8) false)), (GProgOp.mk 2 0 0 0 [(UInt8.ofBitVec (97#8))] (GApiRange.mk ([] : List UInt8) ([] : List UInt8) false))]) v1.1).bind fun v2 => (m15_prog_Sane (GProgProg.mk false [(GProgOp.mk 1 0 1 0 [(UInt8.ofBitVec (97#8))] (GApiRange.mk ([] : List UInt8) ([] : List UInt8) false)), (GProgOp.mk 6 0 2 1 ([] : List UInt8) (GApiRange.mk ([] : List UInt8) ([] : List UInt8) false)), (GProgOp.mk 2 0 0 0 [(UInt8.ofBitVec (97#8))] (GApiRange.mk ([] : List UInt8) ([] : List UInt8) false))])).bind fun v3 => if v3 then (if (decide ((v1.1.length : Int) = 1)) then ((idx v1.1 0).bind fun u4 => (m23_prog_Num u4.Val).bind fun v5 => if (decide (v5 = 1)) then (if (decide ((v2.1.length : Int) = 1)) then ((idx v2.1 0).bind fun u6 => (m23_prog_Num u6.Val).bind fun v7 => if (decide (v7 = 2)) then (some (decide (v2.2.PC = 3))) else (some false)) else (some false)) else (some false)) else (some false)) else (some false)

set_option maxRecDepth 100000 in
theorem m9_l19_awake_c  {r : Bool} (h : m9_l19_awake = some r) : CallsA Try.prog 9 [] (· = .s (.one (.b r))) := by
  unfold m9_l19_awake at h
  refine callsA_of Try.func9 rfl (nt := 59) rfl (Nat.le_of_ble_eq_true rfl) ?_
  intro w0 S0
  refine cseq ?_
  refine cregion ?_
  refine sv rfl (opv_as rfl) ?_
  refine snil ?_
  refine cseq ?_
  refine cregion ?_
  refine sbuild1 rfl Try.underlying42 ei5 rfl rfl (List.all_eq_true.1 rfl) (by decide) ?_
  refine smem [.arr 5 1 0 ([(UInt8.ofBitVec (97#8))].flatMap eU8)] rfl ?_
  refine sconv_id rfl Try.underlying42 Try.underlying5 rfl rfl (flat_len (f := eU8) (fun _ => rfl) [(UInt8.ofBitVec (97#8))]).symm (by decide) ?_
  refine sv rfl (opv_build zi71 pi71 (parts_cons rfl (parts_cons rfl (parts_cons rfl parts_nil))) (.cons _ _ _ _ _ _ _ rfl rfl (Nat.le_of_ble_eq_true rfl) (.cons _ _ _ _ _ _ _ rfl rfl (Nat.le_of_ble_eq_true rfl) (.cons _ _ _ _ _ _ _ rfl rfl (Nat.le_of_ble_eq_true rfl) (.nil _))))) ?_
  refine sv rfl (opv_build zi71 pi71 (parts_cons rfl (parts_cons rfl (parts_cons rfl parts_nil))) (.cons _ _ _ _ _ _ _ rfl rfl (Nat.le_of_ble_eq_true rfl) (.cons _ _ _ _ _ _ _ rfl rfl (Nat.le_of_ble_eq_true rfl) (.cons _ _ _ _ _ _ _ rfl rfl (Nat.le_of_ble_eq_true rfl) (.nil _))))) ?_
  refine sbuild1 rfl Try.underlying42 ei5 rfl rfl (List.all_eq_true.1 rfl) (by decide) ?_
  refine smem [.dead, .arr 5 1 0 ([(UInt8.ofBitVec (97#8))].flatMap eU8)] rfl ?_
  refine sconv_id rfl Try.underlying42 Try.underlying5 rfl rfl (flat_len (f := eU8) (fun _ => rfl) [(UInt8.ofBitVec (97#8))]).symm (by decide) ?_
  refine sv rfl (opv_build zi71 pi71 (parts_cons rfl (parts_cons rfl parts_nil)) (.cons _ _ _ _ _ _ _ rfl rfl (Nat.le_of_ble_eq_true rfl) (.cons _ _ _ _ _ _ _ rfl rfl (Nat.le_of_ble_eq_true rfl) (.nil _)))) ?_
  refine spub 8 rfl (by (repeat' first | exact PubA.nil _ | apply PubA.cons | apply PubV.one | apply PubV.agg | exact PubL.nil | exact PubL.id _ rfl | exact PubLs.nil _ | apply PubLs.cons)) ?_
  refine spub 9 rfl (by (repeat' first | exact PubA.nil _ | apply PubA.cons | apply PubV.one | apply PubV.agg | exact PubL.nil | exact PubL.id _ rfl | exact PubLs.nil _ | apply PubLs.cons)) ?_
  refine spub 12 rfl (by (repeat' first | exact PubA.nil _ | apply PubA.cons | apply PubV.one | apply PubV.agg | exact PubL.nil | exact PubL.id _ rfl | exact PubLs.nil _ | apply PubLs.cons)) ?_
  refine sbuildN (out := ([(GProgOp.mk 1 0 1 0 [(UInt8.ofBitVec (97#8))] (GApiRange.mk ([] : List UInt8) ([] : List UInt8) false)), (GProgOp.mk 6 0 2 1 ([] : List UInt8) (GApiRange.mk ([] : List UInt8) ([] : List UInt8) false)), (GProgOp.mk 2 0 0 0 [(UInt8.ofBitVec (97#8))] (GApiRange.mk ([] : List UInt8) ([] : List UInt8) false))] : List GProgOp).flatMap eGProgOp) rfl Try.underlying29 ei71 (parts_cons rfl (parts_cons rfl (parts_cons rfl parts_nil))) (.cons _ _ _ _ _ _ _ rfl rfl (Nat.le_of_ble_eq_true rfl) (.cons _ _ _ _ _ _ _ rfl rfl (Nat.le_of_ble_eq_true rfl) (.cons _ _ _ _ _ _ _ rfl rfl (Nat.le_of_ble_eq_true rfl) (.nil _)))) rfl (by decide) ?_
  refine sv rfl (opv_build zi31 pi31 (parts_cons rfl parts_nil) (.cons _ _ _ _ _ _ _ rfl rfl (Nat.le_of_ble_eq_true rfl) (.nil _))) ?_
  refine salloc rfl zi31 ?_
  refine sstore sz31 rfl rfl rfl rfl (Nat.le_of_ble_eq_true rfl) ?_
  refine smem [.dead, .dead, .arr 71 8 0 ([(GProgOp.mk 1 0 1 0 [(UInt8.ofBitVec (97#8))] (GApiRange.mk ([] : List UInt8) ([] : List UInt8) false)), (GProgOp.mk 6 0 2 1 ([] : List UInt8) (GApiRange.mk ([] : List UInt8) ([] : List UInt8) false)), (GProgOp.mk 2 0 0 0 [(UInt8.ofBitVec (97#8))] (GApiRange.mk ([] : List UInt8) ([] : List UInt8) false))].flatMap eGProgOp), .box [.b false, .ls 2 [(GProgOp.mk 1 0 1 0 [(UInt8.ofBitVec (97#8))] (GApiRange.mk ([] : List UInt8) ([] : List UInt8) false)), (GProgOp.mk 6 0 2 1 ([] : List UInt8) (GApiRange.mk ([] : List UInt8) ([] : List UInt8) false)), (GProgOp.mk 2 0 0 0 [(UInt8.ofBitVec (97#8))] (GApiRange.mk ([] : List UInt8) ([] : List UInt8) false))].length]] rfl ?_
  refine snil ?_
  refine cseq ?_
  refine cregion ?_
  refine sv rfl (opv_loadN ti31 rfl (.lp _ _ _ rfl) (Nat.le_of_ble_eq_true rfl)) ?_
  refine spub 16 rfl (by (repeat' first | exact PubA.nil _ | apply PubA.cons | apply PubV.one | apply PubV.agg | exact PubL.nil | exact PubL.ls _ _ _ _ _ _ rfl (flat_len (f := eGProgOp) (fun _ => rfl) ([(GProgOp.mk 1 0 1 0 [(UInt8.ofBitVec (97#8))] (GApiRange.mk ([] : List UInt8) ([] : List UInt8) false)), (GProgOp.mk 6 0 2 1 ([] : List UInt8) (GApiRange.mk ([] : List UInt8) ([] : List UInt8) false)), (GProgOp.mk 2 0 0 0 [(UInt8.ofBitVec (97#8))] (GApiRange.mk ([] : List UInt8) ([] : List UInt8) false))] : List GProgOp)).symm | exact PubL.ls _ _ _ _ _ _ rfl (flat_len (f := eGProgOp) (fun _ => rfl) _).symm | exact PubL.id _ rfl | exact PubLs.nil _ | apply PubLs.cons)) ?_
  obtain ⟨v1, hv1, h⟩ := bind_eq h
  refine scall1 rfl fn14 (opnds_cons rfl (opnds_cons rfl opnds_nil)) (pubC rfl) (m14_prog_Run_c hv1) ?_
  refine sv rfl (opv_mvt rfl) ?_
  refine sv rfl (opv_extract rfl rfl) ?_
  refine sv rfl (opv_extract rfl rfl) ?_
  refine salloc rfl zi35 ?_
  refine sv rfl (opv_as rfl) ?_
  refine sstore sz35 rfl rfl rfl rfl (Nat.le_of_ble_eq_true rfl) ?_
  refine smem [.dead, .dead, .arr 71 8 ([(GProgOp.mk 1 0 1 0 [(UInt8.ofBitVec (97#8))] (GApiRange.mk ([] : List UInt8) ([] : List UInt8) false)), (GProgOp.mk 6 0 2 1 ([] : List UInt8) (GApiRange.mk ([] : List UInt8) ([] : List UInt8) false)), (GProgOp.mk 2 0 0 0 [(UInt8.ofBitVec (97#8))] (GApiRange.mk ([] : List UInt8) ([] : List UInt8) false))].flatMap eGProgOp).length ([(GProgOp.mk 1 0 1 0 [(UInt8.ofBitVec (97#8))] (GApiRange.mk ([] : List UInt8) ([] : List UInt8) false)), (GProgOp.mk 6 0 2 1 ([] : List UInt8) (GApiRange.mk ([] : List UInt8) ([] : List UInt8) false)), (GProgOp.mk 2 0 0 0 [(UInt8.ofBitVec (97#8))] (GApiRange.mk ([] : List UInt8) ([] : List UInt8) false))].flatMap eGProgOp), .box [.b false, .ls 2 [(GProgOp.mk 1 0 1 0 [(UInt8.ofBitVec (97#8))] (GApiRange.mk ([] : List UInt8) ([] : List UInt8) false)), (GProgOp.mk 6 0 2 1 ([] : List UInt8) (GApiRange.mk ([] : List UInt8) ([] : List UInt8) false)), (GProgOp.mk 2 0 0 0 [(UInt8.ofBitVec (97#8))] (GApiRange.mk ([] : List UInt8) ([] : List UInt8) false))].length], .box v1.2] rfl ?_
  refine snil ?_
  refine cseq ?_
  refine cregion ?_
  refine sv rfl (opv_loadN ti31 rfl (.lp _ _ _ rfl) (Nat.le_of_ble_eq_true rfl)) ?_
  refine sv rfl (opv_mv rfl) ?_
  refine spub 21 rfl (by (repeat' first | exact PubA.nil _ | apply PubA.cons | apply PubV.one | apply PubV.agg | exact PubL.nil | exact PubL.ls _ _ _ _ _ _ rfl (flat_len (f := eGProgOp) (fun _ => rfl) ([(GProgOp.mk 1 0 1 0 [(UInt8.ofBitVec (97#8))] (GApiRange.mk ([] : List UInt8) ([] : List UInt8) false)), (GProgOp.mk 6 0 2 1 ([] : List UInt8) (GApiRange.mk ([] : List UInt8) ([] : List UInt8) false)), (GProgOp.mk 2 0 0 0 [(UInt8.ofBitVec (97#8))] (GApiRange.mk ([] : List UInt8) ([] : List UInt8) false))] : List GProgOp)).symm | exact PubL.ls _ _ _ _ _ _ rfl (flat_len (f := eGProgOp) (fun _ => rfl) _).symm | exact PubL.id _ rfl | exact PubLs.nil _ | apply PubLs.cons)) ?_
  obtain ⟨v2, hv2, h⟩ := bind_eq h
  refine scall1 rfl fn14 (opnds_cons rfl (opnds_cons rfl opnds_nil)) (pubA_id rfl) (m14_prog_Run_c hv2) ?_
  refine sv rfl (opv_mvt rfl) ?_
  refine sv rfl (opv_extract rfl rfl) ?_
  refine sv rfl (opv_extract rfl rfl) ?_
  refine salloc rfl zi35 ?_
  refine sv rfl (opv_as rfl) ?_
  refine sstore sz35 rfl rfl rfl rfl (Nat.le_of_ble_eq_true rfl) ?_
  refine smem [.dead, .dead, .arr 71 8 ([(GProgOp.mk 1 0 1 0 [(UInt8.ofBitVec (97#8))] (GApiRange.mk ([] : List UInt8) ([] : List UInt8) false)), (GProgOp.mk 6 0 2 1 ([] : List UInt8) (GApiRange.mk ([] : List UInt8) ([] : List UInt8) false)), (GProgOp.mk 2 0 0 0 [(UInt8.ofBitVec (97#8))] (GApiRange.mk ([] : List UInt8) ([] : List UInt8) false))].flatMap eGProgOp).length ([(GProgOp.mk 1 0 1 0 [(UInt8.ofBitVec (97#8))] (GApiRange.mk ([] : List UInt8) ([] : List UInt8) false)), (GProgOp.mk 6 0 2 1 ([] : List UInt8) (GApiRange.mk ([] : List UInt8) ([] : List UInt8) false)), (GProgOp.mk 2 0 0 0 [(UInt8.ofBitVec (97#8))] (GApiRange.mk ([] : List UInt8) ([] : List UInt8) false))].flatMap eGProgOp), .box [.b false, .ls 2 [(GProgOp.mk 1 0 1 0 [(UInt8.ofBitVec (97#8))] (GApiRange.mk ([] : List UInt8) ([] : List UInt8) false)), (GProgOp.mk 6 0 2 1 ([] : List UInt8) (GApiRange.mk ([] : List UInt8) ([] : List UInt8) false)), (GProgOp.mk 2 0 0 0 [(UInt8.ofBitVec (97#8))] (GApiRange.mk ([] : List UInt8) ([] : List UInt8) false))].length], .box v1.2, .box v2.2] rfl ?_
  refine snil ?_
  refine cseq ?_
  refine cregion ?_
  refine sv rfl (opv_loadN ti31 rfl (.lp _ _ _ rfl) (Nat.le_of_ble_eq_true rfl)) ?_
  refine spub 26 rfl (by (repeat' first | exact PubA.nil _ | apply PubA.cons | apply PubV.one | apply PubV.agg | exact PubL.nil | exact PubL.ls _ _ _ _ _ _ rfl (flat_len (f := eGProgOp) (fun _ => rfl) ([(GProgOp.mk 1 0 1 0 [(UInt8.ofBitVec (97#8))] (GApiRange.mk ([] : List UInt8) ([] : List UInt8) false)), (GProgOp.mk 6 0 2 1 ([] : List UInt8) (GApiRange.mk ([] : List UInt8) ([] : List UInt8) false)), (GProgOp.mk 2 0 0 0 [(UInt8.ofBitVec (97#8))] (GApiRange.mk ([] : List UInt8) ([] : List UInt8) false))] : List GProgOp)).symm | exact PubL.ls _ _ _ _ _ _ rfl (flat_len (f := eGProgOp) (fun _ => rfl) _).symm | exact PubL.id _ rfl | exact PubLs.nil _ | apply PubLs.cons)) ?_
  obtain ⟨v3, hv3, h⟩ := bind_eq h
  refine scall1 rfl fn15 (opnds_cons rfl opnds_nil) (pubA_id rfl) (m15_prog_Sane_c hv3) ?_
  refine sv rfl (opv_mv rfl) ?_
  refine ssplit 28 rfl (fun hc => ?_) (fun hc => ?_)
  · replace h := ite_t hc h
    clear hc
    refine son rfl rfl rfl ?_
    refine sv rfl (opv_mv rfl) ?_
    refine son rfl rfl rfl ?_
    refine sv rfl (opv_len_sl si25 rfl) ?_
    refine son rfl rfl rfl ?_
    refine sv rfl (opv_ieql rfl rfl) ?_
    refine sv rfl (opv_pick_t rfl rfl) ?_
    refine sv rfl (opv_mv rfl) ?_
    refine ssplit 33 rfl (fun hc => ?_) (fun hc => ?_)
    · replace h := ite_t hc h
      clear hc
      refine son rfl rfl rfl ?_
      refine sv rfl (opv_mv rfl) ?_
      refine son rfl rfl rfl ?_
      obtain ⟨u4, hu4, h⟩ := bind_eq h
      refine sv rfl (opv_ix (f := eGApiKV) si25 (fun _ => rfl) rfl rfl rfl rfl hu4) ?_
      refine son rfl rfl rfl ?_
      refine sv rfl (opv_fieldAddr_cp fi65_1 rfl) ?_
      refine son rfl rfl rfl ?_
      refine sv rfl (opv_load1 ti42 rfl (.cp _) rfl) ?_
      refine son rfl rfl rfl ?_
      obtain ⟨v5, hv5, h⟩ := bind_eq h
      refine scall1 rfl fn23 (opnds_cons rfl opnds_nil) (pubA_id rfl) (m23_prog_Num_c hv5) ?_
      refine son rfl rfl rfl ?_
      refine sv rfl (opv_ieql rfl rfl) ?_
      refine sv rfl (opv_pick_t rfl rfl) ?_
      refine sv rfl (opv_mv rfl) ?_
      refine ssplit 41 rfl (fun hc => ?_) (fun hc => ?_)
      · replace h := ite_t hc h
        clear hc
        refine son rfl rfl rfl ?_
        refine sv rfl (opv_mv rfl) ?_
        refine son rfl rfl rfl ?_
        refine sv rfl (opv_len_sl si25 rfl) ?_
        refine son rfl rfl rfl ?_
        refine sv rfl (opv_ieql rfl rfl) ?_
        refine sv rfl (opv_pick_t rfl rfl) ?_
        refine sv rfl (opv_mv rfl) ?_
        refine ssplit 46 rfl (fun hc => ?_) (fun hc => ?_)
        · replace h := ite_t hc h
          clear hc
          refine son rfl rfl rfl ?_
          refine sv rfl (opv_mv rfl) ?_
          refine son rfl rfl rfl ?_
          obtain ⟨u6, hu6, h⟩ := bind_eq h
          refine sv rfl (opv_ix (f := eGApiKV) si25 (fun _ => rfl) rfl rfl rfl rfl hu6) ?_
          refine son rfl rfl rfl ?_
          refine sv rfl (opv_fieldAddr_cp fi65_1 rfl) ?_
          refine son rfl rfl rfl ?_
          refine sv rfl (opv_load1 ti42 rfl (.cp _) rfl) ?_
          refine son rfl rfl rfl ?_
          obtain ⟨v7, hv7, h⟩ := bind_eq h
          refine scall1 rfl fn23 (opnds_cons rfl opnds_nil) (pubA_id rfl) (m23_prog_Num_c hv7) ?_
          refine son rfl rfl rfl ?_
          refine sv rfl (opv_ieql rfl rfl) ?_
          refine sv rfl (opv_pick_t rfl rfl) ?_
          refine sv rfl (opv_mv rfl) ?_
          refine ssplit 54 rfl (fun hc => ?_) (fun hc => ?_)
          · replace h := ite_t hc h
            clear hc
            refine son rfl rfl rfl ?_
            refine sv rfl (opv_fieldAddr_lp fi35_0 rfl) ?_
            refine son rfl rfl rfl ?_
            refine sv rfl (opv_load1 ti3 rfl (.lp _ _ _ rfl) rfl) ?_
            refine son rfl rfl rfl ?_
            refine sv rfl (opv_ieql rfl rfl) ?_
            refine sv rfl (opv_pick_t rfl rfl) ?_
            refine sv rfl (opv_as rfl) ?_
            refine snil ?_
            refine cret ?_
            obtain rfl := Option.some.inj h
            refine ⟨Or.inr rfl, _, _, _, (resVs_cons (ResV.tmp _ _ rfl) resVs_nil), (pubA_id rfl), ?_⟩
            rfl
          · replace h := ite_f hc h
            clear hc
            refine soff rfl rfl rfl rfl ?_
            refine soff rfl rfl rfl rfl ?_
            refine soff rfl rfl rfl rfl ?_
            refine sv rfl (opv_pick_f rfl rfl) ?_
            refine sv rfl (opv_as rfl) ?_
            refine snil ?_
            refine cret ?_
            obtain rfl := Option.some.inj h
            refine ⟨Or.inr rfl, _, _, _, (resVs_cons (ResV.tmp _ _ rfl) resVs_nil), (pubA_id rfl), ?_⟩
            rfl
        · replace h := ite_f hc h
          clear hc
          refine soff rfl rfl rfl rfl ?_
          refine soff rfl rfl rfl rfl ?_
          refine soff rfl rfl rfl rfl ?_
          refine soff rfl rfl rfl rfl ?_
          refine soff rfl rfl rfl rfl ?_
          refine soff rfl rfl rfl rfl ?_
          refine sv rfl (opv_pick_f rfl rfl) ?_
          refine sv rfl (opv_mv rfl) ?_
          refine soff rfl rfl rfl rfl ?_
          refine soff rfl rfl rfl rfl ?_
          refine soff rfl rfl rfl rfl ?_
          refine sv rfl (opv_pick_f rfl rfl) ?_
          refine sv rfl (opv_as rfl) ?_
          refine snil ?_
          refine cret ?_
          obtain rfl := Option.some.inj h
          refine ⟨Or.inr rfl, _, _, _, (resVs_cons (ResV.tmp _ _ rfl) resVs_nil), (pubA_id rfl), ?_⟩
          rfl
      · replace h := ite_f hc h
        clear hc
        refine soff rfl rfl rfl rfl ?_
        refine soff rfl rfl rfl rfl ?_
        refine soff rfl rfl rfl rfl ?_
        refine sv rfl (opv_pick_f rfl rfl) ?_
        refine sv rfl (opv_mv rfl) ?_
        refine soff rfl rfl rfl rfl ?_
        refine soff rfl rfl rfl rfl ?_
        refine soff rfl rfl rfl rfl ?_
        refine soff rfl rfl rfl rfl ?_
        refine soff rfl rfl rfl rfl ?_
        refine soff rfl rfl rfl rfl ?_
        refine sv rfl (opv_pick_f rfl rfl) ?_
        refine sv rfl (opv_mv rfl) ?_
        refine soff rfl rfl rfl rfl ?_
        refine soff rfl rfl rfl rfl ?_
        refine soff rfl rfl rfl rfl ?_
        refine sv rfl (opv_pick_f rfl rfl) ?_
        refine sv rfl (opv_as rfl) ?_
        refine snil ?_
        refine cret ?_
        obtain rfl := Option.some.inj h
        refine ⟨Or.inr rfl, _, _, _, (resVs_cons (ResV.tmp _ _ rfl) resVs_nil), (pubA_id rfl), ?_⟩
        rfl
    · replace h := ite_f hc h
      clear hc
      refine soff rfl rfl rfl rfl ?_
      refine soff rfl rfl rfl rfl ?_
      refine soff rfl rfl rfl rfl ?_
      refine soff rfl rfl rfl rfl ?_
      refine soff rfl rfl rfl rfl ?_
      refine soff rfl rfl rfl rfl ?_
      refine sv rfl (opv_pick_f rfl rfl) ?_
      refine sv rfl (opv_mv rfl) ?_
      refine soff rfl rfl rfl rfl ?_
      refine soff rfl rfl rfl rfl ?_
      refine soff rfl rfl rfl rfl ?_
      refine sv rfl (opv_pick_f rfl rfl) ?_
      refine sv rfl (opv_mv rfl) ?_
      refine soff rfl rfl rfl rfl ?_
      refine soff rfl rfl rfl rfl ?_
      refine soff rfl rfl rfl rfl ?_
      refine soff rfl rfl rfl rfl ?_
      refine soff rfl rfl rfl rfl ?_
      refine soff rfl rfl rfl rfl ?_
      refine sv rfl (opv_pick_f rfl rfl) ?_
      refine sv rfl (opv_mv rfl) ?_
      refine soff rfl rfl rfl rfl ?_
      refine soff rfl rfl rfl rfl ?_
      refine soff rfl rfl rfl rfl ?_
      refine sv rfl (opv_pick_f rfl rfl) ?_
      refine sv rfl (opv_as rfl) ?_
      refine snil ?_
      refine cret ?_
      obtain rfl := Option.some.inj h
      refine ⟨Or.inr rfl, _, _, _, (resVs_cons (ResV.tmp _ _ rfl) resVs_nil), (pubA_id rfl), ?_⟩
      rfl
  · replace h := ite_f hc h
    clear hc
    refine soff rfl rfl rfl rfl ?_
    refine soff rfl rfl rfl rfl ?_
    refine soff rfl rfl rfl rfl ?_
    refine sv rfl (opv_pick_f rfl rfl) ?_
    refine sv rfl (opv_mv rfl) ?_
    refine soff rfl rfl rfl rfl ?_
    refine soff rfl rfl rfl rfl ?_
    refine soff rfl rfl rfl rfl ?_
    refine soff rfl rfl rfl rfl ?_
    refine soff rfl rfl rfl rfl ?_
    refine soff rfl rfl rfl rfl ?_
    refine sv rfl (opv_pick_f rfl rfl) ?_
    refine sv rfl (opv_mv rfl) ?_
    refine soff rfl rfl rfl rfl ?_
    refine soff rfl rfl rfl rfl ?_
    refine soff rfl rfl rfl rfl ?_
    refine sv rfl (opv_pick_f rfl rfl) ?_
    refine sv rfl (opv_mv rfl) ?_
    refine soff rfl rfl rfl rfl ?_
    refine soff rfl rfl rfl rfl ?_
    refine soff rfl rfl rfl rfl ?_
    refine soff rfl rfl rfl rfl ?_
    refine soff rfl rfl rfl rfl ?_
    refine soff rfl rfl rfl rfl ?_
    refine sv rfl (opv_pick_f rfl rfl) ?_
    refine sv rfl (opv_mv rfl) ?_
    refine soff rfl rfl rfl rfl ?_
    refine soff rfl rfl rfl rfl ?_
    refine soff rfl rfl rfl rfl ?_
    refine sv rfl (opv_pick_f rfl rfl) ?_
    refine sv rfl (opv_as rfl) ?_
    refine snil ?_
    refine cret ?_
    obtain rfl := Option.some.inj h
    refine ⟨Or.inr rfl, _, _, _, (resVs_cons (ResV.tmp _ _ rfl) resVs_nil), (pubA_id rfl), ?_⟩
    rfl

def m26_r06_Short (a0 : GApiRange) : Option Bool :=
  if (decide ((a0.Lo.length : Int) ≤ 100)) then (some (decide ((a0.Hi.length : Int) ≤ 100))) else (some false)

set_option maxRecDepth 100000 in
theorem m26_r06_Short_c {a0 : GApiRange} {r : Bool} (h : m26_r06_Short a0 = some r) : CallsA Try.prog 26 [.agg a0] (· = .s (.one (.b r))) := by
  unfold m26_r06_Short at h
  refine callsA_of Try.func26 rfl (nt := 13) rfl (Nat.le_of_ble_eq_true rfl) ?_
  intro w0 S0
  refine cseq ?_
  refine cregion ?_
  refine sbox rfl rfl ?_
  refine sv rfl (opv_as rfl) ?_
  refine snil ?_
  refine cseq ?_
  refine cregion ?_
  refine sv rfl (opv_fieldAddr_lp fi44_0 rfl) ?_
  refine sv rfl (opv_load1 ti42 rfl (.lp _ _ _ rfl) rfl) ?_
  refine sv rfl (opv_len_sl si42 rfl) ?_
  refine sv rfl (opv_leq rfl rfl) ?_
  refine sv rfl (opv_mv rfl) ?_
  refine ssplit 7 rfl (fun hc => ?_) (fun hc => ?_)
  · replace h := ite_t hc h
    clear hc
    refine son rfl rfl rfl ?_
    refine sv rfl (opv_fieldAddr_lp fi44_1 rfl) ?_
    refine son rfl rfl rfl ?_
    refine sv rfl (opv_load1 ti42 rfl (.lp _ _ _ rfl) rfl) ?_
    refine son rfl rfl rfl ?_
    refine sv rfl (opv_len_sl si42 rfl) ?_
    refine son rfl rfl rfl ?_
    refine sv rfl (opv_leq rfl rfl) ?_
    refine sv rfl (opv_pick_t rfl rfl) ?_
    refine sv rfl (opv_as rfl) ?_
    refine snil ?_
    refine cret ?_
    obtain rfl := Option.some.inj h
    refine ⟨Or.inr rfl, _, _, _, (resVs_cons (ResV.tmp _ _ rfl) resVs_nil), (pubA_id rfl), ?_⟩
    rfl
  · replace h := ite_f hc h
    clear hc
    refine soff rfl rfl rfl rfl ?_
    refine soff rfl rfl rfl rfl ?_
    refine soff rfl rfl rfl rfl ?_
    refine soff rfl rfl rfl rfl ?_
    refine sv rfl (opv_pick_f rfl rfl) ?_
    refine sv rfl (opv_as rfl) ?_
    refine snil ?_
    refine cret ?_
    obtain rfl := Option.some.inj h
    refine ⟨Or.inr rfl, _, _, _, (resVs_cons (ResV.tmp _ _ rfl) resVs_nil), (pubA_id rfl), ?_⟩
    rfl

def m10_r19_Few_k1 (b1 : Unit) : Option Bool :=
  some true

def m10_r19_Few_s2 (a0 : GR19Prog) (s2 : Int) : Option (LR (Int) (Unit) (Bool)) :=
  if (decide (s2 < (a0.Ops.length : Int))) then ((idx a0.Ops s2).bind fun u3 => if (decide (50 < (u3.Key.length : Int))) then (some (.ret false)) else ((idx a0.Ops s2).bind fun u4 => (m26_r06_Short (GApiRange.mk u4.Rng.Lo u4.Rng.Hi u4.Rng.Open)).bind fun v5 => if (!v5) then (some (.ret false)) else (some (.cont (wI (s2 + 1)))))) else (some (.brk ()))
def m10_r19_Few (a0 : GR19Prog) : Option Bool :=
  if (decide (40 < (a0.Ops.length : Int))) then (some false) else ((iter (m10_r19_Few_s2 a0) fuel 0).bind fun x => match x with | .inl r => some r | .inr e6 => m10_r19_Few_k1 e6)

set_option maxRecDepth 100000 in
theorem m10_r19_Few_c {a0 : GR19Prog} {r : Bool} (h : m10_r19_Few a0 = some r) : CallsA Try.prog 10 [.agg a0] (· = .s (.one (.b r))) := by
  unfold m10_r19_Few at h
  refine callsA_of Try.func10 rfl (nt := 33) rfl (Nat.le_of_ble_eq_true rfl) ?_
  intro w0 S0
  refine cseq ?_
  refine cregion ?_
  refine sbox rfl rfl ?_
  refine sv rfl (opv_as rfl) ?_
  refine snil ?_
  refine cseq ?_
  refine cseq ?_
  refine cregion ?_
  refine sv rfl (opv_fieldAddr_lp fi24_1 rfl) ?_
  refine sv rfl (opv_load1 ti22 rfl (.lp _ _ _ rfl) rfl) ?_
  refine sv rfl (opv_len_sl si22 rfl) ?_
  refine sv rfl (opv_gtr rfl rfl) ?_
  refine snil ?_
  refine ccond rfl (fun hc => ?_) (fun hc => ?_)
  · replace h := ite_t hc h
    clear hc
    refine cseq ?_
    refine cregion ?_
    refine sv rfl (opv_as rfl) ?_
    refine snil ?_
    refine cret ?_
    refine then_ret ?_
    obtain rfl := Option.some.inj h
    refine ⟨Or.inr rfl, _, _, _, (resVs_cons (ResV.tmp _ _ rfl) resVs_nil), (pubA_id rfl), ?_⟩
    rfl
  · replace h := ite_f hc h
    clear hc
    refine cskip ?_
    refine then_normal ?_
    refine cseq ?_
    refine cseq ?_
    refine cregion ?_
    refine sv rfl (opv_as rfl) ?_
    refine snil ?_
    refine cjoin (Unit) (fun b1 => []) (fun b1 => [.box a0]) (fun b1 => m10_r19_Few_k1 b1 = some r) (fun _ _ => inbL_of rfl) (fun _ _ => blkinb_of rfl) (fun _ _ => Nat.le_of_ble_eq_true rfl) (fun b1 h => ?_) ?_
    · unfold m10_r19_Few_k1 at h
      refine cseq ?_
      refine cregion ?_
      refine sv rfl (opv_as rfl) ?_
      refine snil ?_
      refine cret ?_
      obtain rfl := Option.some.inj h
      refine ⟨Or.inr rfl, _, _, _, (resVs_cons (ResV.tmp _ _ rfl) resVs_nil), (pubA_id rfl), ?_⟩
      rfl
    · skip
      refine cblock ?_
      obtain ⟨x2, hx2, ho2⟩ := bind_eq h
      refine awc_loop (G := Nat × (Int)) (fun g => [(1, .s (.one (.lp 0 0))), (3, .s (.one (.i .i64 g.2)))]) (fun g => [.box a0]) (fun g => iter (m10_r19_Few_s2 a0) g.1 g.2 = some x2) (fun g => g.1) (fuel, 0) hx2 ⟨rfl, rfl, trivial⟩ [] rfl (fun _ _ => inbL_of rfl) (fun _ _ => blkinb_of rfl) (fun _ _ => Nat.le_of_ble_eq_true rfl) ?_
      clear hx2 h
      rintro ⟨n2, s2⟩ h
      obtain ⟨n2, y2, rfl, h, hk2⟩ := iter_eq h
      unfold m10_r19_Few_s2 at h
      refine cseq ?_
      refine cseq ?_
      refine cregion ?_
      refine sv rfl (opv_mv rfl) ?_
      refine sv rfl (opv_fieldAddr_lp fi24_1 rfl) ?_
      refine sv rfl (opv_load1 ti22 rfl (.lp _ _ _ rfl) rfl) ?_
      refine sv rfl (opv_len_sl si22 rfl) ?_
      refine sv rfl (opv_lss rfl rfl) ?_
      refine snil ?_
      refine ccond rfl (fun hc => ?_) (fun hc => ?_)
      · replace h := ite_t hc h
        clear hc
        refine cskip ?_
        refine then_normal ?_
        refine cseq ?_
        refine cblock ?_
        refine cseq ?_
        refine cregion ?_
        refine sv rfl (opv_fieldAddr_lp fi24_1 rfl) ?_
        refine sv rfl (opv_load1 ti22 rfl (.lp _ _ _ rfl) rfl) ?_
        refine sv rfl (opv_mv rfl) ?_
        obtain ⟨u3, hu3, h⟩ := bind_eq h
        refine sv rfl (opv_ix (f := eGR19Op) si22 (fun _ => rfl) rfl rfl rfl rfl hu3) ?_
        refine sv rfl (opv_fieldAddr_cp fi63_4 rfl) ?_
        refine sv rfl (opv_load1 ti42 rfl (.cp _) rfl) ?_
        refine sv rfl (opv_len_sl si42 rfl) ?_
        refine sv rfl (opv_gtr rfl rfl) ?_
        refine sv rfl (opv_mv rfl) ?_
        refine ssplit 23 rfl (fun hc => ?_) (fun hc => ?_)
        · replace h := ite_t hc h
          clear hc
          refine soff rfl rfl rfl rfl ?_
          refine soff rfl rfl rfl rfl ?_
          refine soff rfl rfl rfl rfl ?_
          refine soff rfl rfl rfl rfl ?_
          refine soff rfl rfl rfl rfl ?_
          refine soff rfl rfl rfl rfl ?_
          refine soff rfl rfl rfl rfl ?_
          refine soff rfl rfl rfl rfl ?_
          refine sv rfl (opv_pick_t rfl rfl) ?_
          refine snil ?_
          refine ccond rfl (fun _ => ?_) (fun hx => Bool.noConfusion hx)
          refine cseq ?_
          refine cregion ?_
          refine sv rfl (opv_as rfl) ?_
          refine snil ?_
          refine cret ?_
          refine block_ret ?_
          refine then_ret ?_
          refine then_ret ?_
          refine block_ret ?_
          refine then_ret ?_
          obtain rfl := Option.some.inj h
          obtain rfl : Sum.inl _ = x2 := hk2
          replace ho2 : some _ = some _ := ho2
          obtain rfl := Option.some.inj ho2
          refine ⟨Or.inr rfl, _, _, _, (resVs_cons (ResV.tmp _ _ rfl) resVs_nil), (pubA_id rfl), ?_⟩
          rfl
        · replace h := ite_f hc h
          clear hc
          refine son rfl rfl rfl ?_
          refine sv rfl (opv_fieldAddr_lp fi24_1 rfl) ?_
          refine son rfl rfl rfl ?_
          refine sv rfl (opv_load1 ti22 rfl (.lp _ _ _ rfl) rfl) ?_
          refine son rfl rfl rfl ?_
          refine sv rfl (opv_mv rfl) ?_
          refine son rfl rfl rfl ?_
          obtain ⟨u4, hu4, h⟩ := bind_eq h
          refine sv rfl (opv_ix (f := eGR19Op) si22 (fun _ => rfl) rfl rfl rfl rfl hu4) ?_
          refine son rfl rfl rfl ?_
          refine sv rfl (opv_fieldAddr_cp fi63_5 rfl) ?_
          refine son rfl rfl rfl ?_
          refine sv rfl (opv_loadNe (ys := [.sl u4.Rng.Lo.length (u4.Rng.Lo.flatMap eU8), .sl u4.Rng.Hi.length (u4.Rng.Hi.flatMap eU8), .b u4.Rng.Open]) ti44 rfl (.cp _) rfl rfl) ?_
          refine son rfl rfl rfl ?_
          obtain ⟨v5, hv5, h⟩ := bind_eq h
          refine scall1 rfl fn26 (opnds_cons rfl opnds_nil) (pubA_id rfl) (m26_r06_Short_c hv5) ?_
          refine son rfl rfl rfl ?_
          refine sv rfl (opv_not rfl) ?_
          refine sv rfl (opv_pick_f rfl rfl) ?_
          refine snil ?_
          refine ccond rfl (fun hc => ?_) (fun hc => ?_)
          · replace h := ite_t hc h
            clear hc
            refine cseq ?_
            refine cregion ?_
            refine sv rfl (opv_as rfl) ?_
            refine snil ?_
            refine cret ?_
            refine block_ret ?_
            refine then_ret ?_
            refine then_ret ?_
            refine block_ret ?_
            refine then_ret ?_
            obtain rfl := Option.some.inj h
            obtain rfl : Sum.inl _ = x2 := hk2
            replace ho2 : some _ = some _ := ho2
            obtain rfl := Option.some.inj ho2
            refine ⟨Or.inr rfl, _, _, _, (resVs_cons (ResV.tmp _ _ rfl) resVs_nil), (pubA_id rfl), ?_⟩
            rfl
          · replace h := ite_f hc h
            clear hc
            refine cskip ?_
            refine block_normal ?_
            refine then_normal ?_
            refine cregion ?_
            refine sv rfl (opv_mv rfl) ?_
            refine sv rfl (opv_add rfl rfl) ?_
            refine sv rfl (opv_as rfl) ?_
            refine snil ?_
            obtain rfl := Option.some.inj h
            exact ⟨(n2, (wI (s2 + 1))), _, hk2, ⟨rfl, rfl, trivial⟩, rfl, Nat.lt_succ_self _⟩
      · replace h := ite_f hc h
        clear hc
        refine cexit ?_
        refine then_exit ?_
        refine then_exit ?_
        refine block_hit ?_
        refine then_normal ?_
        obtain rfl := Option.some.inj h
        obtain rfl : _ = x2 := hk2
        exact ⟨(), _, ho2, trivial, rfl⟩

def m11_l19_short_k1 (b1 : Unit) : Option Bool :=
  some true

def m11_l19_short_s2 (a0 : List GApiKV) (s2 : Int) : Option (LR (Int) (Unit) (Bool)) :=
  if (decide (s2 < (a0.length : Int))) then ((idx a0 s2).bind fun u3 => if (decide (50 < (u3.Key.length : Int))) then (some (.ret false)) else ((idx a0 s2).bind fun u4 => if (decide (100 < (u4.Val.length : Int))) then (some (.ret false)) else (some (.cont (wI (s2 + 1)))))) else (some (.brk ()))
def m11_l19_short (a0 : List GApiKV) : Option Bool :=
  if (decide (60 < (a0.length : Int))) then (some false) else ((iter (m11_l19_short_s2 a0) fuel 0).bind fun x => match x with | .inl r => some r | .inr e5 => m11_l19_short_k1 e5)

set_option maxRecDepth 100000 in
theorem m11_l19_short_c {a0 : List GApiKV} {r : Bool} (h : m11_l19_short a0 = some r) : CallsA Try.prog 11 [.one (.sl a0.length (a0.flatMap eGApiKV))] (· = .s (.one (.b r))) := by
  unfold m11_l19_short at h
  refine callsA_of Try.func11 rfl (nt := 29) rfl (Nat.le_of_ble_eq_true rfl) ?_
  intro w0 S0
  refine cseq ?_
  refine cregion ?_
  refine sv rfl (opv_as rfl) ?_
  refine snil ?_
  refine cseq ?_
  refine cseq ?_
  refine cregion ?_
  refine sv rfl (opv_mv rfl) ?_
  refine sv rfl (opv_len_sl si25 rfl) ?_
  refine sv rfl (opv_gtr rfl rfl) ?_
  refine snil ?_
  refine ccond rfl (fun hc => ?_) (fun hc => ?_)
  · replace h := ite_t hc h
    clear hc
    refine cseq ?_
    refine cregion ?_
    refine sv rfl (opv_as rfl) ?_
    refine snil ?_
    refine cret ?_
    refine then_ret ?_
    obtain rfl := Option.some.inj h
    refine ⟨Or.inr rfl, _, _, _, (resVs_cons (ResV.tmp _ _ rfl) resVs_nil), (pubA_id rfl), ?_⟩
    rfl
  · replace h := ite_f hc h
    clear hc
    refine cskip ?_
    refine then_normal ?_
    refine cseq ?_
    refine cseq ?_
    refine cregion ?_
    refine sv rfl (opv_as rfl) ?_
    refine snil ?_
    refine cjoin (Unit) (fun b1 => []) (fun b1 => []) (fun b1 => m11_l19_short_k1 b1 = some r) (fun _ _ => inbL_of rfl) (fun _ _ => blkinb_of rfl) (fun _ _ => Nat.le_of_ble_eq_true rfl) (fun b1 h => ?_) ?_
    · unfold m11_l19_short_k1 at h
      refine cseq ?_
      refine cregion ?_
      refine sv rfl (opv_as rfl) ?_
      refine snil ?_
      refine cret ?_
      obtain rfl := Option.some.inj h
      refine ⟨Or.inr rfl, _, _, _, (resVs_cons (ResV.tmp _ _ rfl) resVs_nil), (pubA_id rfl), ?_⟩
      rfl
    · skip
      refine cblock ?_
      obtain ⟨x2, hx2, ho2⟩ := bind_eq h
      refine awc_loop (G := Nat × (Int)) (fun g => [(0, .s (.one (.sl a0.length (a0.flatMap eGApiKV)))), (3, .s (.one (.i .i64 g.2)))]) (fun g => []) (fun g => iter (m11_l19_short_s2 a0) g.1 g.2 = some x2) (fun g => g.1) (fuel, 0) hx2 ⟨rfl, rfl, trivial⟩ [] rfl (fun _ _ => inbL_of rfl) (fun _ _ => blkinb_of rfl) (fun _ _ => Nat.le_of_ble_eq_true rfl) ?_
      clear hx2 h
      rintro ⟨n2, s2⟩ h
      obtain ⟨n2, y2, rfl, h, hk2⟩ := iter_eq h
      unfold m11_l19_short_s2 at h
      refine cseq ?_
      refine cseq ?_
      refine cregion ?_
      refine sv rfl (opv_mv rfl) ?_
      refine sv rfl (opv_mv rfl) ?_
      refine sv rfl (opv_len_sl si25 rfl) ?_
      refine sv rfl (opv_lss rfl rfl) ?_
      refine snil ?_
      refine ccond rfl (fun hc => ?_) (fun hc => ?_)
      · replace h := ite_t hc h
        clear hc
        refine cskip ?_
        refine then_normal ?_
        refine cseq ?_
        refine cblock ?_
        refine cseq ?_
        refine cregion ?_
        refine sv rfl (opv_mv rfl) ?_
        refine sv rfl (opv_mv rfl) ?_
        obtain ⟨u3, hu3, h⟩ := bind_eq h
        refine sv rfl (opv_ix (f := eGApiKV) si25 (fun _ => rfl) rfl rfl rfl rfl hu3) ?_
        refine sv rfl (opv_fieldAddr_cp fi65_0 rfl) ?_
        refine sv rfl (opv_load1 ti42 rfl (.cp _) rfl) ?_
        refine sv rfl (opv_len_sl si42 rfl) ?_
        refine sv rfl (opv_gtr rfl rfl) ?_
        refine sv rfl (opv_mv rfl) ?_
        refine ssplit 20 rfl (fun hc => ?_) (fun hc => ?_)
        · replace h := ite_t hc h
          clear hc
          refine soff rfl rfl rfl rfl ?_
          refine soff rfl rfl rfl rfl ?_
          refine soff rfl rfl rfl rfl ?_
          refine soff rfl rfl rfl rfl ?_
          refine soff rfl rfl rfl rfl ?_
          refine soff rfl rfl rfl rfl ?_
          refine soff rfl rfl rfl rfl ?_
          refine sv rfl (opv_pick_t rfl rfl) ?_
          refine snil ?_
          refine ccond rfl (fun _ => ?_) (fun hx => Bool.noConfusion hx)
          refine cseq ?_
          refine cregion ?_
          refine sv rfl (opv_as rfl) ?_
          refine snil ?_
          refine cret ?_
          refine block_ret ?_
          refine then_ret ?_
          refine then_ret ?_
          refine block_ret ?_
          refine then_ret ?_
          obtain rfl := Option.some.inj h
          obtain rfl : Sum.inl _ = x2 := hk2
          replace ho2 : some _ = some _ := ho2
          obtain rfl := Option.some.inj ho2
          refine ⟨Or.inr rfl, _, _, _, (resVs_cons (ResV.tmp _ _ rfl) resVs_nil), (pubA_id rfl), ?_⟩
          rfl
        · replace h := ite_f hc h
          clear hc
          refine son rfl rfl rfl ?_
          refine sv rfl (opv_mv rfl) ?_
          refine son rfl rfl rfl ?_
          refine sv rfl (opv_mv rfl) ?_
          refine son rfl rfl rfl ?_
          obtain ⟨u4, hu4, h⟩ := bind_eq h
          refine sv rfl (opv_ix (f := eGApiKV) si25 (fun _ => rfl) rfl rfl rfl rfl hu4) ?_
          refine son rfl rfl rfl ?_
          refine sv rfl (opv_fieldAddr_cp fi65_1 rfl) ?_
          refine son rfl rfl rfl ?_
          refine sv rfl (opv_load1 ti42 rfl (.cp _) rfl) ?_
          refine son rfl rfl rfl ?_
          refine sv rfl (opv_len_sl si42 rfl) ?_
          refine son rfl rfl rfl ?_
          refine sv rfl (opv_gtr rfl rfl) ?_
          refine sv rfl (opv_pick_f rfl rfl) ?_
          refine snil ?_
          refine ccond rfl (fun hc => ?_) (fun hc => ?_)
          · replace h := ite_t hc h
            clear hc
            refine cseq ?_
            refine cregion ?_
            refine sv rfl (opv_as rfl) ?_
            refine snil ?_
            refine cret ?_
            refine block_ret ?_
            refine then_ret ?_
            refine then_ret ?_
            refine block_ret ?_
            refine then_ret ?_
            obtain rfl := Option.some.inj h
            obtain rfl : Sum.inl _ = x2 := hk2
            replace ho2 : some _ = some _ := ho2
            obtain rfl := Option.some.inj ho2
            refine ⟨Or.inr rfl, _, _, _, (resVs_cons (ResV.tmp _ _ rfl) resVs_nil), (pubA_id rfl), ?_⟩
            rfl
          · replace h := ite_f hc h
            clear hc
            refine cskip ?_
            refine block_normal ?_
            refine then_normal ?_
            refine cregion ?_
            refine sv rfl (opv_mv rfl) ?_
            refine sv rfl (opv_add rfl rfl) ?_
            refine sv rfl (opv_as rfl) ?_
            refine snil ?_
            obtain rfl := Option.some.inj h
            exact ⟨(n2, (wI (s2 + 1))), _, hk2, ⟨rfl, rfl, trivial⟩, rfl, Nat.lt_succ_self _⟩
      · replace h := ite_f hc h
        clear hc
        refine cexit ?_
        refine then_exit ?_
        refine then_exit ?_
        refine block_hit ?_
        refine then_normal ?_
        obtain rfl := Option.some.inj h
        obtain rfl : _ = x2 := hk2
        exact ⟨(), _, ho2, trivial, rfl⟩

def m27_r06_Cmp_k1 (a0 : List UInt8) (a1 : List UInt8) (b1 : Unit) : Option Int :=
  if (decide ((a0.length : Int) < (a1.length : Int))) then (some (-1)) else (if (decide ((a1.length : Int) < (a0.length : Int))) then (some 1) else (some 0))

def m27_r06_Cmp_k3 (a0 : List UInt8) (a1 : List UInt8) (s2 : Int) (b3 : Unit) : Option (LR (Int) (Unit) (Int)) :=
  (idx a0 s2).bind fun u4 => (idx a1 s2).bind fun u5 => if (decide ((u4.toBitVec.toNat : Int) < (u5.toBitVec.toNat : Int))) then (some (.ret (-1))) else ((idx a0 s2).bind fun u6 => (idx a1 s2).bind fun u7 => if (decide ((u7.toBitVec.toNat : Int) < (u6.toBitVec.toNat : Int))) then (some (.ret 1)) else (some (.cont (wI (s2 + 1)))))

def m27_r06_Cmp_s2 (a0 : List UInt8) (a1 : List UInt8) (s2 : Int) : Option (LR (Int) (Unit) (Int)) :=
  if (decide (s2 < (a0.length : Int))) then (if (decide (s2 < (a1.length : Int))) then (m27_r06_Cmp_k3 a0 a1 s2 ()) else (some (.brk ()))) else (some (.brk ()))
def m27_r06_Cmp (a0 : List UInt8) (a1 : List UInt8) : Option Int :=
  (iter (m27_r06_Cmp_s2 a0 a1) fuel 0).bind fun x => match x with | .inl r => some r | .inr e8 => m27_r06_Cmp_k1 a0 a1 e8

set_option maxRecDepth 100000 in
theorem m27_r06_Cmp_c {a0 : List UInt8} {a1 : List UInt8} {r : Int} (h : m27_r06_Cmp a0 a1 = some r) : CallsA Try.prog 27 [.one (.sl a0.length (a0.flatMap eU8)), .one (.sl a1.length (a1.flatMap eU8))] (· = .s (.one (.i .i64 r))) := by
  unfold m27_r06_Cmp at h
  refine callsA_of Try.func27 rfl (nt := 46) rfl (Nat.le_of_ble_eq_true rfl) ?_
  intro w0 S0
  refine cseq ?_
  refine cregion ?_
  refine sv rfl (opv_as rfl) ?_
  refine snil ?_
  refine cseq ?_
  refine cseq ?_
  refine cregion ?_
  refine sv rfl (opv_as rfl) ?_
  refine snil ?_
  refine cjoin (Unit) (fun b1 => [(0, .s (.one (.sl a0.length (a0.flatMap eU8)))), (1, .s (.one (.sl a1.length (a1.flatMap eU8))))]) (fun b1 => []) (fun b1 => m27_r06_Cmp_k1 a0 a1 b1 = some r) (fun _ _ => inbL_of rfl) (fun _ _ => blkinb_of rfl) (fun _ _ => Nat.le_of_ble_eq_true rfl) (fun b1 h => ?_) ?_
  · unfold m27_r06_Cmp_k1 at h
    refine cseq ?_
    refine cseq ?_
    refine cregion ?_
    refine sv rfl (opv_mv rfl) ?_
    refine sv rfl (opv_len_sl si42 rfl) ?_
    refine sv rfl (opv_mv rfl) ?_
    refine sv rfl (opv_len_sl si42 rfl) ?_
    refine sv rfl (opv_lss rfl rfl) ?_
    refine snil ?_
    refine ccond rfl (fun hc => ?_) (fun hc => ?_)
    · replace h := ite_t hc h
      clear hc
      refine cseq ?_
      refine cregion ?_
      refine sv rfl (opv_as rfl) ?_
      refine snil ?_
      refine cret ?_
      refine then_ret ?_
      obtain rfl := Option.some.inj h
      refine ⟨Or.inr rfl, _, _, _, (resVs_cons (ResV.tmp _ _ rfl) resVs_nil), (pubA_id rfl), ?_⟩
      rfl
    · replace h := ite_f hc h
      clear hc
      refine cskip ?_
      refine then_normal ?_
      refine cseq ?_
      refine cseq ?_
      refine cregion ?_
      refine sv rfl (opv_mv rfl) ?_
      refine sv rfl (opv_len_sl si42 rfl) ?_
      refine sv rfl (opv_mv rfl) ?_
      refine sv rfl (opv_len_sl si42 rfl) ?_
      refine sv rfl (opv_gtr rfl rfl) ?_
      refine snil ?_
      refine ccond rfl (fun hc => ?_) (fun hc => ?_)
      · replace h := ite_t hc h
        clear hc
        refine cseq ?_
        refine cregion ?_
        refine sv rfl (opv_as rfl) ?_
        refine snil ?_
        refine cret ?_
        refine then_ret ?_
        obtain rfl := Option.some.inj h
        refine ⟨Or.inr rfl, _, _, _, (resVs_cons (ResV.tmp _ _ rfl) resVs_nil), (pubA_id rfl), ?_⟩
        rfl
      · replace h := ite_f hc h
        clear hc
        refine cskip ?_
        refine then_normal ?_
        refine cseq ?_
        refine cregion ?_
        refine sv rfl (opv_as rfl) ?_
        refine snil ?_
        refine cret ?_
        obtain rfl := Option.some.inj h
        refine ⟨Or.inr rfl, _, _, _, (resVs_cons (ResV.tmp _ _ rfl) resVs_nil), (pubA_id rfl), ?_⟩
        rfl
  · skip
    refine cblock ?_
    obtain ⟨x2, hx2, ho2⟩ := bind_eq h
    refine awc_loop (G := Nat × (Int)) (fun g => [(0, .s (.one (.sl a0.length (a0.flatMap eU8)))), (1, .s (.one (.sl a1.length (a1.flatMap eU8)))), (5, .s (.one (.i .i64 g.2)))]) (fun g => []) (fun g => iter (m27_r06_Cmp_s2 a0 a1) g.1 g.2 = some x2) (fun g => g.1) (fuel, 0) hx2 ⟨rfl, rfl, rfl, trivial⟩ [] rfl (fun _ _ => inbL_of rfl) (fun _ _ => blkinb_of rfl) (fun _ _ => Nat.le_of_ble_eq_true rfl) ?_
    clear hx2 h
    rintro ⟨n2, s2⟩ h
    obtain ⟨n2, y2, rfl, h, hk2⟩ := iter_eq h
    unfold m27_r06_Cmp_s2 at h
    refine cseq ?_
    refine cseq ?_
    refine cjoin3 (Unit) (fun b3 => [(0, .s (.one (.sl a0.length (a0.flatMap eU8)))), (1, .s (.one (.sl a1.length (a1.flatMap eU8)))), (5, .s (.one (.i .i64 s2)))]) (fun b3 => []) (fun b3 => m27_r06_Cmp_k3 a0 a1 s2 b3 = some y2) (fun _ _ => inbL_of rfl) (fun _ _ => blkinb_of rfl) (fun _ _ => Nat.le_of_ble_eq_true rfl) (fun b3 h => ?_) ?_
    · unfold m27_r06_Cmp_k3 at h
      refine cseq ?_
      refine cblock ?_
      refine cseq ?_
      refine cseq ?_
      refine cdraw mixed (by kernel_rfl) ?_
      refine dv rfl (opv_mv rfl) ?_
      refine dv rfl (opv_mv rfl) ?_
      obtain ⟨u4, hu4, h⟩ := bind_eq h
      refine dv rfl (opv_ix (f := eU8) si42 (fun _ => rfl) rfl rfl rfl rfl hu4) ?_
      refine dv rfl (opv_load1 ti5 rfl (.cp _) rfl) ?_
      refine dv rfl (opv_mv rfl) ?_
      refine dv rfl (opv_mv rfl) ?_
      obtain ⟨u5, hu5, h⟩ := bind_eq h
      refine dv rfl (opv_ix (f := eU8) si42 (fun _ => rfl) rfl rfl rfl rfl hu5) ?_
      refine dv rfl (opv_load1 ti5 rfl (.cp _) rfl) ?_
      refine dv rfl (opv_lss rfl rfl) ?_
      refine dnil ?_
      refine then_normal ?_
      refine ccond rfl (fun hc => ?_) (fun hc => ?_)
      · replace h := ite_t hc h
        clear hc
        refine cseq ?_
        refine cregion ?_
        refine sv rfl (opv_as rfl) ?_
        refine snil ?_
        refine cret ?_
        refine then_ret ?_
        refine block_ret ?_
        refine then_ret ?_
        refine then_ret ?_
        refine block_ret ?_
        refine then_ret ?_
        obtain rfl := Option.some.inj h
        obtain rfl : Sum.inl _ = x2 := hk2
        replace ho2 : some _ = some _ := ho2
        obtain rfl := Option.some.inj ho2
        refine ⟨Or.inr rfl, _, _, _, (resVs_cons (ResV.tmp _ _ rfl) resVs_nil), (pubA_id rfl), ?_⟩
        rfl
      · replace h := ite_f hc h
        clear hc
        refine cskip ?_
        refine then_normal ?_
        refine cseq ?_
        refine cdraw mixed (by kernel_rfl) ?_
        refine dv rfl (opv_mv rfl) ?_
        refine dv rfl (opv_mv rfl) ?_
        obtain ⟨u6, hu6, h⟩ := bind_eq h
        refine dv rfl (opv_ix (f := eU8) si42 (fun _ => rfl) rfl rfl rfl rfl hu6) ?_
        refine dv rfl (opv_load1 ti5 rfl (.cp _) rfl) ?_
        refine dv rfl (opv_mv rfl) ?_
        refine dv rfl (opv_mv rfl) ?_
        obtain ⟨u7, hu7, h⟩ := bind_eq h
        refine dv rfl (opv_ix (f := eU8) si42 (fun _ => rfl) rfl rfl rfl rfl hu7) ?_
        refine dv rfl (opv_load1 ti5 rfl (.cp _) rfl) ?_
        refine dv rfl (opv_gtr rfl rfl) ?_
        refine dnil ?_
        refine then_normal ?_
        refine ccond rfl (fun hc => ?_) (fun hc => ?_)
        · replace h := ite_t hc h
          clear hc
          refine cseq ?_
          refine cregion ?_
          refine sv rfl (opv_as rfl) ?_
          refine snil ?_
          refine cret ?_
          refine block_ret ?_
          refine then_ret ?_
          refine then_ret ?_
          refine block_ret ?_
          refine then_ret ?_
          obtain rfl := Option.some.inj h
          obtain rfl : Sum.inl _ = x2 := hk2
          replace ho2 : some _ = some _ := ho2
          obtain rfl := Option.some.inj ho2
          refine ⟨Or.inr rfl, _, _, _, (resVs_cons (ResV.tmp _ _ rfl) resVs_nil), (pubA_id rfl), ?_⟩
          rfl
        · replace h := ite_f hc h
          clear hc
          refine cskip ?_
          refine block_normal ?_
          refine then_normal ?_
          refine cregion ?_
          refine sv rfl (opv_mv rfl) ?_
          refine sv rfl (opv_add rfl rfl) ?_
          refine sv rfl (opv_as rfl) ?_
          refine snil ?_
          obtain rfl := Option.some.inj h
          exact ⟨(n2, (wI (s2 + 1))), _, hk2, ⟨rfl, rfl, rfl, trivial⟩, rfl, Nat.lt_succ_self _⟩
    · skip
      refine cregion ?_
      refine sv rfl (opv_mv rfl) ?_
      refine sv rfl (opv_mv rfl) ?_
      refine sv rfl (opv_len_sl si42 rfl) ?_
      refine sv rfl (opv_lss rfl rfl) ?_
      refine sv rfl (opv_mv rfl) ?_
      refine ssplit 10 rfl (fun hc => ?_) (fun hc => ?_)
      · replace h := ite_t hc h
        clear hc
        refine son rfl rfl rfl ?_
        refine sv rfl (opv_mv rfl) ?_
        refine son rfl rfl rfl ?_
        refine sv rfl (opv_mv rfl) ?_
        refine son rfl rfl rfl ?_
        refine sv rfl (opv_len_sl si42 rfl) ?_
        refine son rfl rfl rfl ?_
        refine sv rfl (opv_lss rfl rfl) ?_
        refine sv rfl (opv_pick_t rfl rfl) ?_
        refine snil ?_
        refine ccond rfl (fun hc => ?_) (fun hc => ?_)
        · replace h := ite_t hc h
          clear hc
          refine cskip ?_
          refine then_normal ?_
          exact ⟨(), _, h, ⟨rfl, rfl, rfl, trivial⟩, rfl⟩
        · replace h := ite_f hc h
          clear hc
          refine cexit ?_
          refine then_exit ?_
          refine then_exit ?_
          refine block_hit ?_
          refine then_normal ?_
          obtain rfl := Option.some.inj h
          obtain rfl : _ = x2 := hk2
          exact ⟨(), _, ho2, ⟨rfl, rfl, trivial⟩, rfl⟩
      · replace h := ite_f hc h
        clear hc
        refine soff rfl rfl rfl rfl ?_
        refine soff rfl rfl rfl rfl ?_
        refine soff rfl rfl rfl rfl ?_
        refine soff rfl rfl rfl rfl ?_
        refine sv rfl (opv_pick_f rfl rfl) ?_
        refine snil ?_
        refine ccond rfl (fun hx => Bool.noConfusion hx) (fun _ => ?_)
        refine cexit ?_
        refine then_exit ?_
        refine then_exit ?_
        refine block_hit ?_
        refine then_normal ?_
        obtain rfl := Option.some.inj h
        obtain rfl : _ = x2 := hk2
        exact ⟨(), _, ho2, ⟨rfl, rfl, trivial⟩, rfl⟩

def m12_r09_Rising_k1 (b1 : Unit) : Option Bool :=
  some true

def m12_r09_Rising_s2 (a0 : List GApiKV) (s2 : Int) : Option (LR (Int) (Unit) (Bool)) :=
  if (decide (s2 < (a0.length : Int))) then ((idx a0 (wI (s2 - 1))).bind fun u3 => (idx a0 s2).bind fun u4 => (m27_r06_Cmp u3.Key u4.Key).bind fun v5 => if (decide (0 ≤ v5)) then (some (.ret false)) else (some (.cont (wI (s2 + 1))))) else (some (.brk ()))
def m12_r09_Rising (a0 : List GApiKV) : Option Bool :=
  (iter (m12_r09_Rising_s2 a0) fuel 1).bind fun x => match x with | .inl r => some r | .inr e6 => m12_r09_Rising_k1 e6

set_option maxRecDepth 100000 in
theorem m12_r09_Rising_c {a0 : List GApiKV} {r : Bool} (h : m12_r09_Rising a0 = some r) : CallsA Try.prog 12 [.one (.sl a0.length (a0.flatMap eGApiKV))] (· = .s (.one (.b r))) := by
  unfold m12_r09_Rising at h
  refine callsA_of Try.func12 rfl (nt := 23) rfl (Nat.le_of_ble_eq_true rfl) ?_
  intro w0 S0
  refine cseq ?_
  refine cregion ?_
  refine sv rfl (opv_as rfl) ?_
  refine snil ?_
  refine cseq ?_
  refine cseq ?_
  refine cregion ?_
  refine sv rfl (opv_as rfl) ?_
  refine snil ?_
  refine cjoin (Unit) (fun b1 => []) (fun b1 => []) (fun b1 => m12_r09_Rising_k1 b1 = some r) (fun _ _ => inbL_of rfl) (fun _ _ => blkinb_of rfl) (fun _ _ => Nat.le_of_ble_eq_true rfl) (fun b1 h => ?_) ?_
  · unfold m12_r09_Rising_k1 at h
    refine cseq ?_
    refine cregion ?_
    refine sv rfl (opv_as rfl) ?_
    refine snil ?_
    refine cret ?_
    obtain rfl := Option.some.inj h
    refine ⟨Or.inr rfl, _, _, _, (resVs_cons (ResV.tmp _ _ rfl) resVs_nil), (pubA_id rfl), ?_⟩
    rfl
  · skip
    refine cblock ?_
    obtain ⟨x2, hx2, ho2⟩ := bind_eq h
    refine awc_loop (G := Nat × (Int)) (fun g => [(0, .s (.one (.sl a0.length (a0.flatMap eGApiKV)))), (3, .s (.one (.i .i64 g.2)))]) (fun g => []) (fun g => iter (m12_r09_Rising_s2 a0) g.1 g.2 = some x2) (fun g => g.1) (fuel, 1) hx2 ⟨rfl, rfl, trivial⟩ [] rfl (fun _ _ => inbL_of rfl) (fun _ _ => blkinb_of rfl) (fun _ _ => Nat.le_of_ble_eq_true rfl) ?_
    clear hx2 h
    rintro ⟨n2, s2⟩ h
    obtain ⟨n2, y2, rfl, h, hk2⟩ := iter_eq h
    unfold m12_r09_Rising_s2 at h
    refine cseq ?_
    refine cseq ?_
    refine cregion ?_
    refine sv rfl (opv_mv rfl) ?_
    refine sv rfl (opv_mv rfl) ?_
    refine sv rfl (opv_len_sl si25 rfl) ?_
    refine sv rfl (opv_lss rfl rfl) ?_
    refine snil ?_
    refine ccond rfl (fun hc => ?_) (fun hc => ?_)
    · replace h := ite_t hc h
      clear hc
      refine cskip ?_
      refine then_normal ?_
      refine cseq ?_
      refine cblock ?_
      refine cseq ?_
      refine cdraw mixed (by kernel_rfl) ?_
      refine dv rfl (opv_mv rfl) ?_
      refine dv rfl (opv_mv rfl) ?_
      refine dv rfl (opv_sub rfl rfl) ?_
      obtain ⟨u3, hu3, h⟩ := bind_eq h
      refine dv rfl (opv_ix (f := eGApiKV) si25 (fun _ => rfl) rfl rfl rfl rfl hu3) ?_
      refine dv rfl (opv_fieldAddr_cp fi65_0 rfl) ?_
      refine dv rfl (opv_load1 ti42 rfl (.cp _) rfl) ?_
      refine dv rfl (opv_mv rfl) ?_
      refine dv rfl (opv_mv rfl) ?_
      obtain ⟨u4, hu4, h⟩ := bind_eq h
      refine dv rfl (opv_ix (f := eGApiKV) si25 (fun _ => rfl) rfl rfl rfl rfl hu4) ?_
      refine dv rfl (opv_fieldAddr_cp fi65_0 rfl) ?_
      refine dv rfl (opv_load1 ti42 rfl (.cp _) rfl) ?_
      obtain ⟨v5, hv5, h⟩ := bind_eq h
      refine dd rfl (opD_call fn27 (opnds_cons rfl (opnds_cons rfl opnds_nil)) rfl (m27_r06_Cmp_c hv5)) ?_
      refine dv rfl (opv_geq rfl rfl) ?_
      refine dnil ?_
      refine then_normal ?_
      refine ccond rfl (fun hc => ?_) (fun hc => ?_)
      · replace h := ite_t hc h
        clear hc
        refine cseq ?_
        refine cregion ?_
        refine sv rfl (opv_as rfl) ?_
        refine snil ?_
        refine cret ?_
        refine block_ret ?_
        refine then_ret ?_
        refine then_ret ?_
        refine block_ret ?_
        refine then_ret ?_
        obtain rfl := Option.some.inj h
        obtain rfl : Sum.inl _ = x2 := hk2
        replace ho2 : some _ = some _ := ho2
        obtain rfl := Option.some.inj ho2
        refine ⟨Or.inr rfl, _, _, _, (resVs_cons (ResV.tmp _ _ rfl) resVs_nil), (pubA_id rfl), ?_⟩
        rfl
      · replace h := ite_f hc h
        clear hc
        refine cskip ?_
        refine block_normal ?_
        refine then_normal ?_
        refine cregion ?_
        refine sv rfl (opv_mv rfl) ?_
        refine sv rfl (opv_add rfl rfl) ?_
        refine sv rfl (opv_as rfl) ?_
        refine snil ?_
        obtain rfl := Option.some.inj h
        exact ⟨(n2, (wI (s2 + 1))), _, hk2, ⟨rfl, rfl, trivial⟩, rfl, Nat.lt_succ_self _⟩
    · replace h := ite_f hc h
      clear hc
      refine cexit ?_
      refine then_exit ?_
      refine then_exit ?_
      refine block_hit ?_
      refine then_normal ?_
      obtain rfl := Option.some.inj h
      obtain rfl : _ = x2 := hk2
      exact ⟨(), _, ho2, trivial, rfl⟩

def m13_l19_program_k1 (a0 : GR19Prog) (b1 : (List GProgOp)) : Option GProgProg :=
  some (GProgProg.mk a0.RO b1)

def m13_l19_program_s2 (a0 : GR19Prog) (s2 : Int × (List GProgOp)) : Option (LB (Int × (List GProgOp)) ((List GProgOp))) :=
  if (decide (s2.1 < (a0.Ops.length : Int))) then ((idx a0.Ops s2.1).bind fun u3 => if (s2.2.length + [(GProgOp.mk u3.What u3.A u3.B u3.N u3.Key (GApiRange.mk u3.Rng.Lo u3.Rng.Hi u3.Rng.Open))].length) * 112 ≤ 140737488355328 then (some (.cont ((wI (s2.1 + 1)), (s2.2 ++ [(GProgOp.mk u3.What u3.A u3.B u3.N u3.Key (GApiRange.mk u3.Rng.Lo u3.Rng.Hi u3.Rng.Open))])))) else none) else (some (.brk s2.2))
def m13_l19_program (a0 : GR19Prog) : Option GProgProg :=
  (iterB (m13_l19_program_s2 a0) fuel (0, ([] : List GProgOp))).bind fun e5 => m13_l19_program_k1 a0 e5

set_option maxRecDepth 100000 in
theorem m13_l19_program_c {a0 : GR19Prog} {r : GProgProg} (h : m13_l19_program a0 = some r) : CallsA Try.prog 13 [.agg a0] (· = .s (.agg r)) := by
  unfold m13_l19_program at h
  refine callsA_of Try.func13 rfl (nt := 40) rfl (Nat.le_of_ble_eq_true rfl) ?_
  intro w0 S0
  refine cseq ?_
  refine cregion ?_
  refine sbox rfl rfl ?_
  refine salloc rfl zi31 ?_
  refine snil ?_
  refine cseq ?_
  refine cregion ?_
  refine sv rfl (opv_fieldAddr_lp fi24_0 rfl) ?_
  refine sv rfl (opv_load1 ti4 rfl (.lp _ _ _ rfl) rfl) ?_
  refine sv rfl (opv_build zi31 pi31 (parts_cons rfl parts_nil) (.cons _ _ _ _ _ _ _ rfl rfl (Nat.le_of_ble_eq_true rfl) (.nil _))) ?_
  refine salloc rfl zi31 ?_
  refine sstore sz31 rfl rfl rfl rfl (Nat.le_of_ble_eq_true rfl) ?_
  refine smem [.box a0, .box [.b false, .raw (.slice none 0 0)], .box [.b a0.RO, .raw (.slice none 0 0)]] rfl ?_
  refine snil ?_
  refine cseq ?_
  refine cseq ?_
  refine cregion ?_
  refine sv rfl (opv_as rfl) ?_
  refine snil ?_
  refine sadopt_box_c 71 8 2 1 (by decide) rfl rfl ?_
  refine cjoin ((List GProgOp)) (fun b1 => [(2, .s (.one (.lp 1 0))), (3, .s (.one (.lp 2 0)))]) (fun b1 => [.box a0, .box [.b false, .raw (.slice none 0 0)], .box [.b a0.RO, .ls 3 b1.length], .arr 71 8 0 (b1.flatMap eGProgOp)]) (fun b1 => m13_l19_program_k1 a0 b1 = some r) (fun _ _ => inbL_of rfl) (fun _ _ => blkinb_of rfl) (fun _ _ => Nat.le_of_ble_eq_true rfl) (fun b1 h => ?_) ?_
  · unfold m13_l19_program_k1 at h
    refine cseq ?_
    refine cregion ?_
    refine sv rfl (opv_loadN ti31 rfl (.lp _ _ _ rfl) (Nat.le_of_ble_eq_true rfl)) ?_
    refine sstore sz31 rfl rfl rfl rfl (Nat.le_of_ble_eq_true rfl) ?_
    refine smem [.box a0, .box [.b a0.RO, .ls 3 b1.length], .box [.b a0.RO, .ls 3 b1.length], .arr 71 8 0 (b1.flatMap eGProgOp)] rfl ?_
    refine snil ?_
    refine cret ?_
    obtain rfl := Option.some.inj h
    refine ⟨Or.inr rfl, _, _, _, (resVs_cons (ResV.agg _ _ _ _ _ ti31 rfl (.lp _ _ _ rfl) (Nat.le_of_ble_eq_true rfl)) resVs_nil), (by (repeat' first | exact PubA.nil _ | apply PubA.cons | apply PubV.one | apply PubV.agg | exact PubL.nil | exact PubL.ls _ _ _ _ _ _ rfl (flat_len (f := eGProgOp) (fun _ => rfl) _).symm | exact PubL.id _ rfl | exact PubLs.nil _ | apply PubLs.cons)), ?_⟩
    rfl
  · skip
    refine cblock ?_
    obtain ⟨x2, hx2, ho2⟩ := bind_eq h
    refine awc_loop (G := Nat × (Int × (List GProgOp))) (fun g => [(1, .s (.one (.lp 0 0))), (2, .s (.one (.lp 1 0))), (3, .s (.one (.lp 2 0))), (4, .s (.one (.i .i64 g.2.1)))]) (fun g => [.box a0, .box [.b false, .raw (.slice none 0 0)], .box [.b a0.RO, .ls 3 g.2.2.length], .arr 71 8 0 (g.2.2.flatMap eGProgOp)]) (fun g => iterB (m13_l19_program_s2 a0) g.1 g.2 = some x2) (fun g => g.1) (fuel, (0, ([] : List GProgOp))) hx2 ⟨rfl, rfl, rfl, rfl, trivial⟩ [] rfl (fun _ _ => inbL_of rfl) (fun _ _ => blkinb_of rfl) (fun _ _ => Nat.le_of_ble_eq_true rfl) ?_
    clear hx2 h
    rintro ⟨n2, s2⟩ h
    obtain ⟨n2, y2, rfl, h, hk2⟩ := iterB_eq h
    unfold m13_l19_program_s2 at h
    refine cseq ?_
    refine cseq ?_
    refine cregion ?_
    refine sv rfl (opv_mv rfl) ?_
    refine sv rfl (opv_fieldAddr_lp fi24_1 rfl) ?_
    refine sv rfl (opv_load1 ti22 rfl (.lp _ _ _ rfl) rfl) ?_
    refine sv rfl (opv_len_sl si22 rfl) ?_
    refine sv rfl (opv_lss rfl rfl) ?_
    refine snil ?_
    refine ccond rfl (fun hc => ?_) (fun hc => ?_)
    · replace h := ite_t hc h
      clear hc
      refine cskip ?_
      refine then_normal ?_
      refine cseq ?_
      refine cblock ?_
      refine cseq ?_
      refine cregion ?_
      refine sv rfl (opv_fieldAddr_lp fi24_1 rfl) ?_
      refine sv rfl (opv_load1 ti22 rfl (.lp _ _ _ rfl) rfl) ?_
      refine sv rfl (opv_mv rfl) ?_
      obtain ⟨u3, hu3, h⟩ := bind_eq h
      refine sv rfl (opv_ix (f := eGR19Op) si22 (fun _ => rfl) rfl rfl rfl rfl hu3) ?_
      refine sv rfl (opv_loadNe (ys := [.i .i64 u3.What, .i .i64 u3.A, .i .i64 u3.B, .i .i64 u3.N, .sl u3.Key.length (u3.Key.flatMap eU8), .sl u3.Rng.Lo.length (u3.Rng.Lo.flatMap eU8), .sl u3.Rng.Hi.length (u3.Rng.Hi.flatMap eU8), .b u3.Rng.Open]) ti63 rfl (.cp _) rfl rfl) ?_
      refine salloc rfl zi63 ?_
      refine sstore sz63 rfl rfl rfl rfl (Nat.le_of_ble_eq_true rfl) ?_
      refine smem [.box a0, .box [.b false, .raw (.slice none 0 0)], .box [.b a0.RO, .ls 3 s2.2.length], .arr 71 8 0 (s2.2.flatMap eGProgOp), .box u3] rfl ?_
      refine snil ?_
      refine cregion ?_
      refine sv rfl (opv_fieldAddr_lp fi31_1 rfl) ?_
      refine sv rfl (opv_load1 ti29 rfl (.lp _ _ _ rfl) rfl) ?_
      refine sv rfl (opv_fieldAddr_lp fi63_0 rfl) ?_
      refine sv rfl (opv_load1 ti3 rfl (.lp _ _ _ rfl) rfl) ?_
      refine sv rfl (opv_fieldAddr_lp fi63_1 rfl) ?_
      refine sv rfl (opv_load1 ti3 rfl (.lp _ _ _ rfl) rfl) ?_
      refine sv rfl (opv_fieldAddr_lp fi63_2 rfl) ?_
      refine sv rfl (opv_load1 ti3 rfl (.lp _ _ _ rfl) rfl) ?_
      refine sv rfl (opv_fieldAddr_lp fi63_3 rfl) ?_
      refine sv rfl (opv_load1 ti3 rfl (.lp _ _ _ rfl) rfl) ?_
      refine sv rfl (opv_fieldAddr_lp fi63_4 rfl) ?_
      refine sv rfl (opv_load1 ti42 rfl (.lp _ _ _ rfl) rfl) ?_
      refine sv rfl (opv_fieldAddr_lp fi63_5 rfl) ?_
      refine sv rfl (opv_loadN ti44 rfl (.lp _ _ _ rfl) (Nat.le_of_ble_eq_true rfl)) ?_
      refine sv rfl (opv_build zi71 pi71 (parts_cons rfl (parts_cons rfl (parts_cons rfl (parts_cons rfl (parts_cons rfl (parts_cons rfl parts_nil)))))) (bcons [.i .i64 u3.What, .i .i64 0, .i .i64 0, .i .i64 0, .raw (.slice none 0 0), .raw (.slice none 0 0), .raw (.slice none 0 0), .b false] rfl rfl (Nat.le_of_ble_eq_true rfl) rfl (bcons [.i .i64 u3.What, .i .i64 u3.A, .i .i64 0, .i .i64 0, .raw (.slice none 0 0), .raw (.slice none 0 0), .raw (.slice none 0 0), .b false] rfl rfl (Nat.le_of_ble_eq_true rfl) rfl (bcons [.i .i64 u3.What, .i .i64 u3.A, .i .i64 u3.B, .i .i64 0, .raw (.slice none 0 0), .raw (.slice none 0 0), .raw (.slice none 0 0), .b false] rfl rfl (Nat.le_of_ble_eq_true rfl) rfl (bcons [.i .i64 u3.What, .i .i64 u3.A, .i .i64 u3.B, .i .i64 u3.N, .raw (.slice none 0 0), .raw (.slice none 0 0), .raw (.slice none 0 0), .b false] rfl rfl (Nat.le_of_ble_eq_true rfl) rfl (bcons [.i .i64 u3.What, .i .i64 u3.A, .i .i64 u3.B, .i .i64 u3.N, .sl u3.Key.length (u3.Key.flatMap eU8), .raw (.slice none 0 0), .raw (.slice none 0 0), .b false] rfl rfl (Nat.le_of_ble_eq_true rfl) rfl (bcons [.i .i64 u3.What, .i .i64 u3.A, .i .i64 u3.B, .i .i64 u3.N, .sl u3.Key.length (u3.Key.flatMap eU8), .sl u3.Rng.Lo.length (u3.Rng.Lo.flatMap eU8), .sl u3.Rng.Hi.length (u3.Rng.Hi.flatMap eU8), .b u3.Rng.Open] rfl rfl (Nat.le_of_ble_eq_true rfl) rfl (.nil _)))))))) ?_
      refine sbuild1 rfl Try.underlying29 ei71 rfl rfl (List.all_eq_true.1 rfl) (by decide) ?_
      refine smem [.box a0, .box [.b false, .raw (.slice none 0 0)], .box [.b a0.RO, .ls 3 s2.2.length], .arr 71 8 0 (s2.2.flatMap eGProgOp), .box u3, .arr 71 8 0 ([(GProgOp.mk u3.What u3.A u3.B u3.N u3.Key (GApiRange.mk u3.Rng.Lo u3.Rng.Hi u3.Rng.Open))].flatMap eGProgOp)] rfl ?_
      obtain ⟨hb4, h⟩ := chk_eq h
      refine sapp (f := eGProgOp) (xs := s2.2) (us := [(GProgOp.mk u3.What u3.A u3.B u3.N u3.Key (GApiRange.mk u3.Rng.Lo u3.Rng.Hi u3.Rng.Open))]) rfl Try.underlying29 ei71 ni29 (fun _ => rfl) rfl rfl (.one _ _ _ _ (.ls _ _ _ _ _ _ rfl (flat_len (f := eGProgOp) (fun _ => rfl) [(GProgOp.mk u3.What u3.A u3.B u3.N u3.Key (GApiRange.mk u3.Rng.Lo u3.Rng.Hi u3.Rng.Open))]).symm)) rfl rfl rfl (.sl _ _ _ (flat_len (f := eGProgOp) (fun _ => rfl) _)) rfl rfl hb4 (by decide) ?_
      refine sv rfl (opv_fieldAddr_lp fi31_1 rfl) ?_
      refine sstore sz29 rfl rfl rfl rfl (Nat.le_of_ble_eq_true rfl) ?_
      refine smem [.box a0, .box [.b false, .raw (.slice none 0 0)], .box [.b a0.RO, .ls 3 (s2.2 ++ [(GProgOp.mk u3.What u3.A u3.B u3.N u3.Key (GApiRange.mk u3.Rng.Lo u3.Rng.Hi u3.Rng.Open))]).length], .arr 71 8 0 ((s2.2 ++ [(GProgOp.mk u3.What u3.A u3.B u3.N u3.Key (GApiRange.mk u3.Rng.Lo u3.Rng.Hi u3.Rng.Open))]).flatMap eGProgOp), .box u3, .arr 71 8 ([(GProgOp.mk u3.What u3.A u3.B u3.N u3.Key (GApiRange.mk u3.Rng.Lo u3.Rng.Hi u3.Rng.Open))].flatMap eGProgOp).length ([(GProgOp.mk u3.What u3.A u3.B u3.N u3.Key (GApiRange.mk u3.Rng.Lo u3.Rng.Hi u3.Rng.Open))].flatMap eGProgOp)] rfl ?_
      refine snil0 ?_
      refine block_normal ?_
      refine then_normal ?_
      refine cregion ?_
      refine sv rfl (opv_mv rfl) ?_
      refine sv rfl (opv_add rfl rfl) ?_
      refine sv rfl (opv_as rfl) ?_
      refine snil ?_
      obtain rfl := Option.some.inj h
      exact ⟨(n2, ((wI (s2.1 + 1)), (s2.2 ++ [(GProgOp.mk u3.What u3.A u3.B u3.N u3.Key (GApiRange.mk u3.Rng.Lo u3.Rng.Hi u3.Rng.Open))]))), _, hk2, ⟨rfl, rfl, rfl, rfl, trivial⟩, rfl, Nat.lt_succ_self _⟩
    · replace h := ite_f hc h
      clear hc
      refine cexit ?_
      refine then_exit ?_
      refine then_exit ?_
      refine block_hit ?_
      refine then_normal ?_
      obtain rfl := Option.some.inj h
      obtain rfl : _ = x2 := hk2
      exact ⟨s2.2, _, ho2, ⟨rfl, rfl, trivial⟩, rfl⟩

def m16_r05_KVs_k1 (b1 : Unit) : Option Bool :=
  some true

def m16_r05_KVs_s2 (a0 : List GApiKV) (a1 : List GApiKV) (s2 : Int) : Option (LR (Int) (Unit) (Bool)) :=
  if (decide (s2 < (a0.length : Int))) then ((idx a0 s2).bind fun u3 => (idx a1 s2).bind fun u4 => if (!(u3.Key == u4.Key)) then (some (.ret false)) else ((idx a0 s2).bind fun u5 => (idx a1 s2).bind fun u6 => if (!(u5.Val == u6.Val)) then (some (.ret false)) else (some (.cont (wI (s2 + 1)))))) else (some (.brk ()))
def m16_r05_KVs (a0 : List GApiKV) (a1 : List GApiKV) : Option Bool :=
  if (!decide ((a0.length : Int) = (a1.length : Int))) then (some false) else ((iter (m16_r05_KVs_s2 a0 a1) fuel 0).bind fun x => match x with | .inl r => some r | .inr e7 => m16_r05_KVs_k1 e7)

set_option maxRecDepth 100000 in
theorem m16_r05_KVs_c {a0 : List GApiKV} {a1 : List GApiKV} {r : Bool} (h : m16_r05_KVs a0 a1 = some r) : CallsA Try.prog 16 [.one (.sl a0.length (a0.flatMap eGApiKV)), .one (.sl a1.length (a1.flatMap eGApiKV))] (· = .s (.one (.b r))) := by
  unfold m16_r05_KVs at h
  refine callsA_of Try.func16 rfl (nt := 45) rfl (Nat.le_of_ble_eq_true rfl) ?_
  intro w0 S0
  refine cseq ?_
  refine cregion ?_
  refine sv rfl (opv_as rfl) ?_
  refine snil ?_
  refine cseq ?_
  refine cseq ?_
  refine cregion ?_
  refine sv rfl (opv_mv rfl) ?_
  refine sv rfl (opv_len_sl si25 rfl) ?_
  refine sv rfl (opv_mv rfl) ?_
  refine sv rfl (opv_len_sl si25 rfl) ?_
  refine sv rfl (opv_ineq rfl rfl) ?_
  refine snil ?_
  refine ccond rfl (fun hc => ?_) (fun hc => ?_)
  · replace h := ite_t hc h
    clear hc
    refine cseq ?_
    refine cregion ?_
    refine sv rfl (opv_as rfl) ?_
    refine snil ?_
    refine cret ?_
    refine then_ret ?_
    obtain rfl := Option.some.inj h
    refine ⟨Or.inr rfl, _, _, _, (resVs_cons (ResV.tmp _ _ rfl) resVs_nil), (pubA_id rfl), ?_⟩
    rfl
  · replace h := ite_f hc h
    clear hc
    refine cskip ?_
    refine then_normal ?_
    refine cseq ?_
    refine cseq ?_
    refine cregion ?_
    refine sv rfl (opv_as rfl) ?_
    refine snil ?_
    refine cjoin (Unit) (fun b1 => []) (fun b1 => []) (fun b1 => m16_r05_KVs_k1 b1 = some r) (fun _ _ => inbL_of rfl) (fun _ _ => blkinb_of rfl) (fun _ _ => Nat.le_of_ble_eq_true rfl) (fun b1 h => ?_) ?_
    · unfold m16_r05_KVs_k1 at h
      refine cseq ?_
      refine cregion ?_
      refine sv rfl (opv_as rfl) ?_
      refine snil ?_
      refine cret ?_
      obtain rfl := Option.some.inj h
      refine ⟨Or.inr rfl, _, _, _, (resVs_cons (ResV.tmp _ _ rfl) resVs_nil), (pubA_id rfl), ?_⟩
      rfl
    · skip
      refine cblock ?_
      obtain ⟨x2, hx2, ho2⟩ := bind_eq h
      refine awc_loop (G := Nat × (Int)) (fun g => [(0, .s (.one (.sl a0.length (a0.flatMap eGApiKV)))), (1, .s (.one (.sl a1.length (a1.flatMap eGApiKV)))), (5, .s (.one (.i .i64 g.2)))]) (fun g => []) (fun g => iter (m16_r05_KVs_s2 a0 a1) g.1 g.2 = some x2) (fun g => g.1) (fuel, 0) hx2 ⟨rfl, rfl, rfl, trivial⟩ [] rfl (fun _ _ => inbL_of rfl) (fun _ _ => blkinb_of rfl) (fun _ _ => Nat.le_of_ble_eq_true rfl) ?_
      clear hx2 h
      rintro ⟨n2, s2⟩ h
      obtain ⟨n2, y2, rfl, h, hk2⟩ := iter_eq h
      unfold m16_r05_KVs_s2 at h
      refine cseq ?_
      refine cseq ?_
      refine cregion ?_
      refine sv rfl (opv_mv rfl) ?_
      refine sv rfl (opv_mv rfl) ?_
      refine sv rfl (opv_len_sl si25 rfl) ?_
      refine sv rfl (opv_lss rfl rfl) ?_
      refine snil ?_
      refine ccond rfl (fun hc => ?_) (fun hc => ?_)
      · replace h := ite_t hc h
        clear hc
        refine cskip ?_
        refine then_normal ?_
        refine cseq ?_
        refine cblock ?_
        refine cseq ?_
        refine cdraw mixed (by kernel_rfl) ?_
        refine dv rfl (opv_mv rfl) ?_
        refine dv rfl (opv_mv rfl) ?_
        obtain ⟨u3, hu3, h⟩ := bind_eq h
        refine dv rfl (opv_ix (f := eGApiKV) si25 (fun _ => rfl) rfl rfl rfl rfl hu3) ?_
        refine dv rfl (opv_fieldAddr_cp fi65_0 rfl) ?_
        refine dv rfl (opv_load1 ti42 rfl (.cp _) rfl) ?_
        refine dv rfl (opv_bs (l := u3.Key) Try.underlying42 Try.underlying5 Try.underlying9 rfl rfl rfl) ?_
        refine dv rfl (opv_mv rfl) ?_
        refine dv rfl (opv_mv rfl) ?_
        obtain ⟨u4, hu4, h⟩ := bind_eq h
        refine dv rfl (opv_ix (f := eGApiKV) si25 (fun _ => rfl) rfl rfl rfl rfl hu4) ?_
        refine dv rfl (opv_fieldAddr_cp fi65_0 rfl) ?_
        refine dv rfl (opv_load1 ti42 rfl (.cp _) rfl) ?_
        refine dv rfl (opv_bs (l := u4.Key) Try.underlying42 Try.underlying5 Try.underlying9 rfl rfl rfl) ?_
        refine dv rfl (opv_sneq' rfl rfl) ?_
        refine dv rfl (opv_mv rfl) ?_
        refine dsplit 30 rfl (fun hc => ?_) (fun hc => ?_)
        · replace h := ite_t hc h
          clear hc
          refine doff rfl rfl rfl rfl ?_
          refine doff rfl rfl rfl rfl ?_
          refine doff rfl rfl rfl rfl ?_
          refine doff rfl rfl rfl rfl ?_
          refine doff rfl rfl rfl rfl ?_
          refine doff rfl rfl rfl rfl ?_
          refine doff rfl rfl rfl rfl ?_
          refine doff rfl rfl rfl rfl ?_
          refine doff rfl rfl rfl rfl ?_
          refine doff rfl rfl rfl rfl ?_
          refine doff rfl rfl rfl rfl ?_
          refine doff rfl rfl rfl rfl ?_
          refine doff rfl rfl rfl rfl ?_
          refine dv rfl (opv_pick_t rfl rfl) ?_
          refine dnil ?_
          refine then_normal ?_
          refine ccond rfl (fun _ => ?_) (fun hx => Bool.noConfusion hx)
          refine cseq ?_
          refine cregion ?_
          refine sv rfl (opv_as rfl) ?_
          refine snil ?_
          refine cret ?_
          refine block_ret ?_
          refine then_ret ?_
          refine then_ret ?_
          refine block_ret ?_
          refine then_ret ?_
          obtain rfl := Option.some.inj h
          obtain rfl : Sum.inl _ = x2 := hk2
          replace ho2 : some _ = some _ := ho2
          obtain rfl := Option.some.inj ho2
          refine ⟨Or.inr rfl, _, _, _, (resVs_cons (ResV.tmp _ _ rfl) resVs_nil), (pubA_id rfl), ?_⟩
          rfl
        · replace h := ite_f hc h
          clear hc
          refine dvg rfl rfl rfl (opv_mv rfl) ?_
          refine dvg rfl rfl rfl (opv_mv rfl) ?_
          obtain ⟨u5, hu5, h⟩ := bind_eq h
          refine dvg rfl rfl rfl (opv_ix (f := eGApiKV) si25 (fun _ => rfl) rfl rfl rfl rfl hu5) ?_
          refine dvg rfl rfl rfl (opv_fieldAddr_cp fi65_1 rfl) ?_
          refine dvg rfl rfl rfl (opv_load1 ti42 rfl (.cp _) rfl) ?_
          refine dvg rfl rfl rfl (opv_bs (l := u5.Val) Try.underlying42 Try.underlying5 Try.underlying9 rfl rfl rfl) ?_
          refine dvg rfl rfl rfl (opv_mv rfl) ?_
          refine dvg rfl rfl rfl (opv_mv rfl) ?_
          obtain ⟨u6, hu6, h⟩ := bind_eq h
          refine dvg rfl rfl rfl (opv_ix (f := eGApiKV) si25 (fun _ => rfl) rfl rfl rfl rfl hu6) ?_
          refine dvg rfl rfl rfl (opv_fieldAddr_cp fi65_1 rfl) ?_
          refine dvg rfl rfl rfl (opv_load1 ti42 rfl (.cp _) rfl) ?_
          refine dvg rfl rfl rfl (opv_bs (l := u6.Val) Try.underlying42 Try.underlying5 Try.underlying9 rfl rfl rfl) ?_
          refine dvg rfl rfl rfl (opv_sneq' rfl rfl) ?_
          refine dv rfl (opv_pick_f rfl rfl) ?_
          refine dnil ?_
          refine then_normal ?_
          refine ccond rfl (fun hc => ?_) (fun hc => ?_)
          · replace h := ite_t hc h
            clear hc
            refine cseq ?_
            refine cregion ?_
            refine sv rfl (opv_as rfl) ?_
            refine snil ?_
            refine cret ?_
            refine block_ret ?_
            refine then_ret ?_
            refine then_ret ?_
            refine block_ret ?_
            refine then_ret ?_
            obtain rfl := Option.some.inj h
            obtain rfl : Sum.inl _ = x2 := hk2
            replace ho2 : some _ = some _ := ho2
            obtain rfl := Option.some.inj ho2
            refine ⟨Or.inr rfl, _, _, _, (resVs_cons (ResV.tmp _ _ rfl) resVs_nil), (pubA_id rfl), ?_⟩
            rfl
          · replace h := ite_f hc h
            clear hc
            refine cskip ?_
            refine block_normal ?_
            refine then_normal ?_
            refine cregion ?_
            refine sv rfl (opv_mv rfl) ?_
            refine sv rfl (opv_add rfl rfl) ?_
            refine sv rfl (opv_as rfl) ?_
            refine snil ?_
            obtain rfl := Option.some.inj h
            exact ⟨(n2, (wI (s2 + 1))), _, hk2, ⟨rfl, rfl, rfl, trivial⟩, rfl, Nat.lt_succ_self _⟩
      · replace h := ite_f hc h
        clear hc
        refine cexit ?_
        refine then_exit ?_
        refine then_exit ?_
        refine block_hit ?_
        refine then_normal ?_
        obtain rfl := Option.some.inj h
        obtain rfl : _ = x2 := hk2
        exact ⟨(), _, ho2, trivial, rfl⟩

def m17_l19_stated (a0 : GProgState) : Option GR19State :=
  some (GR19State.mk a0.PC (GAnon33.mk a0.Regs.R0 a0.Regs.R1 a0.Regs.R2 a0.Regs.R3 a0.Regs.R4 a0.Regs.R5 a0.Regs.R6 a0.Regs.R7) a0.Stopped)

set_option maxRecDepth 100000 in
theorem m17_l19_stated_c {a0 : GProgState} {r : GR19State} (h : m17_l19_stated a0 = some r) : CallsA Try.prog 17 [.agg a0] (· = .s (.agg r)) := by
  unfold m17_l19_stated at h
  refine callsA_of Try.func17 rfl (nt := 10) rfl (Nat.le_of_ble_eq_true rfl) ?_
  intro w0 S0
  refine cseq ?_
  refine cregion ?_
  refine sbox rfl rfl ?_
  refine salloc rfl zi40 ?_
  refine snil ?_
  refine cseq ?_
  refine cregion ?_
  refine sv rfl (opv_fieldAddr_lp fi35_0 rfl) ?_
  refine sv rfl (opv_load1 ti3 rfl (.lp _ _ _ rfl) rfl) ?_
  refine sv rfl (opv_fieldAddr_lp fi35_1 rfl) ?_
  refine sv rfl (opv_loadN ti33 rfl (.lp _ _ _ rfl) (Nat.le_of_ble_eq_true rfl)) ?_
  refine sv rfl (opv_fieldAddr_lp fi35_2 rfl) ?_
  refine sv rfl (opv_load1 ti4 rfl (.lp _ _ _ rfl) rfl) ?_
  refine sv rfl (opv_build zi40 pi40 (parts_cons rfl (parts_cons rfl (parts_cons rfl parts_nil))) (.cons _ _ _ _ _ _ _ rfl rfl (Nat.le_of_ble_eq_true rfl) (.cons _ _ _ _ _ _ _ rfl rfl (Nat.le_of_ble_eq_true rfl) (.cons _ _ _ _ _ _ _ rfl rfl (Nat.le_of_ble_eq_true rfl) (.nil _))))) ?_
  refine sstore sz40 rfl rfl rfl rfl (Nat.le_of_ble_eq_true rfl) ?_
  refine smem [.box a0, .box a0] rfl ?_
  refine snil ?_
  refine cret ?_
  obtain rfl := Option.some.inj h
  refine ⟨Or.inr rfl, _, _, _, (resVs_cons (ResV.agg _ _ _ _ _ ti40 rfl (.lp _ _ _ rfl) (Nat.le_of_ble_eq_true rfl)) resVs_nil), (pubA_id rfl), ?_⟩
  rfl

def m35_r06_Has (a0 : GApiRange) (a1 : List UInt8) : Option Bool :=
  (m27_r06_Cmp a1 a0.Lo).bind fun v1 => if (decide (0 ≤ v1)) then (if a0.Open then (some true) else ((m27_r06_Cmp a1 a0.Hi).bind fun v2 => some (decide (v2 < 0)))) else (some false)

set_option maxRecDepth 100000 in
theorem m35_r06_Has_c {a0 : GApiRange} {a1 : List UInt8} {r : Bool} (h : m35_r06_Has a0 a1 = some r) : CallsA Try.prog 35 [.agg a0, .one (.sl a1.length (a1.flatMap eU8))] (· = .s (.one (.b r))) := by
  unfold m35_r06_Has at h
  refine callsA_of Try.func35 rfl (nt := 21) rfl (Nat.le_of_ble_eq_true rfl) ?_
  intro w0 S0
  refine cseq ?_
  refine cregion ?_
  refine sbox rfl rfl ?_
  refine sv rfl (opv_as rfl) ?_
  refine snil ?_
  refine cseq ?_
  refine cregion ?_
  refine sv rfl (opv_mv rfl) ?_
  refine sv rfl (opv_fieldAddr_lp fi44_0 rfl) ?_
  refine sv rfl (opv_load1 ti42 rfl (.lp _ _ _ rfl) rfl) ?_
  obtain ⟨v1, hv1, h⟩ := bind_eq h
  refine scall1 rfl fn27 (opnds_cons rfl (opnds_cons rfl opnds_nil)) (pubA_id rfl) (m27_r06_Cmp_c hv1) ?_
  refine sv rfl (opv_geq rfl rfl) ?_
  refine sv rfl (opv_mv rfl) ?_
  refine ssplit 10 rfl (fun hc => ?_) (fun hc => ?_)
  · replace h := ite_t hc h
    clear hc
    refine son rfl rfl rfl ?_
    refine sv rfl (opv_fieldAddr_lp fi44_2 rfl) ?_
    refine son rfl rfl rfl ?_
    refine sv rfl (opv_load1 ti4 rfl (.lp _ _ _ rfl) rfl) ?_
    refine son rfl rfl rfl ?_
    refine sv rfl (opv_mv rfl) ?_
    refine ssplit 13 rfl (fun hc => ?_) (fun hc => ?_)
    · replace h := ite_t hc h
      clear hc
      refine soff rfl rfl rfl rfl ?_
      refine soff rfl rfl rfl rfl ?_
      refine soff rfl rfl rfl rfl ?_
      refine soff rfl rfl rfl rfl ?_
      refine soff rfl rfl rfl rfl ?_
      refine son rfl rfl rfl ?_
      refine sv rfl (opv_pick_t rfl rfl) ?_
      refine sv rfl (opv_pick_t rfl rfl) ?_
      refine sv rfl (opv_as rfl) ?_
      refine snil ?_
      refine cret ?_
      obtain rfl := Option.some.inj h
      refine ⟨Or.inr rfl, _, _, _, (resVs_cons (ResV.tmp _ _ rfl) resVs_nil), (pubA_id rfl), ?_⟩
      rfl
    · replace h := ite_f hc h
      clear hc
      refine son rfl rfl rfl ?_
      refine sv rfl (opv_mv rfl) ?_
      refine son rfl rfl rfl ?_
      refine sv rfl (opv_fieldAddr_lp fi44_1 rfl) ?_
      refine son rfl rfl rfl ?_
      refine sv rfl (opv_load1 ti42 rfl (.lp _ _ _ rfl) rfl) ?_
      refine son rfl rfl rfl ?_
      obtain ⟨v2, hv2, h⟩ := bind_eq h
      refine scall1 rfl fn27 (opnds_cons rfl (opnds_cons rfl opnds_nil)) (pubA_id rfl) (m27_r06_Cmp_c hv2) ?_
      refine son rfl rfl rfl ?_
      refine sv rfl (opv_lss rfl rfl) ?_
      refine son rfl rfl rfl ?_
      refine sv rfl (opv_pick_f rfl rfl) ?_
      refine sv rfl (opv_pick_t rfl rfl) ?_
      refine sv rfl (opv_as rfl) ?_
      refine snil ?_
      refine cret ?_
      obtain rfl := Option.some.inj h
      refine ⟨Or.inr rfl, _, _, _, (resVs_cons (ResV.tmp _ _ rfl) resVs_nil), (pubA_id rfl), ?_⟩
      rfl
  · replace h := ite_f hc h
    clear hc
    refine soff rfl rfl rfl rfl ?_
    refine soff rfl rfl rfl rfl ?_
    refine soff rfl rfl rfl rfl ?_
    refine soffu rfl rfl rfl ?_
    refine soffu rfl rfl rfl ?_
    refine soffu rfl rfl rfl ?_
    refine soffu rfl rfl rfl ?_
    refine soffu rfl rfl rfl ?_
    refine soff rfl rfl rfl rfl ?_
    refine sv rfl (opv_pick_f rfl rfl) ?_
    refine sv rfl (opv_as rfl) ?_
    refine snil ?_
    refine cret ?_
    obtain rfl := Option.some.inj h
    refine ⟨Or.inr rfl, _, _, _, (resVs_cons (ResV.tmp _ _ rfl) resVs_nil), (pubA_id rfl), ?_⟩
    rfl

def m80_r06_Sane (a0 : List UInt8) : Option Bool :=
  if (decide (1 ≤ (a0.length : Int))) then (some (decide ((a0.length : Int) ≤ 16))) else (some false)

set_option maxRecDepth 100000 in
theorem m80_r06_Sane_c {a0 : List UInt8} {r : Bool} (h : m80_r06_Sane a0 = some r) : CallsA Try.prog 80 [.one (.sl a0.length (a0.flatMap eU8))] (· = .s (.one (.b r))) := by
  unfold m80_r06_Sane at h
  refine callsA_of Try.func80 rfl (nt := 11) rfl (Nat.le_of_ble_eq_true rfl) ?_
  intro w0 S0
  refine cseq ?_
  refine cregion ?_
  refine sv rfl (opv_as rfl) ?_
  refine snil ?_
  refine cseq ?_
  refine cregion ?_
  refine sv rfl (opv_mv rfl) ?_
  refine sv rfl (opv_len_sl si42 rfl) ?_
  refine sv rfl (opv_geq rfl rfl) ?_
  refine sv rfl (opv_mv rfl) ?_
  refine ssplit 6 rfl (fun hc => ?_) (fun hc => ?_)
  · replace h := ite_t hc h
    clear hc
    refine son rfl rfl rfl ?_
    refine sv rfl (opv_mv rfl) ?_
    refine son rfl rfl rfl ?_
    refine sv rfl (opv_len_sl si42 rfl) ?_
    refine son rfl rfl rfl ?_
    refine sv rfl (opv_leq rfl rfl) ?_
    refine sv rfl (opv_pick_t rfl rfl) ?_
    refine sv rfl (opv_as rfl) ?_
    refine snil ?_
    refine cret ?_
    obtain rfl := Option.some.inj h
    refine ⟨Or.inr rfl, _, _, _, (resVs_cons (ResV.tmp _ _ rfl) resVs_nil), (pubA_id rfl), ?_⟩
    rfl
  · replace h := ite_f hc h
    clear hc
    refine soff rfl rfl rfl rfl ?_
    refine soff rfl rfl rfl rfl ?_
    refine soff rfl rfl rfl rfl ?_
    refine sv rfl (opv_pick_f rfl rfl) ?_
    refine sv rfl (opv_as rfl) ?_
    refine snil ?_
    refine cret ?_
    obtain rfl := Option.some.inj h
    refine ⟨Or.inr rfl, _, _, _, (resVs_cons (ResV.tmp _ _ rfl) resVs_nil), (pubA_id rfl), ?_⟩
    rfl

def m67_r08_Writes_k1 (b1 : Unit) : Option Bool :=
  some true

def m67_r08_Writes_s2 (a0 : List GApiWrite) (s2 : Int) : Option (LR (Int) (Unit) (Bool)) :=
  if (decide (s2 < (a0.length : Int))) then ((idx a0 s2).bind fun u3 => (m80_r06_Sane u3.Key).bind fun v4 => if (!v4) then (some (.ret false)) else (if (decide (0 < s2)) then ((idx a0 (wI (s2 - 1))).bind fun u5 => (m27_r06_Cmp u5.Key u3.Key).bind fun v6 => if (decide (0 ≤ v6)) then (some (.ret false)) else (if (decide (32 < (u3.Val.length : Int))) then (some (.ret false)) else (if u3.Del then (if (decide (0 < (u3.Val.length : Int))) then (some (.ret false)) else (some (.cont (wI (s2 + 1))))) else (some (.cont (wI (s2 + 1))))))) else (if (decide (32 < (u3.Val.length : Int))) then (some (.ret false)) else (if u3.Del then (if (decide (0 < (u3.Val.length : Int))) then (some (.ret false)) else (some (.cont (wI (s2 + 1))))) else (some (.cont (wI (s2 + 1)))))))) else (some (.brk ()))
def m67_r08_Writes (a0 : List GApiWrite) : Option Bool :=
  (iter (m67_r08_Writes_s2 a0) fuel 0).bind fun x => match x with | .inl r => some r | .inr e7 => m67_r08_Writes_k1 e7

set_option maxRecDepth 100000 in
theorem m67_r08_Writes_c {a0 : List GApiWrite} {r : Bool} (h : m67_r08_Writes a0 = some r) : CallsA Try.prog 67 [.one (.sl a0.length (a0.flatMap eGApiWrite))] (· = .s (.one (.b r))) := by
  unfold m67_r08_Writes at h
  refine callsA_of Try.func67 rfl (nt := 51) rfl (Nat.le_of_ble_eq_true rfl) ?_
  intro w0 S0
  refine cseq ?_
  refine cregion ?_
  refine sv rfl (opv_as rfl) ?_
  refine snil ?_
  refine cseq ?_
  refine cseq ?_
  refine cregion ?_
  refine sv rfl (opv_as rfl) ?_
  refine snil ?_
  refine cjoin (Unit) (fun b1 => []) (fun b1 => []) (fun b1 => m67_r08_Writes_k1 b1 = some r) (fun _ _ => inbL_of rfl) (fun _ _ => blkinb_of rfl) (fun _ _ => Nat.le_of_ble_eq_true rfl) (fun b1 h => ?_) ?_
  · unfold m67_r08_Writes_k1 at h
    refine cseq ?_
    refine cregion ?_
    refine sv rfl (opv_as rfl) ?_
    refine snil ?_
    refine cret ?_
    obtain rfl := Option.some.inj h
    refine ⟨Or.inr rfl, _, _, _, (resVs_cons (ResV.tmp _ _ rfl) resVs_nil), (pubA_id rfl), ?_⟩
    rfl
  · skip
    refine cblock ?_
    obtain ⟨x2, hx2, ho2⟩ := bind_eq h
    refine awc_loop (G := Nat × (Int)) (fun g => [(0, .s (.one (.sl a0.length (a0.flatMap eGApiWrite)))), (3, .s (.one (.i .i64 g.2)))]) (fun g => []) (fun g => iter (m67_r08_Writes_s2 a0) g.1 g.2 = some x2) (fun g => g.1) (fuel, 0) hx2 ⟨rfl, rfl, trivial⟩ [] rfl (fun _ _ => inbL_of rfl) (fun _ _ => blkinb_of rfl) (fun _ _ => Nat.le_of_ble_eq_true rfl) ?_
    clear hx2 h
    rintro ⟨n2, s2⟩ h
    obtain ⟨n2, y2, rfl, h, hk2⟩ := iter_eq h
    unfold m67_r08_Writes_s2 at h
    refine cseq ?_
    refine cseq ?_
    refine cregion ?_
    refine sv rfl (opv_mv rfl) ?_
    refine sv rfl (opv_mv rfl) ?_
    refine sv rfl (opv_len_sl si74 rfl) ?_
    refine sv rfl (opv_lss rfl rfl) ?_
    refine snil ?_
    refine ccond rfl (fun hc => ?_) (fun hc => ?_)
    · replace h := ite_t hc h
      clear hc
      refine cskip ?_
      refine then_normal ?_
      refine cseq ?_
      refine cblock ?_
      refine cseq ?_
      refine cregion ?_
      refine sv rfl (opv_mv rfl) ?_
      refine sv rfl (opv_mv rfl) ?_
      obtain ⟨u3, hu3, h⟩ := bind_eq h
      refine sv rfl (opv_ix (f := eGApiWrite) si74 (fun _ => rfl) rfl rfl rfl rfl hu3) ?_
      refine sv rfl (opv_loadNe (ys := [.sl u3.Key.length (u3.Key.flatMap eU8), .sl u3.Val.length (u3.Val.flatMap eU8), .b u3.Del]) ti88 rfl (.cp _) rfl rfl) ?_
      refine salloc rfl zi88 ?_
      refine sstore sz88 rfl rfl rfl rfl (Nat.le_of_ble_eq_true rfl) ?_
      refine smem [.box u3] rfl ?_
      refine snil ?_
      refine cseq ?_
      refine cdraw mixed (by kernel_rfl) ?_
      refine dv rfl (opv_fieldAddr_lp fi88_0 rfl) ?_
      refine dv rfl (opv_load1 ti42 rfl (.lp _ _ _ rfl) rfl) ?_
      obtain ⟨v4, hv4, h⟩ := bind_eq h
      refine dd rfl (opD_call fn80 (opnds_cons rfl opnds_nil) rfl (m80_r06_Sane_c hv4)) ?_
      refine dv rfl (opv_not rfl) ?_
      refine dv rfl (opv_mv rfl) ?_
      refine dsplit 19 rfl (fun hc => ?_) (fun hc => ?_)
      · replace h := ite_t hc h
        clear hc
        refine doff rfl rfl rfl rfl ?_
        refine doff rfl rfl rfl rfl ?_
        refine doff rfl rfl rfl rfl ?_
        refine doffu rfl rfl rfl ?_
        refine doffu rfl rfl rfl ?_
        refine doffu rfl rfl rfl ?_
        refine doffu rfl rfl rfl ?_
        refine doffu rfl rfl rfl ?_
        refine doffu rfl rfl rfl ?_
        refine doffu rfl rfl rfl ?_
        refine doffu rfl rfl rfl ?_
        refine doffu rfl rfl rfl ?_
        refine doffu rfl rfl rfl ?_
        refine doff rfl rfl rfl rfl ?_
        refine dv rfl (opv_pick_t rfl rfl) ?_
        refine dv rfl (opv_mv rfl) ?_
        refine doff rfl rfl rfl rfl ?_
        refine doff rfl rfl rfl rfl ?_
        refine doff rfl rfl rfl rfl ?_
        refine doff rfl rfl rfl rfl ?_
        refine dv rfl (opv_pick_t rfl rfl) ?_
        refine dv rfl (opv_mv rfl) ?_
        refine doff rfl rfl rfl rfl ?_
        refine doff rfl rfl rfl rfl ?_
        refine doff rfl rfl rfl rfl ?_
        refine doffu rfl rfl rfl ?_
        refine doffu rfl rfl rfl ?_
        refine doffu rfl rfl rfl ?_
        refine doffu rfl rfl rfl ?_
        refine doff rfl rfl rfl rfl ?_
        refine dv rfl (opv_pick_t rfl rfl) ?_
        refine dnil ?_
        refine then_normal ?_
        refine ccond rfl (fun _ => ?_) (fun hx => Bool.noConfusion hx)
        refine cseq ?_
        refine cregion ?_
        refine sv rfl (opv_as rfl) ?_
        refine snil ?_
        refine cret ?_
        refine block_ret ?_
        refine then_ret ?_
        refine then_ret ?_
        refine block_ret ?_
        refine then_ret ?_
        obtain rfl := Option.some.inj h
        obtain rfl : Sum.inl _ = x2 := hk2
        replace ho2 : some _ = some _ := ho2
        obtain rfl := Option.some.inj ho2
        refine ⟨Or.inr rfl, _, _, _, (resVs_cons (ResV.tmp _ _ rfl) resVs_nil), (pubA_id rfl), ?_⟩
        rfl
      · replace h := ite_f hc h
        clear hc
        refine dvg rfl rfl rfl (opv_mv rfl) ?_
        refine dvg rfl rfl rfl (opv_gtr rfl rfl) ?_
        refine dvg rfl rfl rfl (opv_mv rfl) ?_
        refine dsplit 22 rfl (fun hc => ?_) (fun hc => ?_)
        · replace h := ite_t hc h
          clear hc
          refine dvg rfl rfl rfl (opv_mv rfl) ?_
          refine dvg rfl rfl rfl (opv_mv rfl) ?_
          refine dvg rfl rfl rfl (opv_sub rfl rfl) ?_
          obtain ⟨u5, hu5, h⟩ := bind_eq h
          refine dvg rfl rfl rfl (opv_ix (f := eGApiWrite) si74 (fun _ => rfl) rfl rfl rfl rfl hu5) ?_
          refine dvg rfl rfl rfl (opv_fieldAddr_cp fi88_0 rfl) ?_
          refine dvg rfl rfl rfl (opv_load1 ti42 rfl (.cp _) rfl) ?_
          refine dvg rfl rfl rfl (opv_fieldAddr_lp fi88_0 rfl) ?_
          refine dvg rfl rfl rfl (opv_load1 ti42 rfl (.lp _ _ _ rfl) rfl) ?_
          obtain ⟨v6, hv6, h⟩ := bind_eq h
          refine ddg rfl rfl rfl (opD_call fn27 (opnds_cons rfl (opnds_cons rfl opnds_nil)) rfl (m27_r06_Cmp_c hv6)) ?_
          refine dvg rfl rfl rfl (opv_geq rfl rfl) ?_
          refine dvg rfl rfl rfl (opv_pick_t rfl rfl) ?_
          refine dv rfl (opv_pick_f rfl rfl) ?_
          refine dv rfl (opv_mv rfl) ?_
          refine dsplit 35 rfl (fun hc => ?_) (fun hc => ?_)
          · replace h := ite_t hc h
            clear hc
            refine doff rfl rfl rfl rfl ?_
            refine doff rfl rfl rfl rfl ?_
            refine doff rfl rfl rfl rfl ?_
            refine doff rfl rfl rfl rfl ?_
            refine dv rfl (opv_pick_t rfl rfl) ?_
            refine dv rfl (opv_mv rfl) ?_
            refine doff rfl rfl rfl rfl ?_
            refine doff rfl rfl rfl rfl ?_
            refine doff rfl rfl rfl rfl ?_
            refine doffu rfl rfl rfl ?_
            refine doffu rfl rfl rfl ?_
            refine doffu rfl rfl rfl ?_
            refine doffu rfl rfl rfl ?_
            refine doff rfl rfl rfl rfl ?_
            refine dv rfl (opv_pick_t rfl rfl) ?_
            refine dnil ?_
            refine then_normal ?_
            refine ccond rfl (fun _ => ?_) (fun hx => Bool.noConfusion hx)
            refine cseq ?_
            refine cregion ?_
            refine sv rfl (opv_as rfl) ?_
            refine snil ?_
            refine cret ?_
            refine block_ret ?_
            refine then_ret ?_
            refine then_ret ?_
            refine block_ret ?_
            refine then_ret ?_
            obtain rfl := Option.some.inj h
            obtain rfl : Sum.inl _ = x2 := hk2
            replace ho2 : some _ = some _ := ho2
            obtain rfl := Option.some.inj ho2
            refine ⟨Or.inr rfl, _, _, _, (resVs_cons (ResV.tmp _ _ rfl) resVs_nil), (pubA_id rfl), ?_⟩
            rfl
          · replace h := ite_f hc h
            clear hc
            refine dvg rfl rfl rfl (opv_fieldAddr_lp fi88_1 rfl) ?_
            refine dvg rfl rfl rfl (opv_load1 ti42 rfl (.lp _ _ _ rfl) rfl) ?_
            refine dvg rfl rfl rfl (opv_len_sl si42 rfl) ?_
            refine dvg rfl rfl rfl (opv_gtr rfl rfl) ?_
            refine dv rfl (opv_pick_f rfl rfl) ?_
            refine dv rfl (opv_mv rfl) ?_
            refine dsplit 41 rfl (fun hc => ?_) (fun hc => ?_)
            · replace h := ite_t hc h
              clear hc
              refine doff rfl rfl rfl rfl ?_
              refine doff rfl rfl rfl rfl ?_
              refine doff rfl rfl rfl rfl ?_
              refine doffu rfl rfl rfl ?_
              refine doffu rfl rfl rfl ?_
              refine doffu rfl rfl rfl ?_
              refine doffu rfl rfl rfl ?_
              refine doff rfl rfl rfl rfl ?_
              refine dv rfl (opv_pick_t rfl rfl) ?_
              refine dnil ?_
              refine then_normal ?_
              refine ccond rfl (fun _ => ?_) (fun hx => Bool.noConfusion hx)
              refine cseq ?_
              refine cregion ?_
              refine sv rfl (opv_as rfl) ?_
              refine snil ?_
              refine cret ?_
              refine block_ret ?_
              refine then_ret ?_
              refine then_ret ?_
              refine block_ret ?_
              refine then_ret ?_
              obtain rfl := Option.some.inj h
              obtain rfl : Sum.inl _ = x2 := hk2
              replace ho2 : some _ = some _ := ho2
              obtain rfl := Option.some.inj ho2
              refine ⟨Or.inr rfl, _, _, _, (resVs_cons (ResV.tmp _ _ rfl) resVs_nil), (pubA_id rfl), ?_⟩
              rfl
            · replace h := ite_f hc h
              clear hc
              refine dvg rfl rfl rfl (opv_fieldAddr_lp fi88_2 rfl) ?_
              refine dvg rfl rfl rfl (opv_load1 ti4 rfl (.lp _ _ _ rfl) rfl) ?_
              refine dvg rfl rfl rfl (opv_mv rfl) ?_
              refine dsplit 44 rfl (fun hc => ?_) (fun hc => ?_)
              · replace h := ite_t hc h
                clear hc
                refine dvg rfl rfl rfl (opv_fieldAddr_lp fi88_1 rfl) ?_
                refine dvg rfl rfl rfl (opv_load1 ti42 rfl (.lp _ _ _ rfl) rfl) ?_
                refine dvg rfl rfl rfl (opv_len_sl si42 rfl) ?_
                refine dvg rfl rfl rfl (opv_gtr rfl rfl) ?_
                refine dvg rfl rfl rfl (opv_pick_t rfl rfl) ?_
                refine dv rfl (opv_pick_f rfl rfl) ?_
                refine dnil ?_
                refine then_normal ?_
                refine ccond rfl (fun hc => ?_) (fun hc => ?_)
                · replace h := ite_t hc h
                  clear hc
                  refine cseq ?_
                  refine cregion ?_
                  refine sv rfl (opv_as rfl) ?_
                  refine snil ?_
                  refine cret ?_
                  refine block_ret ?_
                  refine then_ret ?_
                  refine then_ret ?_
                  refine block_ret ?_
                  refine then_ret ?_
                  obtain rfl := Option.some.inj h
                  obtain rfl : Sum.inl _ = x2 := hk2
                  replace ho2 : some _ = some _ := ho2
                  obtain rfl := Option.some.inj ho2
                  refine ⟨Or.inr rfl, _, _, _, (resVs_cons (ResV.tmp _ _ rfl) resVs_nil), (pubA_id rfl), ?_⟩
                  rfl
                · replace h := ite_f hc h
                  clear hc
                  refine cskip ?_
                  refine block_normal ?_
                  refine then_normal ?_
                  refine cregion ?_
                  refine sv rfl (opv_mv rfl) ?_
                  refine sv rfl (opv_add rfl rfl) ?_
                  refine sv rfl (opv_as rfl) ?_
                  refine snil ?_
                  obtain rfl := Option.some.inj h
                  exact ⟨(n2, (wI (s2 + 1))), _, hk2, ⟨rfl, rfl, trivial⟩, rfl, Nat.lt_succ_self _⟩
              · replace h := ite_f hc h
                clear hc
                refine doff rfl rfl rfl rfl ?_
                refine doff rfl rfl rfl rfl ?_
                refine doff rfl rfl rfl rfl ?_
                refine doff rfl rfl rfl rfl ?_
                refine dvg rfl rfl rfl (opv_pick_f rfl rfl) ?_
                refine dv rfl (opv_pick_f rfl rfl) ?_
                refine dnil ?_
                refine then_normal ?_
                refine ccond rfl (fun hx => Bool.noConfusion hx) (fun _ => ?_)
                refine cskip ?_
                refine block_normal ?_
                refine then_normal ?_
                refine cregion ?_
                refine sv rfl (opv_mv rfl) ?_
                refine sv rfl (opv_add rfl rfl) ?_
                refine sv rfl (opv_as rfl) ?_
                refine snil ?_
                obtain rfl := Option.some.inj h
                exact ⟨(n2, (wI (s2 + 1))), _, hk2, ⟨rfl, rfl, trivial⟩, rfl, Nat.lt_succ_self _⟩
        · replace h := ite_f hc h
          clear hc
          refine doff rfl rfl rfl rfl ?_
          refine doff rfl rfl rfl rfl ?_
          refine doff rfl rfl rfl rfl ?_
          refine doff rfl rfl rfl rfl ?_
          refine doff rfl rfl rfl rfl ?_
          refine doff rfl rfl rfl rfl ?_
          refine doff rfl rfl rfl rfl ?_
          refine doff rfl rfl rfl rfl ?_
          refine doff rfl rfl rfl rfl ?_
          refine doff rfl rfl rfl rfl ?_
          refine dvg rfl rfl rfl (opv_pick_f rfl rfl) ?_
          refine dv rfl (opv_pick_f rfl rfl) ?_
          refine dv rfl (opv_mv rfl) ?_
          refine dvg rfl rfl rfl (opv_fieldAddr_lp fi88_1 rfl) ?_
          refine dvg rfl rfl rfl (opv_load1 ti42 rfl (.lp _ _ _ rfl) rfl) ?_
          refine dvg rfl rfl rfl (opv_len_sl si42 rfl) ?_
          refine dvg rfl rfl rfl (opv_gtr rfl rfl) ?_
          refine dv rfl (opv_pick_f rfl rfl) ?_
          refine dv rfl (opv_mv rfl) ?_
          refine dsplit 41 rfl (fun hc => ?_) (fun hc => ?_)
          · replace h := ite_t hc h
            clear hc
            refine doff rfl rfl rfl rfl ?_
            refine doff rfl rfl rfl rfl ?_
            refine doff rfl rfl rfl rfl ?_
            refine doffu rfl rfl rfl ?_
            refine doffu rfl rfl rfl ?_
            refine doffu rfl rfl rfl ?_
            refine doffu rfl rfl rfl ?_
            refine doff rfl rfl rfl rfl ?_
            refine dv rfl (opv_pick_t rfl rfl) ?_
            refine dnil ?_
            refine then_normal ?_
            refine ccond rfl (fun _ => ?_) (fun hx => Bool.noConfusion hx)
            refine cseq ?_
            refine cregion ?_
            refine sv rfl (opv_as rfl) ?_
            refine snil ?_
            refine cret ?_
            refine block_ret ?_
            refine then_ret ?_
            refine then_ret ?_
            refine block_ret ?_
            refine then_ret ?_
            obtain rfl := Option.some.inj h
            obtain rfl : Sum.inl _ = x2 := hk2
            replace ho2 : some _ = some _ := ho2
            obtain rfl := Option.some.inj ho2
            refine ⟨Or.inr rfl, _, _, _, (resVs_cons (ResV.tmp _ _ rfl) resVs_nil), (pubA_id rfl), ?_⟩
            rfl
          · replace h := ite_f hc h
            clear hc
            refine dvg rfl rfl rfl (opv_fieldAddr_lp fi88_2 rfl) ?_
            refine dvg rfl rfl rfl (opv_load1 ti4 rfl (.lp _ _ _ rfl) rfl) ?_
            refine dvg rfl rfl rfl (opv_mv rfl) ?_
            refine dsplit 44 rfl (fun hc => ?_) (fun hc => ?_)
            · replace h := ite_t hc h
              clear hc
              refine dvg rfl rfl rfl (opv_fieldAddr_lp fi88_1 rfl) ?_
              refine dvg rfl rfl rfl (opv_load1 ti42 rfl (.lp _ _ _ rfl) rfl) ?_
              refine dvg rfl rfl rfl (opv_len_sl si42 rfl) ?_
              refine dvg rfl rfl rfl (opv_gtr rfl rfl) ?_
              refine dvg rfl rfl rfl (opv_pick_t rfl rfl) ?_
              refine dv rfl (opv_pick_f rfl rfl) ?_
              refine dnil ?_
              refine then_normal ?_
              refine ccond rfl (fun hc => ?_) (fun hc => ?_)
              · replace h := ite_t hc h
                clear hc
                refine cseq ?_
                refine cregion ?_
                refine sv rfl (opv_as rfl) ?_
                refine snil ?_
                refine cret ?_
                refine block_ret ?_
                refine then_ret ?_
                refine then_ret ?_
                refine block_ret ?_
                refine then_ret ?_
                obtain rfl := Option.some.inj h
                obtain rfl : Sum.inl _ = x2 := hk2
                replace ho2 : some _ = some _ := ho2
                obtain rfl := Option.some.inj ho2
                refine ⟨Or.inr rfl, _, _, _, (resVs_cons (ResV.tmp _ _ rfl) resVs_nil), (pubA_id rfl), ?_⟩
                rfl
              · replace h := ite_f hc h
                clear hc
                refine cskip ?_
                refine block_normal ?_
                refine then_normal ?_
                refine cregion ?_
                refine sv rfl (opv_mv rfl) ?_
                refine sv rfl (opv_add rfl rfl) ?_
                refine sv rfl (opv_as rfl) ?_
                refine snil ?_
                obtain rfl := Option.some.inj h
                exact ⟨(n2, (wI (s2 + 1))), _, hk2, ⟨rfl, rfl, trivial⟩, rfl, Nat.lt_succ_self _⟩
            · replace h := ite_f hc h
              clear hc
              refine doff rfl rfl rfl rfl ?_
              refine doff rfl rfl rfl rfl ?_
              refine doff rfl rfl rfl rfl ?_
              refine doff rfl rfl rfl rfl ?_
              refine dvg rfl rfl rfl (opv_pick_f rfl rfl) ?_
              refine dv rfl (opv_pick_f rfl rfl) ?_
              refine dnil ?_
              refine then_normal ?_
              refine ccond rfl (fun hx => Bool.noConfusion hx) (fun _ => ?_)
              refine cskip ?_
              refine block_normal ?_
              refine then_normal ?_
              refine cregion ?_
              refine sv rfl (opv_mv rfl) ?_
              refine sv rfl (opv_add rfl rfl) ?_
              refine sv rfl (opv_as rfl) ?_
              refine snil ?_
              obtain rfl := Option.some.inj h
              exact ⟨(n2, (wI (s2 + 1))), _, hk2, ⟨rfl, rfl, trivial⟩, rfl, Nat.lt_succ_self _⟩
    · replace h := ite_f hc h
      clear hc
      refine cexit ?_
      refine then_exit ?_
      refine then_exit ?_
      refine block_hit ?_
      refine then_normal ?_
      obtain rfl := Option.some.inj h
      obtain rfl : _ = x2 := hk2
      exact ⟨(), _, ho2, trivial, rfl⟩

def m51_r09_Sane (a0 : GR09Buf) : Option Bool :=
  if (decide ((a0.L.length : Int) ≤ 16)) then ((m67_r08_Writes a0.L).bind fun v1 => some v1) else (some false)

set_option maxRecDepth 100000 in
theorem m51_r09_Sane_c {a0 : GR09Buf} {r : Bool} (h : m51_r09_Sane a0 = some r) : CallsA Try.prog 51 [.agg [.sl a0.L.length (a0.L.flatMap eGApiWrite)]] (· = .s (.one (.b r))) := by
  unfold m51_r09_Sane at h
  refine callsA_of Try.func51 rfl (nt := 12) rfl (Nat.le_of_ble_eq_true rfl) ?_
  intro w0 S0
  refine cseq ?_
  refine cregion ?_
  refine sbox rfl rfl ?_
  refine sv rfl (opv_as rfl) ?_
  refine snil ?_
  refine cseq ?_
  refine cregion ?_
  refine sv rfl (opv_fieldAddr_lp fi89_0 rfl) ?_
  refine sv rfl (opv_load1 ti74 rfl (.lp _ _ _ rfl) rfl) ?_
  refine sv rfl (opv_len_sl si74 rfl) ?_
  refine sv rfl (opv_leq rfl rfl) ?_
  refine sv rfl (opv_mv rfl) ?_
  refine ssplit 7 rfl (fun hc => ?_) (fun hc => ?_)
  · replace h := ite_t hc h
    clear hc
    refine son rfl rfl rfl ?_
    refine sv rfl (opv_fieldAddr_lp fi89_0 rfl) ?_
    refine son rfl rfl rfl ?_
    refine sv rfl (opv_load1 ti74 rfl (.lp _ _ _ rfl) rfl) ?_
    refine son rfl rfl rfl ?_
    obtain ⟨v1, hv1, h⟩ := bind_eq h
    refine scall1 rfl fn67 (opnds_cons rfl opnds_nil) (pubA_id rfl) (m67_r08_Writes_c hv1) ?_
    refine sv rfl (opv_pick_t rfl rfl) ?_
    refine sv rfl (opv_as rfl) ?_
    refine snil ?_
    refine cret ?_
    obtain rfl := Option.some.inj h
    refine ⟨Or.inr rfl, _, _, _, (resVs_cons (ResV.tmp _ _ rfl) resVs_nil), (pubA_id rfl), ?_⟩
    rfl
  · replace h := ite_f hc h
    clear hc
    refine soff rfl rfl rfl rfl ?_
    refine soff rfl rfl rfl rfl ?_
    refine soff rfl rfl rfl rfl ?_
    refine sv rfl (opv_pick_f rfl rfl) ?_
    refine sv rfl (opv_as rfl) ?_
    refine snil ?_
    refine cret ?_
    obtain rfl := Option.some.inj h
    refine ⟨Or.inr rfl, _, _, _, (resVs_cons (ResV.tmp _ _ rfl) resVs_nil), (pubA_id rfl), ?_⟩
    rfl

def m36_r09_Over_k2 (b2 : (List GApiKV)) : Option (List GApiKV) :=
  some b2

def m36_r09_Over_k8 (a2 : GApiRange) (s3 : Int × Int × (List GApiKV)) (b6 : Bool × (List UInt8) × (List UInt8)) (b7 : Int) (b8 : Int) : Option (LB (Int × Int × (List GApiKV)) ((List GApiKV))) :=
  if (!b6.1) then ((m35_r06_Has a2 b6.2.1).bind fun v9 => if v9 then (if (s3.2.2.length + [(GApiKV.mk b6.2.1 b6.2.2)].length) * 48 ≤ 140737488355328 then (some (.cont (b7, b8, (s3.2.2 ++ [(GApiKV.mk b6.2.1 b6.2.2)])))) else none) else (some (.cont (b7, b8, s3.2.2)))) else (some (.cont (b7, b8, s3.2.2)))

def m36_r09_Over_k7 (a2 : GApiRange) (s3 : Int × Int × (List GApiKV)) (b5 : Int) (b6 : Bool × (List UInt8) × (List UInt8)) (b7 : Int) : Option (LB (Int × Int × (List GApiKV)) ((List GApiKV))) :=
  if (decide (0 ≤ b5)) then (m36_r09_Over_k8 a2 s3 b6 b7 (wI (s3.2.1 + 1))) else (m36_r09_Over_k8 a2 s3 b6 b7 s3.2.1)

def m36_r09_Over_k6 (a2 : GApiRange) (s3 : Int × Int × (List GApiKV)) (b5 : Int) (b6 : Bool × (List UInt8) × (List UInt8)) : Option (LB (Int × Int × (List GApiKV)) ((List GApiKV))) :=
  if (decide (b5 ≤ 0)) then (m36_r09_Over_k7 a2 s3 b5 b6 (wI (s3.1 + 1))) else (m36_r09_Over_k7 a2 s3 b5 b6 s3.1)

def m36_r09_Over_k5 (a0 : GR09Buf) (a1 : List GApiKV) (a2 : GApiRange) (s3 : Int × Int × (List GApiKV)) (b5 : Int) : Option (LB (Int × Int × (List GApiKV)) ((List GApiKV))) :=
  if (decide (b5 < 0)) then ((idx a1 s3.1).bind fun u11 => m36_r09_Over_k6 a2 s3 b5 (false, u11.Key, u11.Val)) else ((idx a0.L s3.2.1).bind fun u12 => (idx a0.L s3.2.1).bind fun u13 => (idx a0.L s3.2.1).bind fun u14 => m36_r09_Over_k6 a2 s3 b5 (u14.Del, u12.Key, u13.Val))

def m36_r09_Over_k4 (a0 : GR09Buf) (a1 : List GApiKV) (a2 : GApiRange) (s3 : Int × Int × (List GApiKV)) (b4 : Unit) : Option (LB (Int × Int × (List GApiKV)) ((List GApiKV))) :=
  if (decide ((a1.length : Int) ≤ s3.1)) then (m36_r09_Over_k5 a0 a1 a2 s3 1) else (if (decide (s3.2.1 < (a0.L.length : Int))) then ((idx a1 s3.1).bind fun u15 => (idx a0.L s3.2.1).bind fun u16 => (m27_r06_Cmp u15.Key u16.Key).bind fun v17 => m36_r09_Over_k5 a0 a1 a2 s3 v17) else (m36_r09_Over_k5 a0 a1 a2 s3 (-1)))

def m36_r09_Over_s3 (a0 : GR09Buf) (a1 : List GApiKV) (a2 : GApiRange) (a3 : Int) (s3 : Int × Int × (List GApiKV)) : Option (LB (Int × Int × (List GApiKV)) ((List GApiKV))) :=
  if (decide (s3.1 < (a1.length : Int))) then (if (decide ((s3.2.2.length : Int) < a3)) then (m36_r09_Over_k4 a0 a1 a2 s3 ()) else (some (.brk s3.2.2))) else (if (decide (s3.2.1 < (a0.L.length : Int))) then (if (decide ((s3.2.2.length : Int) < a3)) then (m36_r09_Over_k4 a0 a1 a2 s3 ()) else (some (.brk s3.2.2))) else (some (.brk s3.2.2)))

def m36_r09_Over_k1 (a0 : GR09Buf) (a1 : List GApiKV) (a2 : GApiRange) (a3 : Int) (b1 : Unit) : Option (List GApiKV) :=
  (iterB (m36_r09_Over_s3 a0 a1 a2 a3) fuel (0, 0, ([] : List GApiKV))).bind fun e18 => m36_r09_Over_k2 e18
end Go.Proofs.Ytdehclinlcnlhaa.Abs
