/-
  t
-/
import Derived.Test.YtfecfgbiplaolaaAbsC
import Derived.Test.YtfecfgbiplaolaaProg
namespace Go.Proofs.Ytfecfgbiplaolaa.Abs
open Go.RowKit Go.Proofs
structure GR07Ver where
  Ts : Int
  Val : List UInt8
  Del : Bool
def eGR07Ver (x : GR07Ver) : List Lf := [.i .i64 x.Ts, .sl x.Val.length (x.Val.flatMap eU8), .b x.Del]

structure GR07Chain where
  L : List GR07Ver
def eGR07Chain (x : GR07Chain) : List Lf := [.sl x.L.length (x.L.flatMap eGR07Ver)]

structure GChainVer where
  Ts : Int
  Val : List UInt8
  Del : Bool
def eGChainVer (x : GChainVer) : List Lf := [.i .i64 x.Ts, .sl x.Val.length (x.Val.flatMap eU8), .b x.Del]

structure GChainChain where
  L : List GChainVer
def eGChainChain (x : GChainChain) : List Lf := [.sl x.L.length (x.L.flatMap eGChainVer)]

theorem zi32 : ZI Try.prog 32 ([.raw (.slice none 0 0)]) := zi_of (by kernel_rfl)
theorem pi32 : PI Try.prog 32 [(0, 1)] := pi_of Try.underlying32 (by kernel_rfl) (by kernel_rfl)
theorem ei5 : EI Try.prog 5 1 1 [.i .u8 0] := ei_of (by kernel_rfl) (by decide)
theorem zi34 : ZI Try.prog 34 ([.i .i64 0, .raw (.slice none 0 0), .b false]) := zi_of (by kernel_rfl)
theorem pi34 : PI Try.prog 34 [(0, 1), (1, 1), (2, 1)] := pi_of Try.underlying34 (by kernel_rfl) (by kernel_rfl)
theorem ti32 : TI Try.prog 32 true 1 := ⟨⟨_, Try.underlying32, rfl⟩, by kernel_rfl⟩
theorem zi4 : ZI Try.prog 4 ([.b false]) := zi_of (by kernel_rfl)
theorem zi3 : ZI Try.prog 3 ([.i .i64 0]) := zi_of (by kernel_rfl)
theorem sz3 : (Try.prog.info? 3).map (·.size) = some 1 := by kernel_rfl
theorem fn34 : FnI Try.prog 34 := ⟨⟨_, Try.func34, by kernel_rfl, by kernel_rfl⟩⟩
theorem ti34 : TI Try.prog 34 true 3 := ⟨⟨_, Try.underlying34, rfl⟩, by kernel_rfl⟩
theorem ti30 : TI Try.prog 30 false 1 := ⟨⟨_, Try.underlying30, rfl⟩, by kernel_rfl⟩
theorem si30 : SI Try.prog 30 34 3 := ⟨Try.underlying30, by kernel_rfl, by decide⟩
theorem fi32_0 : FI Try.prog 32 0 0 := ⟨⟨_, _, 1, Try.underlying32, rfl, rfl, by kernel_rfl, by decide⟩⟩
theorem sz34 : (Try.prog.info? 34).map (·.size) = some 3 := by kernel_rfl
theorem fi34_0 : FI Try.prog 34 0 0 := ⟨⟨_, _, 1, Try.underlying34, rfl, rfl, by kernel_rfl, by decide⟩⟩
theorem ti3 : TI Try.prog 3 false 1 := ⟨⟨_, Try.underlying3, rfl⟩, by kernel_rfl⟩
theorem fi34_1 : FI Try.prog 34 1 1 := ⟨⟨_, _, 1, Try.underlying34, rfl, rfl, by kernel_rfl, by decide⟩⟩
theorem ti25 : TI Try.prog 25 false 1 := ⟨⟨_, Try.underlying25, rfl⟩, by kernel_rfl⟩
theorem si25 : SI Try.prog 25 5 1 := ⟨Try.underlying25, by kernel_rfl, by decide⟩
theorem fi34_2 : FI Try.prog 34 2 2 := ⟨⟨_, _, 1, Try.underlying34, rfl, rfl, by kernel_rfl, by decide⟩⟩
theorem ti4 : TI Try.prog 4 false 1 := ⟨⟨_, Try.underlying4, rfl⟩, by kernel_rfl⟩
theorem fn31 : FnI Try.prog 31 := ⟨⟨_, Try.func31, by kernel_rfl, by kernel_rfl⟩⟩
theorem sz4 : (Try.prog.info? 4).map (·.size) = some 1 := by kernel_rfl
theorem fn39 : FnI Try.prog 39 := ⟨⟨_, Try.func39, by kernel_rfl, by kernel_rfl⟩⟩
theorem fn20 : FnI Try.prog 20 := ⟨⟨_, Try.func20, by kernel_rfl, by kernel_rfl⟩⟩
theorem sz32 : (Try.prog.info? 32).map (·.size) = some 1 := by kernel_rfl
theorem mixed : Try.prog.follows .mixedOrders = true := by kernel_rfl
theorem fn22 : FnI Try.prog 22 := ⟨⟨_, Try.func22, by kernel_rfl, by kernel_rfl⟩⟩
theorem ei34 : EI Try.prog 34 3 40 [.i .i64 0, .raw (.slice none 0 0), .b false] := ei_of (by kernel_rfl) (by decide)
theorem ei30 : EI Try.prog 30 1 24 [.raw (.slice none 0 0)] := ei_of (by kernel_rfl) (by decide)
theorem si72 : SI Try.prog 72 30 1 := ⟨Try.underlying72, by kernel_rfl, by decide⟩
theorem fn38 : FnI Try.prog 38 := ⟨⟨_, Try.func38, by kernel_rfl, by kernel_rfl⟩⟩
theorem ni30 : NI Try.prog 30 := ⟨.inl ⟨_, Try.underlying30⟩⟩
theorem fn32 : FnI Try.prog 32 := ⟨⟨_, Try.func32, by kernel_rfl, by kernel_rfl⟩⟩
theorem fn15 : FnI Try.prog 15 := ⟨⟨_, Try.func15, by kernel_rfl, by kernel_rfl⟩⟩
theorem fn29 : FnI Try.prog 29 := ⟨⟨_, Try.func29, by kernel_rfl, by kernel_rfl⟩⟩
theorem fn11 : FnI Try.prog 11 := ⟨⟨_, Try.func11, by kernel_rfl, by kernel_rfl⟩⟩
theorem fn8 : FnI Try.prog 8 := ⟨⟨_, Try.func8, by kernel_rfl, by kernel_rfl⟩⟩
theorem ti24 : TI Try.prog 24 true 1 := ⟨⟨_, Try.underlying24, rfl⟩, by kernel_rfl⟩
theorem fi24_0 : FI Try.prog 24 0 0 := ⟨⟨_, _, 1, Try.underlying24, rfl, rfl, by kernel_rfl, by decide⟩⟩
theorem ti22 : TI Try.prog 22 false 1 := ⟨⟨_, Try.underlying22, rfl⟩, by kernel_rfl⟩
theorem si22 : SI Try.prog 22 27 3 := ⟨Try.underlying22, by kernel_rfl, by decide⟩
theorem fi27_1 : FI Try.prog 27 1 1 := ⟨⟨_, _, 1, Try.underlying27, rfl, rfl, by kernel_rfl, by decide⟩⟩
theorem fn9 : FnI Try.prog 9 := ⟨⟨_, Try.func9, by kernel_rfl, by kernel_rfl⟩⟩
theorem ti27 : TI Try.prog 27 true 3 := ⟨⟨_, Try.underlying27, rfl⟩, by kernel_rfl⟩
theorem fi27_0 : FI Try.prog 27 0 0 := ⟨⟨_, _, 1, Try.underlying27, rfl, rfl, by kernel_rfl, by decide⟩⟩
theorem fi27_2 : FI Try.prog 27 2 2 := ⟨⟨_, _, 1, Try.underlying27, rfl, rfl, by kernel_rfl, by decide⟩⟩
theorem fn16 : FnI Try.prog 16 := ⟨⟨_, Try.func16, by kernel_rfl, by kernel_rfl⟩⟩
theorem sz30 : (Try.prog.info? 30).map (·.size) = some 1 := by kernel_rfl
theorem fn10 : FnI Try.prog 10 := ⟨⟨_, Try.func10, by kernel_rfl, by kernel_rfl⟩⟩
theorem zi27 : ZI Try.prog 27 ([.i .i64 0, .raw (.slice none 0 0), .b false]) := zi_of (by kernel_rfl)
theorem fn30 : FnI Try.prog 30 := ⟨⟨_, Try.func30, by kernel_rfl, by kernel_rfl⟩⟩
theorem pi27 : PI Try.prog 27 [(0, 1), (1, 1), (2, 1)] := pi_of Try.underlying27 (by kernel_rfl) (by kernel_rfl)
theorem sz27 : (Try.prog.info? 27).map (·.size) = some 3 := by kernel_rfl
theorem fn12 : FnI Try.prog 12 := ⟨⟨_, Try.func12, by kernel_rfl, by kernel_rfl⟩⟩
theorem fn13 : FnI Try.prog 13 := ⟨⟨_, Try.func13, by kernel_rfl, by kernel_rfl⟩⟩
theorem fn14 : FnI Try.prog 14 := ⟨⟨_, Try.func14, by kernel_rfl, by kernel_rfl⟩⟩
theorem zi24 : ZI Try.prog 24 ([.raw (.slice none 0 0)]) := zi_of (by kernel_rfl)
theorem fn21 : FnI Try.prog 21 := ⟨⟨_, Try.func21, by kernel_rfl, by kernel_rfl⟩⟩
theorem pi24 : PI Try.prog 24 [(0, 1)] := pi_of Try.underlying24 (by kernel_rfl) (by kernel_rfl)
theorem sz24 : (Try.prog.info? 24).map (·.size) = some 1 := by kernel_rfl
theorem ei27 : EI Try.prog 27 3 40 [.i .i64 0, .raw (.slice none 0 0), .b false] := ei_of (by kernel_rfl) (by decide)
theorem fn23 : FnI Try.prog 23 := ⟨⟨_, Try.func23, by kernel_rfl, by kernel_rfl⟩⟩
theorem ni22 : NI Try.prog 22 := ⟨.inl ⟨_, Try.underlying22⟩⟩
theorem fn17 : FnI Try.prog 17 := ⟨⟨_, Try.func17, by kernel_rfl, by kernel_rfl⟩⟩
theorem fn19 : FnI Try.prog 19 := ⟨⟨_, Try.func19, by kernel_rfl, by kernel_rfl⟩⟩
theorem fn33 : FnI Try.prog 33 := ⟨⟨_, Try.func33, by kernel_rfl, by kernel_rfl⟩⟩
theorem fn18 : FnI Try.prog 18 := ⟨⟨_, Try.func18, by kernel_rfl, by kernel_rfl⟩⟩
theorem fn35 : FnI Try.prog 35 := ⟨⟨_, Try.func35, by kernel_rfl, by kernel_rfl⟩⟩
theorem fn24 : FnI Try.prog 24 := ⟨⟨_, Try.func24, by kernel_rfl, by kernel_rfl⟩⟩
theorem ft32_0 : FT Try.prog 32 0 0 30 := ⟨⟨_, _, Try.underlying32, rfl, rfl, rfl⟩⟩
theorem fn25 : FnI Try.prog 25 := ⟨⟨_, Try.func25, by kernel_rfl, by kernel_rfl⟩⟩
theorem ft24_0 : FT Try.prog 24 0 0 22 := ⟨⟨_, _, Try.underlying24, rfl, rfl, rfl⟩⟩
theorem zi30 : ZI Try.prog 30 ([.raw (.slice none 0 0)]) := zi_of (by kernel_rfl)
theorem ni25 : NI Try.prog 25 := ⟨.inl ⟨_, Try.underlying25⟩⟩
theorem fn36 : FnI Try.prog 36 := ⟨⟨_, Try.func36, by kernel_rfl, by kernel_rfl⟩⟩
theorem sz25 : (Try.prog.info? 25).map (·.size) = some 1 := by kernel_rfl
theorem fn37 : FnI Try.prog 37 := ⟨⟨_, Try.func37, by kernel_rfl, by kernel_rfl⟩⟩
theorem fn26 : FnI Try.prog 26 := ⟨⟨_, Try.func26, by kernel_rfl, by kernel_rfl⟩⟩
theorem fn27 : FnI Try.prog 27 := ⟨⟨_, Try.func27, by kernel_rfl, by kernel_rfl⟩⟩
theorem fn28 : FnI Try.prog 28 := ⟨⟨_, Try.func28, by kernel_rfl, by kernel_rfl⟩⟩

theorem m34_chain_backward_c {a0 : GChainChain} : CallsA Try.prog 34 [.agg [.sl a0.L.length (a0.L.flatMap eGChainVer)]] (· = .s (.one (.fn 39 [] [.cp [.sl a0.L.length (a0.L.flatMap eGChainVer)]]))) := by
  refine callsA_of Try.func34 rfl (nt := 4) rfl (Nat.le_of_ble_eq_true rfl) ?_
  intro w0 S0
  refine cseq ?_
  refine cregion ?_
  refine sboxc rfl rfl rfl ?_
  refine sv rfl (opv_as rfl) ?_
  refine snil ?_
  refine cseq ?_
  refine cregion ?_
  refine sv rfl (opv_makeFunc opnds1_nil (opnds1_cons rfl rfl opnds1_nil)) ?_
  refine sv rfl (opv_as rfl) ?_
  refine snil ?_
  refine cret ?_
  refine ⟨Or.inr rfl, _, _, _, (resVs_cons (ResV.tmp _ _ rfl) resVs_nil), (pubA_id rfl), ?_⟩
  rfl

def it39d (l : List GChainVer) : Nat → List (Int × GChainVer)
  | 0 => []
  | n + 1 => match l[n]? with
    | some v => ((n : Int), v) :: it39d l n
    | none => []
def it39 (c : GChainChain) : Option (List (Int × GChainVer)) :=
  if c.L.length ≤ 1000000000000000000 then some (it39d c.L c.L.length) else none

theorem it39d_succ {l : List GChainVer} {n : Nat} (h : n < l.length) : it39d l (n + 1) = ((n : Int), l[n]) :: it39d l n := by
  simp [it39d, List.getElem?_eq_getElem h]
theorem it39d_length {l : List GChainVer} : ∀ n, n ≤ l.length → (it39d l n).length = n
  | 0, _ => rfl
  | n + 1, h => by
    rw [it39d_succ (by omega), List.length_cons, it39d_length n (by omega)]

set_option maxRecDepth 100000 in
theorem it39_c {c : GChainChain} {L : List (Int × GChainVer)} (h : it39 c = some L) : IterC Try.prog 39 [.cp [.sl c.L.length (c.L.flatMap eGChainVer)]] (L.map fun x => (.one (.i .i64 x.1), .agg [.i .i64 x.2.Ts, .sl x.2.Val.length (x.2.Val.flatMap eU8), .b x.2.Del])) := by
  unfold it39 at h
  obtain ⟨hlen, h⟩ := chk_eq h
  obtain rfl := Option.some.inj h
  refine iterC_of Try.func39 rfl rfl (nt := 21) rfl (Nat.le_of_ble_eq_true rfl) ?_
  intro l J Jx hJ hJx hs
  refine yseq ?_
  refine yplain (hJ 0) (by rfl) (fun w0 S0 => ?_)
  refine sv rfl (opv_fieldAddr_cp fi32_0 rfl) ?_
  refine sv rfl (opv_load1 ti30 rfl (.cp _) rfl) ?_
  refine sv rfl (opv_len_sl si30 rfl) ?_
  refine sv rfl (opv_sub rfl rfl) ?_
  refine sv rfl (opv_as rfl) ?_
  refine snil0 ⟨rfl, rfl, yl_nil (ythen ?_)⟩
  refine yblock ?_
  have hw0 : wI ((c.L.length : Int) - 1) = (c.L.length : Int) - 1 := by
    show IntKind.i64.wrap _ = _
    exact wrap_i64 (by omega) (by omega)
  refine yloop (G := Nat × Int) (fun g => [(0, .s (.one (.raw (.func (.yield l) #[] #[])))), (1, .s (.one (.cp [.sl c.L.length (c.L.flatMap eGChainVer)]))), (3, .s (.one (.i .i64 g.2)))])
    (fun g => J g.1) (fun g => g.1 ≤ c.L.length ∧ g.2 = ((c.L.length - g.1 : Nat) : Int) - 1 ∧ (it39d c.L c.L.length).drop g.1 = it39d c.L (c.L.length - g.1))
    (fun g => c.L.length - g.1) (0, wI ((c.L.length : Int) - 1)) ⟨Nat.zero_le _, by simp only [Nat.sub_zero]; exact hw0, rfl⟩ ⟨rfl, rfl, rfl, trivial⟩ rfl (fun _ _ => inbL_of rfl) ?_
  rintro ⟨k, i⟩ ⟨g1, g2, g3⟩
  simp only at g1 g2 g3
  refine yseq ?_
  refine yseq ?_
  refine yplain (hJ k) (by rfl) (fun w0 S0 => ?_)
  refine sv rfl (opv_mv rfl) ?_
  refine sv rfl (opv_geq rfl rfl) ?_
  refine snil0 ⟨rfl, rfl, yl_nil (ythen ?_)⟩
  refine ycond rfl (fun hc => ?_) (fun hc => ?_)
  rotate_left
  · have hc' : ¬ 0 ≤ i := by simpa using hc
    refine yexit (And.intro (Or.inl rfl) (Or.inl ?_))
    show J k = J _
    rw [List.length_map, it39d_length _ (Nat.le_refl _)]
    congr 1
    omega
  have hge : 0 ≤ i := by simpa using hc
  refine yskip (ythen ?_)
  obtain ⟨n, hn⟩ : ∃ n, c.L.length - k = n + 1 := ⟨c.L.length - k - 1, by omega⟩
  have hi : i = (n : Int) := by omega
  subst hi
  have hnl : n < c.L.length := by omega
  rw [hn, it39d_succ hnl] at g3
  have hget : (it39d c.L c.L.length)[k]? = some ((n : Int), c.L[n]) := by
    have := congrArg (fun l => l[0]?) g3
    simpa using this
  have hdrop : (it39d c.L c.L.length).drop (k + 1) = it39d c.L n := by
    have := congrArg (fun l => l.drop 1) g3
    simpa [Nat.add_comm] using this
  have hu : idx c.L (n : Int) = some c.L[n] := by
    unfold idx
    rw [if_pos (Int.natCast_nonneg n), Int.toNat_natCast, List.getElem?_eq_getElem hnl]
  generalize c.L[n] = v at hget hu
  refine yseq ?_
  refine yblock ?_
  refine yseq ?_
  refine yregion ?_
  refine yl_of (l1 := [_, _, _, _, _, _, _]) (hJ k) (by rfl) (fun w0 S0 => ?_)
  refine sv rfl (opv_mv rfl) ?_
  refine sv rfl (opv_mv rfl) ?_
  refine sv rfl (opv_fieldAddr_cp fi32_0 rfl) ?_
  refine sv rfl (opv_load1 ti30 rfl (.cp _) rfl) ?_
  refine sv rfl (opv_mv rfl) ?_
  refine sv rfl (opv_ix (f := eGChainVer) si30 (fun _ => rfl) rfl rfl rfl rfl hu) ?_
  refine sv rfl (opv_loadNe (ys := [.i .i64 v.Ts, .sl v.Val.length (v.Val.flatMap eU8), .b v.Del]) ti34 rfl (.cp _) rfl rfl) ?_
  refine snil0 ⟨rfl, rfl, ?_⟩
  refine yl_yield rfl rfl (fun _ _ _ _ _ => rfl) hs rfl rfl rfl rfl (x := .one (.i .i64 (n : Int))) (y := .agg [.i .i64 v.Ts, .sl v.Val.length (v.Val.flatMap eU8), .b v.Del]) (by rw [List.getElem?_map, hget]; rfl) ?_ ?_
  rotate_left
  · -- the round has said no
    refine yl_of (l1 := [_]) (l2 := []) hJx (by rfl) (fun w0 S0 => ?_)
    refine sv rfl (opv_not rfl) ?_
    refine snil0 ⟨rfl, rfl, yl_nil (ythen ?_)⟩
    refine ycond rfl (fun _ => ?_) (fun hx => Bool.noConfusion hx)
    exact yret (And.intro (Or.inr rfl) (Or.inr rfl))
  refine yl_of (l1 := [_]) (l2 := []) (hJ (k + 1)) (by rfl) (fun w0 S0 => ?_)
  refine sv rfl (opv_not rfl) ?_
  refine snil0 ⟨rfl, rfl, yl_nil (ythen ?_)⟩
  refine ycond rfl (fun hx => Bool.noConfusion hx) (fun _ => ?_)
  refine yskip (yblk (ythen ?_))
  refine yplain (hJ (k + 1)) (by rfl) (fun w0 S0 => ?_)
  refine sv rfl (opv_mv rfl) ?_
  refine sv rfl (opv_sub rfl rfl) ?_
  refine sv rfl (opv_as rfl) ?_
  refine snil0 ⟨rfl, rfl, yl_nil (ythen ?_)⟩
  have hw : wI ((n : Int) - 1) = (n : Int) - 1 := by
    show IntKind.i64.wrap _ = _
    exact wrap_i64 (by omega) (by omega)
  refine ⟨(k + 1, wI ((n : Int) - 1)), ⟨?_, ?_, ?_⟩, ⟨rfl, rfl, rfl, trivial⟩, rfl, ?_⟩
  · show k + 1 ≤ c.L.length
    omega
  · show wI ((n : Int) - 1) = ((c.L.length - (k + 1) : Nat) : Int) - 1
    rw [hw]; omega
  · show List.drop (k + 1) _ = it39d c.L (c.L.length - (k + 1))
    rw [hdrop]
    congr 1
    omega
  · show c.L.length - (k + 1) < c.L.length - k
    omega


def m31_chain_saneVer (a0 : GChainVer) : Option Bool :=
  if (decide (1 ≤ a0.Ts)) then (if (decide (a0.Ts ≤ 1099511627776)) then (if (decide ((a0.Val.length : Int) ≤ 32)) then (if a0.Del then (some (!(decide (0 < (a0.Val.length : Int))))) else (some true)) else (some false)) else (some false)) else (some false)

set_option maxRecDepth 100000 in
theorem m31_chain_saneVer_c {a0 : GChainVer} {r : Bool} (h : m31_chain_saneVer a0 = some r) : CallsA Try.prog 31 [.agg [.i .i64 a0.Ts, .sl a0.Val.length (a0.Val.flatMap eU8), .b a0.Del]] (· = .s (.one (.b r))) := by
  unfold m31_chain_saneVer at h
  refine callsA_of Try.func31 rfl (nt := 28) rfl (Nat.le_of_ble_eq_true rfl) ?_
  intro w0 S0
  refine cseq ?_
  refine cregion ?_
  refine sbox rfl rfl ?_
  refine sv rfl (opv_as rfl) ?_
  refine snil ?_
  refine cseq ?_
  refine cregion ?_
  refine sv rfl (opv_fieldAddr_lp fi34_0 rfl) ?_
  refine sv rfl (opv_load1 ti3 rfl (.lp _ _ _ rfl) rfl) ?_
  refine sv rfl (opv_geq rfl rfl) ?_
  refine sv rfl (opv_mv rfl) ?_
  refine ssplit 6 rfl (fun hc => ?_) (fun hc => ?_)
  · replace h := ite_t hc h
    clear hc
    refine son rfl rfl rfl ?_
    refine sv rfl (opv_fieldAddr_lp fi34_0 rfl) ?_
    refine son rfl rfl rfl ?_
    refine sv rfl (opv_load1 ti3 rfl (.lp _ _ _ rfl) rfl) ?_
    refine son rfl rfl rfl ?_
    refine sv rfl (opv_leq rfl rfl) ?_
    refine sv rfl (opv_pick_t rfl rfl) ?_
    refine sv rfl (opv_mv rfl) ?_
    refine ssplit 11 rfl (fun hc => ?_) (fun hc => ?_)
    · replace h := ite_t hc h
      clear hc
      refine son rfl rfl rfl ?_
      refine sv rfl (opv_fieldAddr_lp fi34_1 rfl) ?_
      refine son rfl rfl rfl ?_
      refine sv rfl (opv_load1 ti25 rfl (.lp _ _ _ rfl) rfl) ?_
      refine son rfl rfl rfl ?_
      refine sv rfl (opv_len_sl si25 rfl) ?_
      refine son rfl rfl rfl ?_
      refine sv rfl (opv_leq rfl rfl) ?_
      refine sv rfl (opv_pick_t rfl rfl) ?_
      refine sv rfl (opv_mv rfl) ?_
      refine ssplit 17 rfl (fun hc => ?_) (fun hc => ?_)
      · replace h := ite_t hc h
        clear hc
        refine son rfl rfl rfl ?_
        refine sv rfl (opv_fieldAddr_lp fi34_2 rfl) ?_
        refine son rfl rfl rfl ?_
        refine sv rfl (opv_load1 ti4 rfl (.lp _ _ _ rfl) rfl) ?_
        refine son rfl rfl rfl ?_
        refine sv rfl (opv_mv rfl) ?_
        refine ssplit 20 rfl (fun hc => ?_) (fun hc => ?_)
        · replace h := ite_t hc h
          clear hc
          refine son rfl rfl rfl ?_
          refine sv rfl (opv_fieldAddr_lp fi34_1 rfl) ?_
          refine son rfl rfl rfl ?_
          refine sv rfl (opv_load1 ti25 rfl (.lp _ _ _ rfl) rfl) ?_
          refine son rfl rfl rfl ?_
          refine sv rfl (opv_len_sl si25 rfl) ?_
          refine son rfl rfl rfl ?_
          refine sv rfl (opv_gtr rfl rfl) ?_
          refine son rfl rfl rfl ?_
          refine sv rfl (opv_pick_t rfl rfl) ?_
          refine son rfl rfl rfl ?_
          refine sv rfl (opv_not rfl) ?_
          refine sv rfl (opv_pick_t rfl rfl) ?_
          refine sv rfl (opv_as rfl) ?_
          refine snil ?_
          refine cret ?_
          obtain rfl := Option.some.inj h
          refine ⟨Or.inr rfl, _, _, _, (resVs_cons (ResV.tmp _ _ rfl) resVs_nil), (pubA_id rfl), ?_⟩
          rfl
        · replace h := ite_f hc h
          clear hc
          refine soff rfl rfl rfl rfl ?_
          refine soff rfl rfl rfl rfl ?_
          refine soff rfl rfl rfl rfl ?_
          refine soff rfl rfl rfl rfl ?_
          refine son rfl rfl rfl ?_
          refine sv rfl (opv_pick_f rfl rfl) ?_
          refine son rfl rfl rfl ?_
          refine sv rfl (opv_not rfl) ?_
          refine sv rfl (opv_pick_t rfl rfl) ?_
          refine sv rfl (opv_as rfl) ?_
          refine snil ?_
          refine cret ?_
          obtain rfl := Option.some.inj h
          refine ⟨Or.inr rfl, _, _, _, (resVs_cons (ResV.tmp _ _ rfl) resVs_nil), (pubA_id rfl), ?_⟩
          rfl
      · replace h := ite_f hc h
        clear hc
        refine soff rfl rfl rfl rfl ?_
        refine soff rfl rfl rfl rfl ?_
        refine soff rfl rfl rfl rfl ?_
        refine soffu rfl rfl rfl ?_
        refine soffu rfl rfl rfl ?_
        refine soffu rfl rfl rfl ?_
        refine soffu rfl rfl rfl ?_
        refine soff rfl rfl rfl rfl ?_
        refine soff rfl rfl rfl rfl ?_
        refine sv rfl (opv_pick_f rfl rfl) ?_
        refine sv rfl (opv_as rfl) ?_
        refine snil ?_
        refine cret ?_
        obtain rfl := Option.some.inj h
        refine ⟨Or.inr rfl, _, _, _, (resVs_cons (ResV.tmp _ _ rfl) resVs_nil), (pubA_id rfl), ?_⟩
        rfl
    · replace h := ite_f hc h
      clear hc
      refine soff rfl rfl rfl rfl ?_
      refine soff rfl rfl rfl rfl ?_
      refine soff rfl rfl rfl rfl ?_
      refine soff rfl rfl rfl rfl ?_
      refine sv rfl (opv_pick_f rfl rfl) ?_
      refine sv rfl (opv_mv rfl) ?_
      refine soff rfl rfl rfl rfl ?_
      refine soff rfl rfl rfl rfl ?_
      refine soff rfl rfl rfl rfl ?_
      refine soffu rfl rfl rfl ?_
      refine soffu rfl rfl rfl ?_
      refine soffu rfl rfl rfl ?_
      refine soffu rfl rfl rfl ?_
      refine soff rfl rfl rfl rfl ?_
      refine soff rfl rfl rfl rfl ?_
      refine sv rfl (opv_pick_f rfl rfl) ?_
      refine sv rfl (opv_as rfl) ?_
      refine snil ?_
      refine cret ?_
      obtain rfl := Option.some.inj h
      refine ⟨Or.inr rfl, _, _, _, (resVs_cons (ResV.tmp _ _ rfl) resVs_nil), (pubA_id rfl), ?_⟩
      rfl
  · replace h := ite_f hc h
    clear hc
    refine soff rfl rfl rfl rfl ?_
    refine soff rfl rfl rfl rfl ?_
    refine soff rfl rfl rfl rfl ?_
    refine sv rfl (opv_pick_f rfl rfl) ?_
    refine sv rfl (opv_mv rfl) ?_
    refine soff rfl rfl rfl rfl ?_
    refine soff rfl rfl rfl rfl ?_
    refine soff rfl rfl rfl rfl ?_
    refine soff rfl rfl rfl rfl ?_
    refine sv rfl (opv_pick_f rfl rfl) ?_
    refine sv rfl (opv_mv rfl) ?_
    refine soff rfl rfl rfl rfl ?_
    refine soff rfl rfl rfl rfl ?_
    refine soff rfl rfl rfl rfl ?_
    refine soffu rfl rfl rfl ?_
    refine soffu rfl rfl rfl ?_
    refine soffu rfl rfl rfl ?_
    refine soffu rfl rfl rfl ?_
    refine soff rfl rfl rfl rfl ?_
    refine soff rfl rfl rfl rfl ?_
    refine sv rfl (opv_pick_f rfl rfl) ?_
    refine sv rfl (opv_as rfl) ?_
    refine snil ?_
    refine cret ?_
    obtain rfl := Option.some.inj h
    refine ⟨Or.inr rfl, _, _, _, (resVs_cons (ResV.tmp _ _ rfl) resVs_nil), (pubA_id rfl), ?_⟩
    rfl

def m20_chain_Sane_r1 (s1 : Int) (x1 : Int × GChainVer) : Option ((Int) ⊕ (Nat × (Int))) :=
  (m31_chain_saneVer x1.2).bind fun v2 => if (!v2) then (some (.inr (0, s1))) else (if (decide (s1 ≤ x1.2.Ts)) then (some (.inr (0, s1))) else (some (.inl x1.2.Ts)))

def m20_chain_Sane_k3 (s3 : Int) : Option Bool :=
  some true

def m20_chain_Sane_k4 (s4 : Int) : Option Bool :=
  some false
def m20_chain_Sane (a0 : GChainChain) : Option Bool :=
  (it39 a0).bind fun L1 => (rangeL m20_chain_Sane_r1 L1 1099511627777).bind fun e => rangeK m20_chain_Sane_k3 m20_chain_Sane_k4 (fun _ _ => none) e

set_option maxRecDepth 100000 in
theorem m20_chain_Sane_c {a0 : GChainChain} {r : Bool} (h : m20_chain_Sane a0 = some r) : CallsA Try.prog 20 [.agg [.sl a0.L.length (a0.L.flatMap eGChainVer)]] (· = .s (.one (.b r))) := by
  unfold m20_chain_Sane at h
  refine callsA_ofI Try.func20 rfl (nt := 21) rfl (Nat.le_of_ble_eq_true rfl) ?_
  intro w0 S0
  refine iseq ?_
  refine iregion rfl (fun w0 S0 X0 m0 H0 => ?_)
  refine sboxc rfl rfl rfl ?_
  refine salloc rfl zi4 ?_
  refine snil ?_
  refine iseq ?_
  refine iregion rfl (fun w0 S0 X0 m0 H0 => ?_)
  refine salloc rfl zi3 ?_
  refine sstore sz3 rfl rfl rfl rfl (Nat.le_of_ble_eq_true rfl) ?_
  refine smem [.box [.b false], .box [.i .i64 1099511627777]] rfl ?_
  refine snil ?_
  refine iseq ?_
  refine iseq ?_
  refine iregion rfl (fun w0 S0 X0 m0 H0 => ?_)
  refine sv rfl (opv_loadNe (ys := [.sl a0.L.length (a0.L.flatMap eGChainVer)]) ti32 rfl (.cp _) rfl rfl) ?_
  refine scall1 rfl fn34 (opnds_cons rfl opnds_nil) (pubA_id rfl) m34_chain_backward_c ?_
  refine snil ?_
  refine iblock ?_
  obtain ⟨L1, hL1, h⟩ := bind_eq h
  obtain ⟨e1, he1, h⟩ := bind_eq h
  refine irangeL m20_chain_Sane_r1 L1 (fun x1 => .one (.i .i64 x1.1)) (fun x1 => .agg [.i .i64 x1.2.Ts, .sl x1.2.Val.length (x1.2.Val.flatMap eU8), .b x1.2.Del]) (fun s1 => [.box [.b false], .box [.i .i64 s1]]) 1099511627777 he1 rfl fn39 rfl (it39_c hL1) rfl rfl rfl (fun _ => rfl) (fun _ => blkinb_of rfl) ?_ ?_ ?_ ?_
  · clear h
    intro x1 s1 y1 l h w0 S0 X0 H0
    unfold m20_chain_Sane_r1 at h
    refine iregion rfl (fun w0 S0 X0 m0 H0 => ?_)
    refine salloc rfl zi34 ?_
    refine sstore sz34 rfl rfl rfl rfl (Nat.le_of_ble_eq_true rfl) ?_
    refine smem [.box [.b false], .box [.i .i64 s1], .box [.i .i64 x1.2.Ts, .sl x1.2.Val.length (x1.2.Val.flatMap eU8), .b x1.2.Del]] rfl ?_
    refine snil ?_
    refine fun w0 S0 X0 H0 => ?_
    refine iblock ?_
    refine iseq ?_
    refine iseq ?_
    refine iregion rfl (fun w0 S0 X0 m0 H0 => ?_)
    refine sv rfl (opv_loadN ti34 rfl (.lp _ _ _ rfl) (Nat.le_of_ble_eq_true rfl)) ?_
    obtain ⟨v2, hv2, h⟩ := bind_eq h
    refine scall1 rfl fn31 (opnds_cons rfl opnds_nil) (pubA_id rfl) (m31_chain_saneVer_c hv2) ?_
    refine sv rfl (opv_not rfl) ?_
    refine sv rfl (opv_mv rfl) ?_
    refine ssplit 13 rfl (fun hc => ?_) (fun hc => ?_)
    · replace h := ite_t hc h
      clear hc
      refine soff rfl rfl rfl rfl ?_
      refine soff rfl rfl rfl rfl ?_
      refine soff rfl rfl rfl rfl ?_
      refine soff rfl rfl rfl rfl ?_
      refine sv rfl (opv_pick_t rfl rfl) ?_
      refine snil ?_
      refine icond rfl (fun _ => ?_) (fun hx => Bool.noConfusion hx)
      refine iseq ?_
      refine iregion rfl (fun w0 S0 X0 m0 H0 => ?_)
      refine sstore sz4 rfl rfl rfl rfl (Nat.le_of_ble_eq_true rfl) ?_
      refine smem [.box [.b false], .box [.i .i64 s1], .box [.i .i64 x1.2.Ts, .sl x1.2.Val.length (x1.2.Val.flatMap eU8), .b x1.2.Del]] rfl ?_
      refine snil ?_
      refine iret ?_
      refine then_ret ?_
      refine block_ret ?_
      obtain rfl := Option.some.inj h
      exact ⟨s1, _, rfl, rfl⟩
    · replace h := ite_f hc h
      clear hc
      refine son rfl rfl rfl ?_
      refine sv rfl (opv_fieldAddr_lp fi34_0 rfl) ?_
      refine son rfl rfl rfl ?_
      refine sv rfl (opv_load1 ti3 rfl (.lp _ _ _ rfl) rfl) ?_
      refine son rfl rfl rfl ?_
      refine sv rfl (opv_load1 ti3 rfl (.lp _ _ _ rfl) rfl) ?_
      refine son rfl rfl rfl ?_
      refine sv rfl (opv_geq rfl rfl) ?_
      refine sv rfl (opv_pick_f rfl rfl) ?_
      refine snil ?_
      refine icond rfl (fun hc => ?_) (fun hc => ?_)
      · replace h := ite_t hc h
        clear hc
        refine iseq ?_
        refine iregion rfl (fun w0 S0 X0 m0 H0 => ?_)
        refine sstore sz4 rfl rfl rfl rfl (Nat.le_of_ble_eq_true rfl) ?_
        refine smem [.box [.b false], .box [.i .i64 s1], .box [.i .i64 x1.2.Ts, .sl x1.2.Val.length (x1.2.Val.flatMap eU8), .b x1.2.Del]] rfl ?_
        refine snil ?_
        refine iret ?_
        refine then_ret ?_
        refine block_ret ?_
        obtain rfl := Option.some.inj h
        exact ⟨s1, _, rfl, rfl⟩
      · replace h := ite_f hc h
        clear hc
        refine iskip ?_
        refine then_normal ?_
        refine iregion rfl (fun w0 S0 X0 m0 H0 => ?_)
        refine sv rfl (opv_fieldAddr_lp fi34_0 rfl) ?_
        refine sv rfl (opv_load1 ti3 rfl (.lp _ _ _ rfl) rfl) ?_
        refine sstore sz3 rfl rfl rfl rfl (Nat.le_of_ble_eq_true rfl) ?_
        refine smem [.box [.b false], .box [.i .i64 x1.2.Ts], .box [.i .i64 x1.2.Ts, .sl x1.2.Val.length (x1.2.Val.flatMap eU8), .b x1.2.Del]] rfl ?_
        refine snil0 ?_
        refine block_normal ?_
        obtain rfl := Option.some.inj h
        exact ⟨x1.2.Ts, _, rfl, rfl⟩
  · intro s3 hs
    obtain rfl := hs
    replace h : m20_chain_Sane_k3 s3 = some r := h
    unfold m20_chain_Sane_k3 at h
    refine block_normal ?_
    refine then_normal ?_
    refine iseq ?_
    refine iregion rfl (fun w0 S0 X0 m0 H0 => ?_)
    refine sstore sz4 rfl rfl rfl rfl (Nat.le_of_ble_eq_true rfl) ?_
    refine smem [.box [.b true], .box [.i .i64 s3]] rfl ?_
    refine snil ?_
    refine iret ?_
    obtain rfl := Option.some.inj h
    refine ⟨Or.inr rfl, _, _, _, (resVs_cons (ResV.one _ _ _ _ _ ti4 rfl (.lp _ _ _ rfl) rfl) resVs_nil), (pubA_id rfl), ?_⟩
    rfl
  · intro s4 hs
    obtain rfl := hs
    replace h : m20_chain_Sane_k4 s4 = some r := h
    unfold m20_chain_Sane_k4 at h
    refine block_ret ?_
    refine then_ret ?_
    obtain rfl := Option.some.inj h
    refine ⟨Or.inr rfl, _, _, _, (resVs_cons (ResV.one _ _ _ _ _ ti4 rfl (.lp _ _ _ rfl) rfl) resVs_nil), (pubA_id rfl), ?_⟩
    rfl
  · intro id s hs
    obtain rfl := hs
    replace h : none = some r := h
    cases h

def m22_chain_Last_r1 (s1 : Int) (x1 : Int × GChainVer) : Option ((Int) ⊕ (Nat × (Int))) :=
  some (.inr (0, x1.2.Ts))

def m22_chain_Last_k2 (s2 : Int) : Option Int :=
  some 0

def m22_chain_Last_k3 (s3 : Int) : Option Int :=
  some s3
def m22_chain_Last (a0 : GChainChain) : Option Int :=
  (it39 a0).bind fun L1 => (rangeL m22_chain_Last_r1 L1 0).bind fun e => rangeK m22_chain_Last_k2 m22_chain_Last_k3 (fun _ _ => none) e

set_option maxRecDepth 100000 in
theorem m22_chain_Last_c {a0 : GChainChain} {r : Int} (h : m22_chain_Last a0 = some r) : CallsA Try.prog 22 [.agg [.sl a0.L.length (a0.L.flatMap eGChainVer)]] (· = .s (.one (.i .i64 r))) := by
  unfold m22_chain_Last at h
  refine callsA_ofI Try.func22 rfl (nt := 11) rfl (Nat.le_of_ble_eq_true rfl) ?_
  intro w0 S0
  refine iseq ?_
  refine iregion rfl (fun w0 S0 X0 m0 H0 => ?_)
  refine sboxc rfl rfl rfl ?_
  refine salloc rfl zi3 ?_
  refine snil ?_
  refine iseq ?_
  refine iseq ?_
  refine iregion rfl (fun w0 S0 X0 m0 H0 => ?_)
  refine sv rfl (opv_loadNe (ys := [.sl a0.L.length (a0.L.flatMap eGChainVer)]) ti32 rfl (.cp _) rfl rfl) ?_
  refine scall1 rfl fn34 (opnds_cons rfl opnds_nil) (pubA_id rfl) m34_chain_backward_c ?_
  refine snil ?_
  refine iblock ?_
  obtain ⟨L1, hL1, h⟩ := bind_eq h
  obtain ⟨e1, he1, h⟩ := bind_eq h
  refine irangeL m22_chain_Last_r1 L1 (fun x1 => .one (.i .i64 x1.1)) (fun x1 => .agg [.i .i64 x1.2.Ts, .sl x1.2.Val.length (x1.2.Val.flatMap eU8), .b x1.2.Del]) (fun s1 => [.box [.i .i64 s1]]) 0 he1 rfl fn39 rfl (it39_c hL1) rfl rfl rfl (fun _ => rfl) (fun _ => blkinb_of rfl) ?_ ?_ ?_ ?_
  · clear h
    intro x1 s1 y1 l h w0 S0 X0 H0
    unfold m22_chain_Last_r1 at h
    refine iregion rfl (fun w0 S0 X0 m0 H0 => ?_)
    refine salloc rfl zi34 ?_
    refine sstore sz34 rfl rfl rfl rfl (Nat.le_of_ble_eq_true rfl) ?_
    refine smem [.box [.i .i64 s1], .box [.i .i64 x1.2.Ts, .sl x1.2.Val.length (x1.2.Val.flatMap eU8), .b x1.2.Del]] rfl ?_
    refine snil ?_
    refine fun w0 S0 X0 H0 => ?_
    refine iblock ?_
    refine iseq ?_
    refine iregion rfl (fun w0 S0 X0 m0 H0 => ?_)
    refine sv rfl (opv_fieldAddr_lp fi34_0 rfl) ?_
    refine sv rfl (opv_load1 ti3 rfl (.lp _ _ _ rfl) rfl) ?_
    refine sstore sz3 rfl rfl rfl rfl (Nat.le_of_ble_eq_true rfl) ?_
    refine smem [.box [.i .i64 x1.2.Ts], .box [.i .i64 x1.2.Ts, .sl x1.2.Val.length (x1.2.Val.flatMap eU8), .b x1.2.Del]] rfl ?_
    refine snil ?_
    refine iret ?_
    refine block_ret ?_
    obtain rfl := Option.some.inj h
    exact ⟨x1.2.Ts, _, rfl, rfl⟩
  · intro s2 hs
    obtain rfl := hs
    replace h : m22_chain_Last_k2 s2 = some r := h
    unfold m22_chain_Last_k2 at h
    refine block_normal ?_
    refine then_normal ?_
    refine iseq ?_
    refine iregion rfl (fun w0 S0 X0 m0 H0 => ?_)
    refine sstore sz3 rfl rfl rfl rfl (Nat.le_of_ble_eq_true rfl) ?_
    refine smem [.box [.i .i64 0]] rfl ?_
    refine snil ?_
    refine iret ?_
    obtain rfl := Option.some.inj h
    refine ⟨Or.inr rfl, _, _, _, (resVs_cons (ResV.one _ _ _ _ _ ti3 rfl (.lp _ _ _ rfl) rfl) resVs_nil), (pubA_id rfl), ?_⟩
    rfl
  · intro s3 hs
    obtain rfl := hs
    replace h : m22_chain_Last_k3 s3 = some r := h
    unfold m22_chain_Last_k3 at h
    refine block_ret ?_
    refine then_ret ?_
    obtain rfl := Option.some.inj h
    refine ⟨Or.inr rfl, _, _, _, (resVs_cons (ResV.one _ _ _ _ _ ti3 rfl (.lp _ _ _ rfl) rfl) resVs_nil), (pubA_id rfl), ?_⟩
    rfl
  · intro id s hs
    obtain rfl := hs
    replace h : none = some r := h
    cases h

def m38_slices_Growo_k1 (a0 : Int) (b1 : Unit) : Option (List GChainVer) :=
  if (decide (0 < (wI (a0 - (wI (0 - 0)))))) then (if 0 < (wI (a0 - (wI (0 - 0)))) ∧ (wI (a0 - (wI (0 - 0)))) * ((40 : Nat) : Int) ≤ 281474976710656 then (if (0 : Int) ≤ 0 ∧ 0 ≤ ((List.replicate (wI (a0 - (wI (0 - 0)))).toNat (GChainVer.mk 0 ([] : List UInt8) false)).length : Int) then (some ((List.replicate (wI (a0 - (wI (0 - 0)))).toNat (GChainVer.mk 0 ([] : List UInt8) false)).take (0 : Int).toNat)) else none) else none) else (some ([] : List GChainVer))
def m38_slices_Growo (a0 : Int) : Option (List GChainVer) :=
  if (decide (a0 < 0)) then none else (m38_slices_Growo_k1 a0 ())

set_option maxRecDepth 100000 in
theorem m38_slices_Growo_c {a0 : Int} {r : (List GChainVer)} (h : m38_slices_Growo a0 = some r) : CallsB Try.prog 38 [] [.one (.raw (.slice none 0 0)), .one (.i .i64 a0)] (fun y m' => y = .s (.one (.ls 0 r.length)) ∧ m' = [.arr 34 3 0 (r.flatMap eGChainVer)]) := by
  unfold m38_slices_Growo at h
  refine callsB_of Try.func38 rfl (nt := 27) rfl (Nat.le_of_ble_eq_true rfl) ?_
  intro w0 S0 X0 H0
  refine cseq ?_
  refine cregion ?_
  refine sv rfl (opv_as rfl) ?_
  refine snil ?_
  refine cseq ?_
  refine cseq ?_
  refine cregion ?_
  refine sv rfl (opv_mv rfl) ?_
  refine sv rfl (opv_lss rfl rfl) ?_
  refine snil ?_
  refine cjoin (Unit) (fun b1 => [(0, .s (.one (.raw (.slice none 0 0)))), (1, .s (.one (.i .i64 a0)))]) (fun b1 => []) (fun b1 => m38_slices_Growo_k1 a0 b1 = some r) (fun _ _ => inbL_of rfl) (fun _ _ => blkinb_of rfl) (fun _ _ => Nat.le_of_ble_eq_true rfl) (fun b1 h => ?_) ?_
  · unfold m38_slices_Growo_k1 at h
    refine cseq ?_
    refine cseq ?_
    refine cregion ?_
    refine sv rfl (opv_mv rfl) ?_
    refine sv rfl (opv_mv rfl) ?_
    refine sv rfl (opv_cap_nil si30 rfl) ?_
    refine sv rfl (opv_mv rfl) ?_
    refine sv rfl (opv_len_nil si30 rfl) ?_
    refine sv rfl (opv_sub rfl rfl) ?_
    refine sv rfl (opv_sub rfl rfl) ?_
    refine sv rfl (opv_as rfl) ?_
    refine snil ?_
    refine cseq ?_
    refine cregion ?_
    refine sv rfl (opv_mv rfl) ?_
    refine sv rfl (opv_gtr rfl rfl) ?_
    refine snil ?_
    refine ccond rfl (fun hc => ?_) (fun hc => ?_)
    · replace h := ite_t hc h
      clear hc
      refine cregion ?_
      refine sv rfl (opv_mv rfl) ?_
      refine sv rfl (opv_mv rfl) ?_
      refine sv rfl (opv_cap_nil si30 rfl) ?_
      refine sv rfl (opv_slice_nil si30 rfl rfl) ?_
      refine sv rfl (opv_mv rfl) ?_
      obtain ⟨hm2, h⟩ := chk_eq h
      refine sappzc (f := eGChainVer) (z := (GChainVer.mk 0 ([] : List UInt8) false)) rfl Try.underlying30 ei34 Try.underlying3 (fun _ => rfl) rfl rfl rfl hm2 (by decide) ?_
      refine sv rfl (opv_mv rfl) ?_
      refine sv rfl (opv_len_nil si30 rfl) ?_
      obtain ⟨hs3, h⟩ := chk_eq h
      refine strunc (f := eGChainVer) rfl si30 (fun _ => rfl) rfl rfl rfl rfl rfl hs3 ?_
      refine sv rfl (opv_as rfl) ?_
      refine snil ?_
      refine cseq ?_
      refine cregion ?_
      refine sv rfl (opv_mv rfl) ?_
      refine sv rfl (opv_as rfl) ?_
      refine snil ?_
      refine cret ?_
      obtain rfl := Option.some.inj h
      exact ⟨Or.inr rfl, _, [1], [.one (.ls 0 ((List.replicate (wI (a0 - (wI (0 - 0)))).toNat (GChainVer.mk 0 ([] : List UInt8) false)).take (0 : Int).toNat).length)], [.arr 34 3 0 (((List.replicate (wI (a0 - (wI (0 - 0)))).toNat (GChainVer.mk 0 ([] : List UInt8) false)).take (0 : Int).toNat).flatMap eGChainVer)], (resVs_cons (ResV.tmp _ _ rfl) resVs_nil), rfl, rfl, ⟨by decide, rfl⟩, rfl, rfl, ⟨rfl, rfl⟩⟩
    · replace h := ite_f hc h
      clear hc
      refine cskip ?_
      refine then_normal ?_
      refine cseq ?_
      refine cregion ?_
      refine sv rfl (opv_mv rfl) ?_
      refine sv rfl (opv_as rfl) ?_
      refine snil ?_
      refine sadopt_c 34 3 4 (by decide) rfl ?_
      refine cret ?_
      obtain rfl := Option.some.inj h
      exact ⟨Or.inr rfl, _, [0], [.one (.ls 0 ([] : List GChainVer).length)], [.arr 34 3 0 (([] : List GChainVer).flatMap eGChainVer)], (resVs_cons (ResV.tmp _ _ rfl) resVs_nil), rfl, rfl, ⟨by decide, rfl⟩, rfl, rfl, ⟨rfl, rfl⟩⟩
  · skip
    refine ccond rfl (fun hc => ?_) (fun hc => ?_)
    · replace h := ite_t hc h
      clear hc
      cases h
    · replace h := ite_f hc h
      clear hc
      refine cskip ?_
      refine then_normal ?_
      exact ⟨(), _, h, ⟨rfl, rfl, trivial⟩, rfl⟩

def m32_slices_Concato_k3 (b3 : (List GChainVer)) : Option (List GChainVer) :=
  some b3

def m32_slices_Concato_s4 (a0 : List (List GChainVer)) (s4 : Int × (List GChainVer)) : Option (LB (Int × (List GChainVer)) ((List GChainVer))) :=
  if (decide (s4.1 < (a0.length : Int))) then ((idx a0 s4.1).bind fun u5 => if (s4.2.length + u5.length) * 40 ≤ 140737488355328 then (some (.cont ((wI (s4.1 + 1)), (s4.2 ++ u5)))) else none) else (some (.brk s4.2))

def m32_slices_Concato_k1 (a0 : List (List GChainVer)) (b1 : Int) : Option (List GChainVer) :=
  (m38_slices_Growo b1).bind fun v2 => (iterB (m32_slices_Concato_s4 a0) fuel (0, v2)).bind fun e7 => m32_slices_Concato_k3 e7

def m32_slices_Concato_s8 (a0 : List (List GChainVer)) (s8 : Int × Int) : Option (LB (Int × Int) (Int)) :=
  if (decide (s8.2 < (a0.length : Int))) then ((idx a0 s8.2).bind fun u9 => if (decide ((wI (s8.1 + (u9.length : Int))) < 0)) then none else (some (.cont ((wI (s8.1 + (u9.length : Int))), (wI (s8.2 + 1)))))) else (some (.brk s8.1))
def m32_slices_Concato (a0 : List (List GChainVer)) : Option (List GChainVer) :=
  (iterB (m32_slices_Concato_s8 a0) fuel (0, 0)).bind fun e10 => m32_slices_Concato_k1 a0 e10

set_option maxRecDepth 100000 in
theorem m32_slices_Concato_c {a0 : List (List GChainVer)} {r : (List GChainVer)} (h : m32_slices_Concato a0 = some r) : CallsB Try.prog 32 [] [.one (.sl a0.length (a0.flatMap (eL eGChainVer)))] (fun y m' => y = .s (.one (.ls 0 r.length)) ∧ m' = [.arr 34 3 0 (r.flatMap eGChainVer)]) := by
  unfold m32_slices_Concato at h
  refine callsB_of Try.func32 rfl (nt := 36) rfl (Nat.le_of_ble_eq_true rfl) ?_
  intro w0 S0 X0 H0
  refine cseq ?_
  refine cregion ?_
  refine sv rfl (opv_as rfl) ?_
  refine snil ?_
  refine cseq ?_
  refine cregion ?_
  refine sv rfl (opv_as rfl) ?_
  refine snil ?_
  refine cseq ?_
  refine cseq ?_
  refine cregion ?_
  refine sv rfl (opv_mv rfl) ?_
  refine sv rfl (opv_len_sl si72 rfl) ?_
  refine sv rfl (opv_mv rfl) ?_
  refine snil ?_
  refine cjoin (Int) (fun b1 => [(0, .s (.one (.sl a0.length (a0.flatMap (eL eGChainVer))))), (3, .s (.one (.i .i64 b1)))]) (fun b1 => []) (fun b1 => m32_slices_Concato_k1 a0 b1 = some r) (fun _ _ => inbL_of rfl) (fun _ _ => blkinb_of rfl) (fun _ _ => Nat.le_of_ble_eq_true rfl) (fun b1 h => ?_) ?_
  · unfold m32_slices_Concato_k1 at h
    refine cseq ?_
    refine cregion ?_
    refine sv rfl (opv_mv rfl) ?_
    obtain ⟨v2, hv2, h⟩ := bind_eq h
    refine scallB (x' := .s (.one (.ls 0 v2.length))) (M' := [.arr 34 3 0 (v2.flatMap eGChainVer)]) [] rfl fn38 (.func _) (opnds_cons rfl (opnds_cons rfl opnds_nil)) (m38_slices_Growo_c hv2) rfl rfl (by decide) rfl rfl rfl ?_
    refine sv rfl (opv_as rfl) ?_
    refine snil ?_
    refine cseq ?_
    refine cseq ?_
    refine cregion ?_
    refine sv rfl (opv_mv rfl) ?_
    refine sv rfl (opv_len_sl si72 rfl) ?_
    refine sv rfl (opv_mv rfl) ?_
    refine snil ?_
    refine cjoin ((List GChainVer)) (fun b3 => [(6, .s (.one (.ls 0 b3.length)))]) (fun b3 => [.arr 34 3 0 (b3.flatMap eGChainVer)]) (fun b3 => m32_slices_Concato_k3 b3 = some r) (fun _ _ => inbL_of rfl) (fun _ _ => blkinb_of rfl) (fun _ _ => Nat.le_of_ble_eq_true rfl) (fun b3 h => ?_) ?_
    · unfold m32_slices_Concato_k3 at h
      refine cseq ?_
      refine cregion ?_
      refine sv rfl (opv_mv rfl) ?_
      refine sv rfl (opv_as rfl) ?_
      refine snil ?_
      refine cret ?_
      obtain rfl := Option.some.inj h
      exact ⟨Or.inr rfl, _, [0], [.one (.ls 0 b3.length)], [.arr 34 3 0 (b3.flatMap eGChainVer)], (resVs_cons (ResV.tmp _ _ rfl) resVs_nil), rfl, rfl, ⟨by decide, rfl⟩, rfl, rfl, ⟨rfl, rfl⟩⟩
    · skip
      refine cblock ?_
      obtain ⟨x4, hx4, ho4⟩ := bind_eq h
      refine awc_loop (G := Nat × (Int × (List GChainVer))) (fun g => [(6, .s (.one (.ls 0 g.2.2.length))), (25, .s (.one (.sl a0.length (a0.flatMap (eL eGChainVer))))), (26, .s (.one (.i .i64 (a0.length : Int)))), (27, .s (.one (.i .i64 g.2.1)))]) (fun g => [.arr 34 3 0 (g.2.2.flatMap eGChainVer)]) (fun g => iterB (m32_slices_Concato_s4 a0) g.1 g.2 = some x4) (fun g => g.1) (fuel, (0, v2)) hx4 ⟨rfl, rfl, rfl, rfl, trivial⟩ [] rfl (fun _ _ => inbL_of rfl) (fun _ _ => blkinb_of rfl) (fun _ _ => Nat.le_of_ble_eq_true rfl) ?_
      clear hx4 h
      rintro ⟨n4, s4⟩ h
      obtain ⟨n4, y4, rfl, h, hk4⟩ := iterB_eq h
      unfold m32_slices_Concato_s4 at h
      refine cseq ?_
      refine cregion ?_
      refine sv rfl (opv_lss rfl rfl) ?_
      refine snil ?_
      refine cseq ?_
      refine ccond rfl (fun hc => ?_) (fun hc => ?_)
      · replace h := ite_t hc h
        clear hc
        refine cskip ?_
        refine then_normal ?_
        refine cseq ?_
        refine cblock ?_
        refine cseq ?_
        refine cregion ?_
        obtain ⟨u5, hu5, h⟩ := bind_eq h
        refine sv rfl (opv_ix (f := (eL eGChainVer)) si72 (fun _ => rfl) rfl rfl rfl rfl hu5) ?_
        refine sv rfl (opv_load1 ti30 rfl (.cp _) rfl) ?_
        refine sv rfl (opv_as rfl) ?_
        refine snil ?_
        refine cregion ?_
        refine sv rfl (opv_mv rfl) ?_
        refine sv rfl (opv_mv rfl) ?_
        obtain ⟨hb6, h⟩ := chk_eq h
        refine sapp (f := eGChainVer) (xs := s4.2) (us := u5) rfl Try.underlying30 ei34 ni30 (fun _ => rfl) rfl rfl (.one _ _ _ _ (.id _ rfl)) rfl rfl rfl (.sl _ _ _ (flat_len (f := eGChainVer) (fun _ => rfl) _)) rfl rfl hb6 (by decide) ?_
        refine sv rfl (opv_as rfl) ?_
        refine snil0 ?_
        refine block_normal ?_
        refine then_normal ?_
        refine cregion ?_
        refine sv rfl (opv_add rfl rfl) ?_
        refine sv rfl (opv_mv rfl) ?_
        refine snil ?_
        obtain rfl := Option.some.inj h
        exact ⟨(n4, ((wI (s4.1 + 1)), (s4.2 ++ u5))), _, hk4, ⟨rfl, rfl, rfl, rfl, trivial⟩, rfl, Nat.lt_succ_self _⟩
      · replace h := ite_f hc h
        clear hc
        refine cexit ?_
        refine then_exit ?_
        refine then_exit ?_
        refine block_hit ?_
        refine then_normal ?_
        obtain rfl := Option.some.inj h
        obtain rfl : _ = x4 := hk4
        exact ⟨s4.2, _, ho4, ⟨rfl, trivial⟩, rfl⟩
  · skip
    refine cblock ?_
    obtain ⟨x8, hx8, ho8⟩ := bind_eq h
    refine awc_loop (G := Nat × (Int × Int)) (fun g => [(0, .s (.one (.sl a0.length (a0.flatMap (eL eGChainVer))))), (3, .s (.one (.i .i64 g.2.1))), (9, .s (.one (.sl a0.length (a0.flatMap (eL eGChainVer))))), (10, .s (.one (.i .i64 (a0.length : Int)))), (11, .s (.one (.i .i64 g.2.2)))]) (fun g => []) (fun g => iterB (m32_slices_Concato_s8 a0) g.1 g.2 = some x8) (fun g => g.1) (fuel, (0, 0)) hx8 ⟨rfl, rfl, rfl, rfl, rfl, trivial⟩ [] rfl (fun _ _ => inbL_of rfl) (fun _ _ => blkinb_of rfl) (fun _ _ => Nat.le_of_ble_eq_true rfl) ?_
    clear hx8 h
    rintro ⟨n8, s8⟩ h
    obtain ⟨n8, y8, rfl, h, hk8⟩ := iterB_eq h
    unfold m32_slices_Concato_s8 at h
    refine cseq ?_
    refine cregion ?_
    refine sv rfl (opv_lss rfl rfl) ?_
    refine snil ?_
    refine cseq ?_
    refine ccond rfl (fun hc => ?_) (fun hc => ?_)
    · replace h := ite_t hc h
      clear hc
      refine cskip ?_
      refine then_normal ?_
      refine cseq ?_
      refine cblock ?_
      refine cseq ?_
      refine cregion ?_
      obtain ⟨u9, hu9, h⟩ := bind_eq h
      refine sv rfl (opv_ix (f := (eL eGChainVer)) si72 (fun _ => rfl) rfl rfl rfl rfl hu9) ?_
      refine sv rfl (opv_load1 ti30 rfl (.cp _) rfl) ?_
      refine sv rfl (opv_as rfl) ?_
      refine snil ?_
      refine cseq ?_
      refine cregion ?_
      refine sv rfl (opv_mv rfl) ?_
      refine sv rfl (opv_mv rfl) ?_
      refine sv rfl (opv_len_sl si30 rfl) ?_
      refine sv rfl (opv_add rfl rfl) ?_
      refine sv rfl (opv_as rfl) ?_
      refine snil ?_
      refine cseq ?_
      refine cregion ?_
      refine sv rfl (opv_mv rfl) ?_
      refine sv rfl (opv_lss rfl rfl) ?_
      refine snil ?_
      refine ccond rfl (fun hc => ?_) (fun hc => ?_)
      · replace h := ite_t hc h
        clear hc
        cases h
      · replace h := ite_f hc h
        clear hc
        refine cskip ?_
        refine block_normal ?_
        refine then_normal ?_
        refine cregion ?_
        refine sv rfl (opv_add rfl rfl) ?_
        refine sv rfl (opv_mv rfl) ?_
        refine snil ?_
        obtain rfl := Option.some.inj h
        exact ⟨(n8, ((wI (s8.1 + (u9.length : Int))), (wI (s8.2 + 1)))), _, hk8, ⟨rfl, rfl, rfl, rfl, rfl, trivial⟩, rfl, Nat.lt_succ_self _⟩
    · replace h := ite_f hc h
      clear hc
      refine cexit ?_
      refine then_exit ?_
      refine then_exit ?_
      refine block_hit ?_
      refine then_normal ?_
      obtain rfl := Option.some.inj h
      obtain rfl : _ = x8 := hk8
      exact ⟨s8.1, _, ho8, ⟨rfl, rfl, trivial⟩, rfl⟩

def m15_chain_Push_k1 (a0 : GChainChain) (a1 : GChainVer) (b1 : Unit) : Option (GChainChain × Int) :=
  (m22_chain_Last a0).bind fun v2 => if (decide (a1.Ts ≤ v2)) then (some ((GChainChain.mk ([] : List GChainVer)), 7)) else ((m32_slices_Concato [a0.L, [a1]]).bind fun v3 => some ((GChainChain.mk v3), 0))
def m15_chain_Push (a0 : GChainChain) (a1 : GChainVer) : Option (GChainChain × Int) :=
  (m20_chain_Sane (GChainChain.mk a0.L)).bind fun v4 => if (!v4) then (some ((GChainChain.mk ([] : List GChainVer)), 1)) else ((m31_chain_saneVer a1).bind fun v5 => if (!v5) then (some ((GChainChain.mk ([] : List GChainVer)), 1)) else (m15_chain_Push_k1 a0 a1 ()))

set_option maxRecDepth 100000 in
theorem m15_chain_Push_c {a0 : GChainChain} {a1 : GChainVer} {r : GChainChain × Int} (h : m15_chain_Push a0 a1 = some r) : CallsA Try.prog 15 [.agg [.sl a0.L.length (a0.L.flatMap eGChainVer)], .agg [.i .i64 a1.Ts, .sl a1.Val.length (a1.Val.flatMap eU8), .b a1.Del]] (· = .tup [.agg [.sl r.1.L.length (r.1.L.flatMap eGChainVer)], .one (.i .i64 r.2)]) := by
  unfold m15_chain_Push at h
  refine callsA_of Try.func15 rfl (nt := 28) rfl (Nat.le_of_ble_eq_true rfl) ?_
  intro w0 S0
  refine cseq ?_
  refine cregion ?_
  refine sbox rfl rfl ?_
  refine sbox rfl rfl ?_
  refine salloc rfl zi32 ?_
  refine sv rfl (opv_as rfl) ?_
  refine snil ?_
  refine cseq ?_
  refine cseq ?_
  refine cjoin3 (Unit) (fun b1 => [(2, .s (.one (.lp 0 0))), (3, .s (.one (.lp 1 0))), (4, .s (.one (.lp 2 0)))]) (fun b1 => [.box [.sl a0.L.length (a0.L.flatMap eGChainVer)], .box [.i .i64 a1.Ts, .sl a1.Val.length (a1.Val.flatMap eU8), .b a1.Del], .box [.raw (.slice none 0 0)]]) (fun b1 => m15_chain_Push_k1 a0 a1 b1 = some r) (fun _ _ => inbL_of rfl) (fun _ _ => blkinb_of rfl) (fun _ _ => Nat.le_of_ble_eq_true rfl) (fun b1 h => ?_) ?_
  · unfold m15_chain_Push_k1 at h
    refine cseq ?_
    refine cseq ?_
    refine cdraw mixed (by kernel_rfl) ?_
    refine dv rfl (opv_fieldAddr_lp fi34_0 rfl) ?_
    refine dv rfl (opv_load1 ti3 rfl (.lp _ _ _ rfl) rfl) ?_
    refine dv rfl (opv_loadN ti32 rfl (.lp _ _ _ rfl) (Nat.le_of_ble_eq_true rfl)) ?_
    obtain ⟨v2, hv2, h⟩ := bind_eq h
    refine dd rfl (opD_call fn22 (opnds_cons rfl opnds_nil) rfl (m22_chain_Last_c hv2)) ?_
    refine dv rfl (opv_leq rfl rfl) ?_
    refine dnil ?_
    refine then_normal ?_
    refine ccond rfl (fun hc => ?_) (fun hc => ?_)
    · replace h := ite_t hc h
      clear hc
      refine cseq ?_
      refine cregion ?_
      refine sv rfl (opv_build zi32 pi32 parts_nil (.nil _)) ?_
      refine sstore sz32 rfl rfl rfl rfl (Nat.le_of_ble_eq_true rfl) ?_
      refine smem [.box [.sl a0.L.length (a0.L.flatMap eGChainVer)], .box [.i .i64 a1.Ts, .sl a1.Val.length (a1.Val.flatMap eU8), .b a1.Del], .box [.raw (.slice none 0 0)]] rfl ?_
      refine sv rfl (opv_as rfl) ?_
      refine snil ?_
      refine cret ?_
      refine then_ret ?_
      obtain rfl := Option.some.inj h
      refine ⟨Or.inr rfl, _, _, _, (resVs_cons (ResV.agg _ _ _ _ _ ti32 rfl (.lp _ _ _ rfl) (Nat.le_of_ble_eq_true rfl)) (resVs_cons (ResV.tmp _ _ rfl) resVs_nil)), (pubC rfl), ?_⟩
      rfl
    · replace h := ite_f hc h
      clear hc
      refine cskip ?_
      refine then_normal ?_
      refine cseq ?_
      refine cregion ?_
      refine sv rfl (opv_fieldAddr_lp fi32_0 rfl) ?_
      refine sv rfl (opv_load1 ti30 rfl (.lp _ _ _ rfl) rfl) ?_
      refine sv rfl (opv_loadN ti34 rfl (.lp _ _ _ rfl) (Nat.le_of_ble_eq_true rfl)) ?_
      refine sbuild1 rfl Try.underlying30 ei34 rfl rfl (List.all_eq_true.1 rfl) (by decide) ?_
      refine smem [.box [.sl a0.L.length (a0.L.flatMap eGChainVer)], .box [.i .i64 a1.Ts, .sl a1.Val.length (a1.Val.flatMap eU8), .b a1.Del], .box [.raw (.slice none 0 0)], .arr 34 3 0 ([a1].flatMap eGChainVer)] rfl ?_
      refine spub 24 rfl (by (repeat' first | exact PubA.nil _ | apply PubA.cons | apply PubV.one | apply PubV.agg | exact PubL.nil | exact PubL.ls _ _ _ _ _ _ rfl (flat_len (f := eGChainVer) (fun _ => rfl) ([a1] : List GChainVer)).symm | exact PubL.ls _ _ _ _ _ _ rfl (flat_len (f := eGChainVer) (fun _ => rfl) _).symm | exact PubL.id _ rfl | exact PubLs.nil _ | apply PubLs.cons)) ?_
      refine sbuildN (out := ([a0.L, [a1]] : List (List GChainVer)).flatMap (eL eGChainVer)) rfl Try.underlying72 ei30 (parts_cons rfl (parts_cons rfl parts_nil)) (.cons _ _ _ _ _ _ _ rfl rfl (Nat.le_of_ble_eq_true rfl) (.cons _ _ _ _ _ _ _ rfl rfl (Nat.le_of_ble_eq_true rfl) (.nil _))) rfl (by decide) ?_
      refine spub 25 rfl (by (repeat' first | exact PubA.nil _ | apply PubA.cons | apply PubV.one | apply PubV.agg | exact PubL.nil | exact PubL.ls _ _ _ _ _ _ rfl (flat_len (f := (eL eGChainVer)) (fun _ => rfl) ([a0.L, [a1]] : List (List GChainVer))).symm | exact PubL.ls _ _ _ _ _ _ rfl (flat_len (f := (eL eGChainVer)) (fun _ => rfl) _).symm | exact PubL.ls _ _ _ _ _ _ rfl (flat_len (f := eGChainVer) (fun _ => rfl) _).symm | exact PubL.id _ rfl | exact PubLs.nil _ | apply PubLs.cons)) ?_
      obtain ⟨v3, hv3, h⟩ := bind_eq h
      refine scallB (x' := .s (.one (.ls 5 v3.length))) (M' := [.box [.sl a0.L.length (a0.L.flatMap eGChainVer)], .box [.i .i64 a1.Ts, .sl a1.Val.length (a1.Val.flatMap eU8), .b a1.Del], .box [.raw (.slice none 0 0)], .arr 34 3 ([a1].flatMap eGChainVer).length ([a1].flatMap eGChainVer), .arr 30 1 ([a0.L, [a1]].flatMap (eL eGChainVer)).length ([a0.L, [a1]].flatMap (eL eGChainVer)), .arr 34 3 0 (v3.flatMap eGChainVer)]) [] rfl fn32 (.func _) (opnds_cons rfl opnds_nil) (m32_slices_Concato_c hv3) rfl rfl (by decide) rfl rfl rfl ?_
      refine sv rfl (opv_build zi32 pi32 (parts_cons rfl parts_nil) (.cons _ _ _ _ _ _ _ rfl rfl (Nat.le_of_ble_eq_true rfl) (.nil _))) ?_
      refine sstore sz32 rfl rfl rfl rfl (Nat.le_of_ble_eq_true rfl) ?_
      refine smem [.box [.sl a0.L.length (a0.L.flatMap eGChainVer)], .box [.i .i64 a1.Ts, .sl a1.Val.length (a1.Val.flatMap eU8), .b a1.Del], .box [.ls 5 v3.length], .arr 34 3 ([a1].flatMap eGChainVer).length ([a1].flatMap eGChainVer), .arr 30 1 ([a0.L, [a1]].flatMap (eL eGChainVer)).length ([a0.L, [a1]].flatMap (eL eGChainVer)), .arr 34 3 0 (v3.flatMap eGChainVer)] rfl ?_
      refine sv rfl (opv_as rfl) ?_
      refine snil ?_
      refine cret ?_
      obtain rfl := Option.some.inj h
      refine ⟨Or.inr rfl, _, _, _, (resVs_cons (ResV.agg _ _ _ _ _ ti32 rfl (.lp _ _ _ rfl) (Nat.le_of_ble_eq_true rfl)) (resVs_cons (ResV.tmp _ _ rfl) resVs_nil)), (by (repeat' first | exact PubA.nil _ | apply PubA.cons | apply PubV.one | apply PubV.agg | exact PubL.nil | exact PubL.ls _ _ _ _ _ _ rfl (flat_len (f := (eL eGChainVer)) (fun _ => rfl) _).symm | exact PubL.ls _ _ _ _ _ _ rfl (flat_len (f := eGChainVer) (fun _ => rfl) _).symm | exact PubL.id _ rfl | exact PubLs.nil _ | apply PubLs.cons)), ?_⟩
      rfl
  · skip
    refine cregion ?_
    refine sv rfl (opv_loadN ti32 rfl (.lp _ _ _ rfl) (Nat.le_of_ble_eq_true rfl)) ?_
    obtain ⟨v4, hv4, h⟩ := bind_eq h
    refine scall1 rfl fn20 (opnds_cons rfl opnds_nil) (pubA_id rfl) (m20_chain_Sane_c hv4) ?_
    refine sv rfl (opv_not rfl) ?_
    refine sv rfl (opv_mv rfl) ?_
    refine ssplit 9 rfl (fun hc => ?_) (fun hc => ?_)
    · replace h := ite_t hc h
      clear hc
      refine soff rfl rfl rfl rfl ?_
      refine soff rfl rfl rfl rfl ?_
      refine soff rfl rfl rfl rfl ?_
      refine sv rfl (opv_pick_t rfl rfl) ?_
      refine snil ?_
      refine ccond rfl (fun _ => ?_) (fun hx => Bool.noConfusion hx)
      refine cseq ?_
      refine cregion ?_
      refine sv rfl (opv_build zi32 pi32 parts_nil (.nil _)) ?_
      refine sstore sz32 rfl rfl rfl rfl (Nat.le_of_ble_eq_true rfl) ?_
      refine smem [.box [.sl a0.L.length (a0.L.flatMap eGChainVer)], .box [.i .i64 a1.Ts, .sl a1.Val.length (a1.Val.flatMap eU8), .b a1.Del], .box [.raw (.slice none 0 0)]] rfl ?_
      refine sv rfl (opv_as rfl) ?_
      refine snil ?_
      refine cret ?_
      refine then_ret ?_
      obtain rfl := Option.some.inj h
      refine ⟨Or.inr rfl, _, _, _, (resVs_cons (ResV.agg _ _ _ _ _ ti32 rfl (.lp _ _ _ rfl) (Nat.le_of_ble_eq_true rfl)) (resVs_cons (ResV.tmp _ _ rfl) resVs_nil)), (pubC rfl), ?_⟩
      rfl
    · replace h := ite_f hc h
      clear hc
      refine son rfl rfl rfl ?_
      refine sv rfl (opv_loadN ti34 rfl (.lp _ _ _ rfl) (Nat.le_of_ble_eq_true rfl)) ?_
      refine son rfl rfl rfl ?_
      obtain ⟨v5, hv5, h⟩ := bind_eq h
      refine scall1 rfl fn31 (opnds_cons rfl opnds_nil) (pubA_id rfl) (m31_chain_saneVer_c hv5) ?_
      refine son rfl rfl rfl ?_
      refine sv rfl (opv_not rfl) ?_
      refine sv rfl (opv_pick_f rfl rfl) ?_
      refine snil ?_
      refine ccond rfl (fun hc => ?_) (fun hc => ?_)
      · replace h := ite_t hc h
        clear hc
        refine cseq ?_
        refine cregion ?_
        refine sv rfl (opv_build zi32 pi32 parts_nil (.nil _)) ?_
        refine sstore sz32 rfl rfl rfl rfl (Nat.le_of_ble_eq_true rfl) ?_
        refine smem [.box [.sl a0.L.length (a0.L.flatMap eGChainVer)], .box [.i .i64 a1.Ts, .sl a1.Val.length (a1.Val.flatMap eU8), .b a1.Del], .box [.raw (.slice none 0 0)]] rfl ?_
        refine sv rfl (opv_as rfl) ?_
        refine snil ?_
        refine cret ?_
        refine then_ret ?_
        obtain rfl := Option.some.inj h
        refine ⟨Or.inr rfl, _, _, _, (resVs_cons (ResV.agg _ _ _ _ _ ti32 rfl (.lp _ _ _ rfl) (Nat.le_of_ble_eq_true rfl)) (resVs_cons (ResV.tmp _ _ rfl) resVs_nil)), (pubC rfl), ?_⟩
        rfl
      · replace h := ite_f hc h
        clear hc
        refine cskip ?_
        refine then_normal ?_
        exact ⟨(), _, h, ⟨rfl, rfl, rfl, trivial⟩, rfl⟩

def m29_chain_seen_r1 (a1 : Int) (s1 : Int) (x1 : Int × GChainVer) : Option ((Int) ⊕ (Nat × (Int))) :=
  if (decide (x1.2.Ts ≤ a1)) then (some (.inr (0, x1.1))) else (some (.inl s1))

def m29_chain_seen_k2 (s2 : Int) : Option Int :=
  some (-1)

def m29_chain_seen_k3 (s3 : Int) : Option Int :=
  some s3
def m29_chain_seen (a0 : GChainChain) (a1 : Int) : Option Int :=
  (it39 a0).bind fun L1 => (rangeL (m29_chain_seen_r1 a1) L1 0).bind fun e => rangeK m29_chain_seen_k2 m29_chain_seen_k3 (fun _ _ => none) e

set_option maxRecDepth 100000 in
theorem m29_chain_seen_c {a0 : GChainChain} {a1 : Int} {r : Int} (h : m29_chain_seen a0 a1 = some r) : CallsA Try.prog 29 [.agg [.sl a0.L.length (a0.L.flatMap eGChainVer)], .one (.i .i64 a1)] (· = .s (.one (.i .i64 r))) := by
  unfold m29_chain_seen at h
  refine callsA_ofI Try.func29 rfl (nt := 16) rfl (Nat.le_of_ble_eq_true rfl) ?_
  intro w0 S0
  refine iseq ?_
  refine iregion rfl (fun w0 S0 X0 m0 H0 => ?_)
  refine sboxc rfl rfl rfl ?_
  refine sboxc rfl rfl rfl ?_
  refine salloc rfl zi3 ?_
  refine snil ?_
  refine iseq ?_
  refine iseq ?_
  refine iregion rfl (fun w0 S0 X0 m0 H0 => ?_)
  refine sv rfl (opv_loadNe (ys := [.sl a0.L.length (a0.L.flatMap eGChainVer)]) ti32 rfl (.cp _) rfl rfl) ?_
  refine scall1 rfl fn34 (opnds_cons rfl opnds_nil) (pubA_id rfl) m34_chain_backward_c ?_
  refine snil ?_
  refine iblock ?_
  obtain ⟨L1, hL1, h⟩ := bind_eq h
  obtain ⟨e1, he1, h⟩ := bind_eq h
  refine irangeL (m29_chain_seen_r1 a1) L1 (fun x1 => .one (.i .i64 x1.1)) (fun x1 => .agg [.i .i64 x1.2.Ts, .sl x1.2.Val.length (x1.2.Val.flatMap eU8), .b x1.2.Del]) (fun s1 => [.box [.i .i64 s1]]) 0 he1 rfl fn39 rfl (it39_c hL1) rfl rfl rfl (fun _ => rfl) (fun _ => blkinb_of rfl) ?_ ?_ ?_ ?_
  · clear h
    intro x1 s1 y1 l h w0 S0 X0 H0
    unfold m29_chain_seen_r1 at h
    refine iseq ?_
    refine iregion rfl (fun w0 S0 X0 m0 H0 => ?_)
    refine sv rfl (opv_as rfl) ?_
    refine snil ?_
    refine iregion rfl (fun w0 S0 X0 m0 H0 => ?_)
    refine salloc rfl zi34 ?_
    refine sstore sz34 rfl rfl rfl rfl (Nat.le_of_ble_eq_true rfl) ?_
    refine smem [.box [.i .i64 s1], .box [.i .i64 x1.2.Ts, .sl x1.2.Val.length (x1.2.Val.flatMap eU8), .b x1.2.Del]] rfl ?_
    refine snil ?_
    refine fun w0 S0 X0 H0 => ?_
    refine iblock ?_
    refine iseq ?_
    refine iregion rfl (fun w0 S0 X0 m0 H0 => ?_)
    refine sv rfl (opv_fieldAddr_lp fi34_0 rfl) ?_
    refine sv rfl (opv_load1 ti3 rfl (.lp _ _ _ rfl) rfl) ?_
    refine sv rfl (opv_load1 ti3 rfl (.cp _) rfl) ?_
    refine sv rfl (opv_leq rfl rfl) ?_
    refine snil ?_
    refine icond rfl (fun hc => ?_) (fun hc => ?_)
    · replace h := ite_t hc h
      clear hc
      refine iseq ?_
      refine iregion rfl (fun w0 S0 X0 m0 H0 => ?_)
      refine sv rfl (opv_mv rfl) ?_
      refine sstore sz3 rfl rfl rfl rfl (Nat.le_of_ble_eq_true rfl) ?_
      refine smem [.box [.i .i64 x1.1], .box [.i .i64 x1.2.Ts, .sl x1.2.Val.length (x1.2.Val.flatMap eU8), .b x1.2.Del]] rfl ?_
      refine snil ?_
      refine iret ?_
      refine block_ret ?_
      obtain rfl := Option.some.inj h
      exact ⟨x1.1, _, rfl, rfl⟩
    · replace h := ite_f hc h
      clear hc
      refine iskip ?_
      refine block_normal ?_
      obtain rfl := Option.some.inj h
      exact ⟨s1, _, rfl, rfl⟩
  · intro s2 hs
    obtain rfl := hs
    replace h : m29_chain_seen_k2 s2 = some r := h
    unfold m29_chain_seen_k2 at h
    refine block_normal ?_
    refine then_normal ?_
    refine iseq ?_
    refine iregion rfl (fun w0 S0 X0 m0 H0 => ?_)
    refine sstore sz3 rfl rfl rfl rfl (Nat.le_of_ble_eq_true rfl) ?_
    refine smem [.box [.i .i64 (-1)]] rfl ?_
    refine snil ?_
    refine iret ?_
    obtain rfl := Option.some.inj h
    refine ⟨Or.inr rfl, _, _, _, (resVs_cons (ResV.one _ _ _ _ _ ti3 rfl (.lp _ _ _ rfl) rfl) resVs_nil), (pubA_id rfl), ?_⟩
    rfl
  · intro s3 hs
    obtain rfl := hs
    replace h : m29_chain_seen_k3 s3 = some r := h
    unfold m29_chain_seen_k3 at h
    refine block_ret ?_
    refine then_ret ?_
    obtain rfl := Option.some.inj h
    refine ⟨Or.inr rfl, _, _, _, (resVs_cons (ResV.one _ _ _ _ _ ti3 rfl (.lp _ _ _ rfl) rfl) resVs_nil), (pubA_id rfl), ?_⟩
    rfl
  · intro id s hs
    obtain rfl := hs
    replace h : none = some r := h
    cases h

def m11_chain_At (a0 : GChainChain) (a1 : Int) : Option (GChainVer × Bool) :=
  (m29_chain_seen a0 a1).bind fun v1 => if (decide (v1 < 0)) then (some ((GChainVer.mk 0 ([] : List UInt8) false), false)) else ((idx a0.L v1).bind fun u2 => some (u2, true))

set_option maxRecDepth 100000 in
theorem m11_chain_At_c {a0 : GChainChain} {a1 : Int} {r : GChainVer × Bool} (h : m11_chain_At a0 a1 = some r) : CallsA Try.prog 11 [.agg [.sl a0.L.length (a0.L.flatMap eGChainVer)], .one (.i .i64 a1)] (· = .tup [.agg [.i .i64 r.1.Ts, .sl r.1.Val.length (r.1.Val.flatMap eU8), .b r.1.Del], .one (.b r.2)]) := by
  unfold m11_chain_At at h
  refine callsA_of Try.func11 rfl (nt := 18) rfl (Nat.le_of_ble_eq_true rfl) ?_
  intro w0 S0
  refine cseq ?_
  refine cregion ?_
  refine sbox rfl rfl ?_
  refine salloc rfl zi34 ?_
  refine sv rfl (opv_as rfl) ?_
  refine snil ?_
  refine cseq ?_
  refine cregion ?_
  refine sv rfl (opv_loadN ti32 rfl (.lp _ _ _ rfl) (Nat.le_of_ble_eq_true rfl)) ?_
  refine sv rfl (opv_mv rfl) ?_
  obtain ⟨v1, hv1, h⟩ := bind_eq h
  refine scall1 rfl fn29 (opnds_cons rfl (opnds_cons rfl opnds_nil)) (pubA_id rfl) (m29_chain_seen_c hv1) ?_
  refine sv rfl (opv_as rfl) ?_
  refine snil ?_
  refine cseq ?_
  refine cseq ?_
  refine cregion ?_
  refine sv rfl (opv_mv rfl) ?_
  refine sv rfl (opv_lss rfl rfl) ?_
  refine snil ?_
  refine ccond rfl (fun hc => ?_) (fun hc => ?_)
  · replace h := ite_t hc h
    clear hc
    refine cseq ?_
    refine cregion ?_
    refine sv rfl (opv_build zi34 pi34 parts_nil (.nil _)) ?_
    refine sstore sz34 rfl rfl rfl rfl (Nat.le_of_ble_eq_true rfl) ?_
    refine smem [.box [.sl a0.L.length (a0.L.flatMap eGChainVer)], .box [.i .i64 0, .raw (.slice none 0 0), .b false]] rfl ?_
    refine sv rfl (opv_as rfl) ?_
    refine snil ?_
    refine cret ?_
    refine then_ret ?_
    obtain rfl := Option.some.inj h
    refine ⟨Or.inr rfl, _, _, _, (resVs_cons (ResV.agg _ _ _ _ _ ti34 rfl (.lp _ _ _ rfl) (Nat.le_of_ble_eq_true rfl)) (resVs_cons (ResV.tmp _ _ rfl) resVs_nil)), (pubC rfl), ?_⟩
    rfl
  · replace h := ite_f hc h
    clear hc
    refine cskip ?_
    refine then_normal ?_
    refine cseq ?_
    refine cregion ?_
    refine sv rfl (opv_fieldAddr_lp fi32_0 rfl) ?_
    refine sv rfl (opv_load1 ti30 rfl (.lp _ _ _ rfl) rfl) ?_
    refine sv rfl (opv_mv rfl) ?_
    obtain ⟨u2, hu2, h⟩ := bind_eq h
    refine sv rfl (opv_ix (f := eGChainVer) si30 (fun _ => rfl) rfl rfl rfl rfl hu2) ?_
    refine sv rfl (opv_loadNe (ys := [.i .i64 u2.Ts, .sl u2.Val.length (u2.Val.flatMap eU8), .b u2.Del]) ti34 rfl (.cp _) rfl rfl) ?_
    refine sstore sz34 rfl rfl rfl rfl (Nat.le_of_ble_eq_true rfl) ?_
    refine smem [.box [.sl a0.L.length (a0.L.flatMap eGChainVer)], .box [.i .i64 u2.Ts, .sl u2.Val.length (u2.Val.flatMap eU8), .b u2.Del]] rfl ?_
    refine sv rfl (opv_as rfl) ?_
    refine snil ?_
    refine cret ?_
    obtain rfl := Option.some.inj h
    refine ⟨Or.inr rfl, _, _, _, (resVs_cons (ResV.agg _ _ _ _ _ ti34 rfl (.lp _ _ _ rfl) (Nat.le_of_ble_eq_true rfl)) (resVs_cons (ResV.tmp _ _ rfl) resVs_nil)), (pubA_id rfl), ?_⟩
    rfl

def m8_l07_awake  : Option Bool :=
  (m15_chain_Push (GChainChain.mk ([] : List GChainVer)) (GChainVer.mk 3 [(UInt8.ofBitVec (97#8))] false)).bind fun v1 => (m15_chain_Push v1.1 (GChainVer.mk 7 ([] : List UInt8) false)).bind fun v2 => (m11_chain_At v2.1 6).bind fun v3 => (m11_chain_At v2.1 2).bind fun v4 => if (decide (v1.2 = 0)) then (if (decide (v2.2 = 0)) then (if v3.2 then (if (decide (v3.1.Ts = 3)) then (if (!v4.2) then ((m22_chain_Last v2.1).bind fun v5 => if (decide (v5 = 7)) then ((m20_chain_Sane v2.1).bind fun v6 => some v6) else (some false)) else (some false)) else (some false)) else (some false)) else (some false)) else (some false)

set_option maxRecDepth 100000 in
theorem m8_l07_awake_c  {r : Bool} (h : m8_l07_awake = some r) : CallsA Try.prog 8 [] (· = .s (.one (.b r))) := by
  unfold m8_l07_awake at h
  refine callsA_of Try.func8 rfl (nt := 60) rfl (Nat.le_of_ble_eq_true rfl) ?_
  intro w0 S0
  refine cseq ?_
  refine cregion ?_
  refine sv rfl (opv_as rfl) ?_
  refine snil ?_
  refine cseq ?_
  refine cregion ?_
  refine sv rfl (opv_build zi32 pi32 parts_nil (.nil _)) ?_
  refine sbuild1 rfl Try.underlying25 ei5 rfl rfl (List.all_eq_true.1 rfl) (by decide) ?_
  refine smem [.arr 5 1 0 ([(UInt8.ofBitVec (97#8))].flatMap eU8)] rfl ?_
  refine sconv_id rfl Try.underlying25 Try.underlying5 rfl rfl (flat_len (f := eU8) (fun _ => rfl) [(UInt8.ofBitVec (97#8))]).symm (by decide) ?_
  refine sv rfl (opv_build zi34 pi34 (parts_cons rfl (parts_cons rfl parts_nil)) (.cons _ _ _ _ _ _ _ rfl rfl (Nat.le_of_ble_eq_true rfl) (.cons _ _ _ _ _ _ _ rfl rfl (Nat.le_of_ble_eq_true rfl) (.nil _)))) ?_
  obtain ⟨v1, hv1, h⟩ := bind_eq h
  refine scall1 rfl fn15 (opnds_cons rfl (opnds_cons rfl opnds_nil)) (pubC rfl) (m15_chain_Push_c hv1) ?_
  refine sv rfl (opv_mvt rfl) ?_
  refine sv rfl (opv_extract rfl rfl) ?_
  refine sv rfl (opv_extract rfl rfl) ?_
  refine salloc rfl zi32 ?_
  refine sstore sz32 rfl rfl rfl rfl (Nat.le_of_ble_eq_true rfl) ?_
  refine smem [.dead, .box [.sl v1.1.L.length (v1.1.L.flatMap eGChainVer)]] rfl ?_
  refine sv rfl (opv_as rfl) ?_
  refine snil ?_
  refine cseq ?_
  refine cregion ?_
  refine sv rfl (opv_loadN ti32 rfl (.lp _ _ _ rfl) (Nat.le_of_ble_eq_true rfl)) ?_
  refine sv rfl (opv_build zi34 pi34 (parts_cons rfl parts_nil) (.cons _ _ _ _ _ _ _ rfl rfl (Nat.le_of_ble_eq_true rfl) (.nil _))) ?_
  obtain ⟨v2, hv2, h⟩ := bind_eq h
  refine scall1 rfl fn15 (opnds_cons rfl (opnds_cons rfl opnds_nil)) (pubC rfl) (m15_chain_Push_c hv2) ?_
  refine sv rfl (opv_mvt rfl) ?_
  refine sv rfl (opv_extract rfl rfl) ?_
  refine sv rfl (opv_extract rfl rfl) ?_
  refine salloc rfl zi32 ?_
  refine sstore sz32 rfl rfl rfl rfl (Nat.le_of_ble_eq_true rfl) ?_
  refine smem [.dead, .box [.sl v1.1.L.length (v1.1.L.flatMap eGChainVer)], .box [.sl v2.1.L.length (v2.1.L.flatMap eGChainVer)]] rfl ?_
  refine sv rfl (opv_as rfl) ?_
  refine snil ?_
  refine cseq ?_
  refine cregion ?_
  refine sv rfl (opv_loadN ti32 rfl (.lp _ _ _ rfl) (Nat.le_of_ble_eq_true rfl)) ?_
  obtain ⟨v3, hv3, h⟩ := bind_eq h
  refine scall1 rfl fn11 (opnds_cons rfl (opnds_cons rfl opnds_nil)) (pubA_id rfl) (m11_chain_At_c hv3) ?_
  refine sv rfl (opv_mvt rfl) ?_
  refine sv rfl (opv_extract rfl rfl) ?_
  refine sv rfl (opv_extract rfl rfl) ?_
  refine salloc rfl zi34 ?_
  refine sstore sz34 rfl rfl rfl rfl (Nat.le_of_ble_eq_true rfl) ?_
  refine smem [.dead, .box [.sl v1.1.L.length (v1.1.L.flatMap eGChainVer)], .box [.sl v2.1.L.length (v2.1.L.flatMap eGChainVer)], .box [.i .i64 v3.1.Ts, .sl v3.1.Val.length (v3.1.Val.flatMap eU8), .b v3.1.Del]] rfl ?_
  refine sv rfl (opv_as rfl) ?_
  refine snil ?_
  refine cseq ?_
  refine cregion ?_
  refine sv rfl (opv_loadN ti32 rfl (.lp _ _ _ rfl) (Nat.le_of_ble_eq_true rfl)) ?_
  obtain ⟨v4, hv4, h⟩ := bind_eq h
  refine scall1 rfl fn11 (opnds_cons rfl (opnds_cons rfl opnds_nil)) (pubA_id rfl) (m11_chain_At_c hv4) ?_
  refine sv rfl (opv_mvt rfl) ?_
  refine sv rfl (opv_extract rfl rfl) ?_
  refine sv rfl (opv_extract rfl rfl) ?_
  refine salloc rfl zi34 ?_
  refine sstore sz34 rfl rfl rfl rfl (Nat.le_of_ble_eq_true rfl) ?_
  refine smem [.dead, .box [.sl v1.1.L.length (v1.1.L.flatMap eGChainVer)], .box [.sl v2.1.L.length (v2.1.L.flatMap eGChainVer)], .box [.i .i64 v3.1.Ts, .sl v3.1.Val.length (v3.1.Val.flatMap eU8), .b v3.1.Del], .box [.i .i64 v4.1.Ts, .sl v4.1.Val.length (v4.1.Val.flatMap eU8), .b v4.1.Del]] rfl ?_
  refine sv rfl (opv_as rfl) ?_
  refine snil ?_
  refine cseq ?_
  refine cregion ?_
  refine sv rfl (opv_mv rfl) ?_
  refine sv rfl (opv_ieql rfl rfl) ?_
  refine sv rfl (opv_mv rfl) ?_
  refine ssplit 35 rfl (fun hc => ?_) (fun hc => ?_)
  · replace h := ite_t hc h
    clear hc
    refine son rfl rfl rfl ?_
    refine sv rfl (opv_mv rfl) ?_
    refine son rfl rfl rfl ?_
    refine sv rfl (opv_ieql rfl rfl) ?_
    refine sv rfl (opv_pick_t rfl rfl) ?_
    refine sv rfl (opv_mv rfl) ?_
    refine ssplit 39 rfl (fun hc => ?_) (fun hc => ?_)
    · replace h := ite_t hc h
      clear hc
      refine son rfl rfl rfl ?_
      refine sv rfl (opv_mv rfl) ?_
      refine sv rfl (opv_pick_t rfl rfl) ?_
      refine sv rfl (opv_mv rfl) ?_
      refine ssplit 42 rfl (fun hc => ?_) (fun hc => ?_)
      · replace h := ite_t hc h
        clear hc
        refine son rfl rfl rfl ?_
        refine sv rfl (opv_fieldAddr_lp fi34_0 rfl) ?_
        refine son rfl rfl rfl ?_
        refine sv rfl (opv_load1 ti3 rfl (.lp _ _ _ rfl) rfl) ?_
        refine son rfl rfl rfl ?_
        refine sv rfl (opv_ieql rfl rfl) ?_
        refine sv rfl (opv_pick_t rfl rfl) ?_
        refine sv rfl (opv_mv rfl) ?_
        refine ssplit 47 rfl (fun hc => ?_) (fun hc => ?_)
        · replace h := ite_t hc h
          clear hc
          refine son rfl rfl rfl ?_
          refine sv rfl (opv_mv rfl) ?_
          refine son rfl rfl rfl ?_
          refine sv rfl (opv_not rfl) ?_
          refine sv rfl (opv_pick_t rfl rfl) ?_
          refine sv rfl (opv_mv rfl) ?_
          refine ssplit 51 rfl (fun hc => ?_) (fun hc => ?_)
          · replace h := ite_t hc h
            clear hc
            refine son rfl rfl rfl ?_
            refine sv rfl (opv_loadN ti32 rfl (.lp _ _ _ rfl) (Nat.le_of_ble_eq_true rfl)) ?_
            refine son rfl rfl rfl ?_
            obtain ⟨v5, hv5, h⟩ := bind_eq h
            refine scall1 rfl fn22 (opnds_cons rfl opnds_nil) (pubA_id rfl) (m22_chain_Last_c hv5) ?_
            refine son rfl rfl rfl ?_
            refine sv rfl (opv_ieql rfl rfl) ?_
            refine sv rfl (opv_pick_t rfl rfl) ?_
            refine sv rfl (opv_mv rfl) ?_
            refine ssplit 56 rfl (fun hc => ?_) (fun hc => ?_)
            · replace h := ite_t hc h
              clear hc
              refine son rfl rfl rfl ?_
              refine sv rfl (opv_loadN ti32 rfl (.lp _ _ _ rfl) (Nat.le_of_ble_eq_true rfl)) ?_
              refine son rfl rfl rfl ?_
              obtain ⟨v6, hv6, h⟩ := bind_eq h
              refine scall1 rfl fn20 (opnds_cons rfl opnds_nil) (pubA_id rfl) (m20_chain_Sane_c hv6) ?_
              refine sv rfl (opv_pick_t rfl rfl) ?_
              refine sv rfl (opv_as rfl) ?_
              refine snil ?_
              refine cret ?_
              obtain rfl := Option.some.inj h
              refine ⟨Or.inr rfl, _, _, _, (resVs_cons (ResV.tmp _ _ rfl) resVs_nil), (pubA_id rfl), ?_⟩
              rfl
            · replace h := ite_f hc h
              clear hc
              refine soff rfl rfl rfl rfl ?_
              refine soff rfl rfl rfl rfl ?_
              refine sv rfl (opv_pick_f rfl rfl) ?_
              refine sv rfl (opv_as rfl) ?_
              refine snil ?_
              refine cret ?_
              obtain rfl := Option.some.inj h
              refine ⟨Or.inr rfl, _, _, _, (resVs_cons (ResV.tmp _ _ rfl) resVs_nil), (pubA_id rfl), ?_⟩
              rfl
          · replace h := ite_f hc h
            clear hc
            refine soff rfl rfl rfl rfl ?_
            refine soff rfl rfl rfl rfl ?_
            refine soff rfl rfl rfl rfl ?_
            refine sv rfl (opv_pick_f rfl rfl) ?_
            refine sv rfl (opv_mv rfl) ?_
            refine soff rfl rfl rfl rfl ?_
            refine soff rfl rfl rfl rfl ?_
            refine sv rfl (opv_pick_f rfl rfl) ?_
            refine sv rfl (opv_as rfl) ?_
            refine snil ?_
            refine cret ?_
            obtain rfl := Option.some.inj h
            refine ⟨Or.inr rfl, _, _, _, (resVs_cons (ResV.tmp _ _ rfl) resVs_nil), (pubA_id rfl), ?_⟩
            rfl
        · replace h := ite_f hc h
          clear hc
          refine soff rfl rfl rfl rfl ?_
          refine soff rfl rfl rfl rfl ?_
          refine sv rfl (opv_pick_f rfl rfl) ?_
          refine sv rfl (opv_mv rfl) ?_
          refine soff rfl rfl rfl rfl ?_
          refine soff rfl rfl rfl rfl ?_
          refine soff rfl rfl rfl rfl ?_
          refine sv rfl (opv_pick_f rfl rfl) ?_
          refine sv rfl (opv_mv rfl) ?_
          refine soff rfl rfl rfl rfl ?_
          refine soff rfl rfl rfl rfl ?_
          refine sv rfl (opv_pick_f rfl rfl) ?_
          refine sv rfl (opv_as rfl) ?_
          refine snil ?_
          refine cret ?_
          obtain rfl := Option.some.inj h
          refine ⟨Or.inr rfl, _, _, _, (resVs_cons (ResV.tmp _ _ rfl) resVs_nil), (pubA_id rfl), ?_⟩
          rfl
      · replace h := ite_f hc h
        clear hc
        refine soff rfl rfl rfl rfl ?_
        refine soff rfl rfl rfl rfl ?_
        refine soff rfl rfl rfl rfl ?_
        refine sv rfl (opv_pick_f rfl rfl) ?_
        refine sv rfl (opv_mv rfl) ?_
        refine soff rfl rfl rfl rfl ?_
        refine soff rfl rfl rfl rfl ?_
        refine sv rfl (opv_pick_f rfl rfl) ?_
        refine sv rfl (opv_mv rfl) ?_
        refine soff rfl rfl rfl rfl ?_
        refine soff rfl rfl rfl rfl ?_
        refine soff rfl rfl rfl rfl ?_
        refine sv rfl (opv_pick_f rfl rfl) ?_
        refine sv rfl (opv_mv rfl) ?_
        refine soff rfl rfl rfl rfl ?_
        refine soff rfl rfl rfl rfl ?_
        refine sv rfl (opv_pick_f rfl rfl) ?_
        refine sv rfl (opv_as rfl) ?_
        refine snil ?_
        refine cret ?_
        obtain rfl := Option.some.inj h
        refine ⟨Or.inr rfl, _, _, _, (resVs_cons (ResV.tmp _ _ rfl) resVs_nil), (pubA_id rfl), ?_⟩
        rfl
    · replace h := ite_f hc h
      clear hc
      refine soff rfl rfl rfl rfl ?_
      refine sv rfl (opv_pick_f rfl rfl) ?_
      refine sv rfl (opv_mv rfl) ?_
      refine soff rfl rfl rfl rfl ?_
      refine soff rfl rfl rfl rfl ?_
      refine soff rfl rfl rfl rfl ?_
      refine sv rfl (opv_pick_f rfl rfl) ?_
      refine sv rfl (opv_mv rfl) ?_
      refine soff rfl rfl rfl rfl ?_
      refine soff rfl rfl rfl rfl ?_
      refine sv rfl (opv_pick_f rfl rfl) ?_
      refine sv rfl (opv_mv rfl) ?_
      refine soff rfl rfl rfl rfl ?_
      refine soff rfl rfl rfl rfl ?_
      refine soff rfl rfl rfl rfl ?_
      refine sv rfl (opv_pick_f rfl rfl) ?_
      refine sv rfl (opv_mv rfl) ?_
      refine soff rfl rfl rfl rfl ?_
      refine soff rfl rfl rfl rfl ?_
      refine sv rfl (opv_pick_f rfl rfl) ?_
      refine sv rfl (opv_as rfl) ?_
      refine snil ?_
      refine cret ?_
      obtain rfl := Option.some.inj h
      refine ⟨Or.inr rfl, _, _, _, (resVs_cons (ResV.tmp _ _ rfl) resVs_nil), (pubA_id rfl), ?_⟩
      rfl
  · replace h := ite_f hc h
    clear hc
    refine soff rfl rfl rfl rfl ?_
    refine soff rfl rfl rfl rfl ?_
    refine sv rfl (opv_pick_f rfl rfl) ?_
    refine sv rfl (opv_mv rfl) ?_
    refine soff rfl rfl rfl rfl ?_
    refine sv rfl (opv_pick_f rfl rfl) ?_
    refine sv rfl (opv_mv rfl) ?_
    refine soff rfl rfl rfl rfl ?_
    refine soff rfl rfl rfl rfl ?_
    refine soff rfl rfl rfl rfl ?_
    refine sv rfl (opv_pick_f rfl rfl) ?_
    refine sv rfl (opv_mv rfl) ?_
    refine soff rfl rfl rfl rfl ?_
    refine soff rfl rfl rfl rfl ?_
    refine sv rfl (opv_pick_f rfl rfl) ?_
    refine sv rfl (opv_mv rfl) ?_
    refine soff rfl rfl rfl rfl ?_
    refine soff rfl rfl rfl rfl ?_
    refine soff rfl rfl rfl rfl ?_
    refine sv rfl (opv_pick_f rfl rfl) ?_
    refine sv rfl (opv_mv rfl) ?_
    refine soff rfl rfl rfl rfl ?_
    refine soff rfl rfl rfl rfl ?_
    refine sv rfl (opv_pick_f rfl rfl) ?_
    refine sv rfl (opv_as rfl) ?_
    refine snil ?_
    refine cret ?_
    obtain rfl := Option.some.inj h
    refine ⟨Or.inr rfl, _, _, _, (resVs_cons (ResV.tmp _ _ rfl) resVs_nil), (pubA_id rfl), ?_⟩
    rfl

def m9_r07_Few_k1 (b1 : Unit) : Option Bool :=
  some true

def m9_r07_Few_s2 (a0 : GR07Chain) (s2 : Int) : Option (LR (Int) (Unit) (Bool)) :=
  if (decide (s2 < (a0.L.length : Int))) then ((idx a0.L s2).bind fun u3 => if (decide (100 < (u3.Val.length : Int))) then (some (.ret false)) else (some (.cont (wI (s2 + 1))))) else (some (.brk ()))
def m9_r07_Few (a0 : GR07Chain) : Option Bool :=
  if (decide (60 < (a0.L.length : Int))) then (some false) else ((iter (m9_r07_Few_s2 a0) fuel 0).bind fun x => match x with | .inl r => some r | .inr e4 => m9_r07_Few_k1 e4)

set_option maxRecDepth 100000 in
theorem m9_r07_Few_c {a0 : GR07Chain} {r : Bool} (h : m9_r07_Few a0 = some r) : CallsA Try.prog 9 [.agg [.sl a0.L.length (a0.L.flatMap eGR07Ver)]] (· = .s (.one (.b r))) := by
  unfold m9_r07_Few at h
  refine callsA_of Try.func9 rfl (nt := 23) rfl (Nat.le_of_ble_eq_true rfl) ?_
  intro w0 S0
  refine cseq ?_
  refine cregion ?_
  refine sbox rfl rfl ?_
  refine sv rfl (opv_as rfl) ?_
  refine snil ?_
  refine cseq ?_
  refine cseq ?_
  refine cregion ?_
  refine sv rfl (opv_fieldAddr_lp fi24_0 rfl) ?_
  refine sv rfl (opv_load1 ti22 rfl (.lp _ _ _ rfl) rfl) ?_
  refine sv rfl (opv_len_sl si22 rfl) ?_
  refine sv rfl (opv_gtr rfl rfl) ?_
  refine snil ?_
  refine ccond rfl (fun hc => ?_) (fun hc => ?_)
  · replace h := ite_t hc h
    clear hc
    refine cseq ?_
    refine cregion ?_
    refine sv rfl (opv_as rfl) ?_
    refine snil ?_
    refine cret ?_
    refine then_ret ?_
    obtain rfl := Option.some.inj h
    refine ⟨Or.inr rfl, _, _, _, (resVs_cons (ResV.tmp _ _ rfl) resVs_nil), (pubA_id rfl), ?_⟩
    rfl
  · replace h := ite_f hc h
    clear hc
    refine cskip ?_
    refine then_normal ?_
    refine cseq ?_
    refine cseq ?_
    refine cregion ?_
    refine sv rfl (opv_as rfl) ?_
    refine snil ?_
    refine cjoin (Unit) (fun b1 => []) (fun b1 => [.box [.sl a0.L.length (a0.L.flatMap eGR07Ver)]]) (fun b1 => m9_r07_Few_k1 b1 = some r) (fun _ _ => inbL_of rfl) (fun _ _ => blkinb_of rfl) (fun _ _ => Nat.le_of_ble_eq_true rfl) (fun b1 h => ?_) ?_
    · unfold m9_r07_Few_k1 at h
      refine cseq ?_
      refine cregion ?_
      refine sv rfl (opv_as rfl) ?_
      refine snil ?_
      refine cret ?_
      obtain rfl := Option.some.inj h
      refine ⟨Or.inr rfl, _, _, _, (resVs_cons (ResV.tmp _ _ rfl) resVs_nil), (pubA_id rfl), ?_⟩
      rfl
    · skip
      refine cblock ?_
      obtain ⟨x2, hx2, ho2⟩ := bind_eq h
      refine awc_loop (G := Nat × (Int)) (fun g => [(1, .s (.one (.lp 0 0))), (3, .s (.one (.i .i64 g.2)))]) (fun g => [.box [.sl a0.L.length (a0.L.flatMap eGR07Ver)]]) (fun g => iter (m9_r07_Few_s2 a0) g.1 g.2 = some x2) (fun g => g.1) (fuel, 0) hx2 ⟨rfl, rfl, trivial⟩ [] rfl (fun _ _ => inbL_of rfl) (fun _ _ => blkinb_of rfl) (fun _ _ => Nat.le_of_ble_eq_true rfl) ?_
      clear hx2 h
      rintro ⟨n2, s2⟩ h
      obtain ⟨n2, y2, rfl, h, hk2⟩ := iter_eq h
      unfold m9_r07_Few_s2 at h
      refine cseq ?_
      refine cseq ?_
      refine cregion ?_
      refine sv rfl (opv_mv rfl) ?_
      refine sv rfl (opv_fieldAddr_lp fi24_0 rfl) ?_
      refine sv rfl (opv_load1 ti22 rfl (.lp _ _ _ rfl) rfl) ?_
      refine sv rfl (opv_len_sl si22 rfl) ?_
      refine sv rfl (opv_lss rfl rfl) ?_
      refine snil ?_
      refine ccond rfl (fun hc => ?_) (fun hc => ?_)
      · replace h := ite_t hc h
        clear hc
        refine cskip ?_
        refine then_normal ?_
        refine cseq ?_
        refine cblock ?_
        refine cseq ?_
        refine cregion ?_
        refine sv rfl (opv_fieldAddr_lp fi24_0 rfl) ?_
        refine sv rfl (opv_load1 ti22 rfl (.lp _ _ _ rfl) rfl) ?_
        refine sv rfl (opv_mv rfl) ?_
        obtain ⟨u3, hu3, h⟩ := bind_eq h
        refine sv rfl (opv_ix (f := eGR07Ver) si22 (fun _ => rfl) rfl rfl rfl rfl hu3) ?_
        refine sv rfl (opv_fieldAddr_cp fi27_1 rfl) ?_
        refine sv rfl (opv_load1 ti25 rfl (.cp _) rfl) ?_
        refine sv rfl (opv_len_sl si25 rfl) ?_
        refine sv rfl (opv_gtr rfl rfl) ?_
        refine snil ?_
        refine ccond rfl (fun hc => ?_) (fun hc => ?_)
        · replace h := ite_t hc h
          clear hc
          refine cseq ?_
          refine cregion ?_
          refine sv rfl (opv_as rfl) ?_
          refine snil ?_
          refine cret ?_
          refine block_ret ?_
          refine then_ret ?_
          refine then_ret ?_
          refine block_ret ?_
          refine then_ret ?_
          obtain rfl := Option.some.inj h
          obtain rfl : Sum.inl _ = x2 := hk2
          replace ho2 : some _ = some _ := ho2
          obtain rfl := Option.some.inj ho2
          refine ⟨Or.inr rfl, _, _, _, (resVs_cons (ResV.tmp _ _ rfl) resVs_nil), (pubA_id rfl), ?_⟩
          rfl
        · replace h := ite_f hc h
          clear hc
          refine cskip ?_
          refine block_normal ?_
          refine then_normal ?_
          refine cregion ?_
          refine sv rfl (opv_mv rfl) ?_
          refine sv rfl (opv_add rfl rfl) ?_
          refine sv rfl (opv_as rfl) ?_
          refine snil ?_
          obtain rfl := Option.some.inj h
          exact ⟨(n2, (wI (s2 + 1))), _, hk2, ⟨rfl, rfl, trivial⟩, rfl, Nat.lt_succ_self _⟩
      · replace h := ite_f hc h
        clear hc
        refine cexit ?_
        refine then_exit ?_
        refine then_exit ?_
        refine block_hit ?_
        refine then_normal ?_
        obtain rfl := Option.some.inj h
        obtain rfl : _ = x2 := hk2
        exact ⟨(), _, ho2, trivial, rfl⟩

def m16_l07_ver (a0 : GR07Ver) : Option GChainVer :=
  some (GChainVer.mk a0.Ts a0.Val a0.Del)

set_option maxRecDepth 100000 in
theorem m16_l07_ver_c {a0 : GR07Ver} {r : GChainVer} (h : m16_l07_ver a0 = some r) : CallsA Try.prog 16 [.agg [.i .i64 a0.Ts, .sl a0.Val.length (a0.Val.flatMap eU8), .b a0.Del]] (· = .s (.agg [.i .i64 r.Ts, .sl r.Val.length (r.Val.flatMap eU8), .b r.Del])) := by
  unfold m16_l07_ver at h
  refine callsA_of Try.func16 rfl (nt := 10) rfl (Nat.le_of_ble_eq_true rfl) ?_
  intro w0 S0
  refine cseq ?_
  refine cregion ?_
  refine sbox rfl rfl ?_
  refine salloc rfl zi34 ?_
  refine snil ?_
  refine cseq ?_
  refine cregion ?_
  refine sv rfl (opv_fieldAddr_lp fi27_0 rfl) ?_
  refine sv rfl (opv_load1 ti3 rfl (.lp _ _ _ rfl) rfl) ?_
  refine sv rfl (opv_fieldAddr_lp fi27_1 rfl) ?_
  refine sv rfl (opv_load1 ti25 rfl (.lp _ _ _ rfl) rfl) ?_
  refine sv rfl (opv_fieldAddr_lp fi27_2 rfl) ?_
  refine sv rfl (opv_load1 ti4 rfl (.lp _ _ _ rfl) rfl) ?_
  refine sv rfl (opv_build zi34 pi34 (parts_cons rfl (parts_cons rfl (parts_cons rfl parts_nil))) (.cons _ _ _ _ _ _ _ rfl rfl (Nat.le_of_ble_eq_true rfl) (.cons _ _ _ _ _ _ _ rfl rfl (Nat.le_of_ble_eq_true rfl) (.cons _ _ _ _ _ _ _ rfl rfl (Nat.le_of_ble_eq_true rfl) (.nil _))))) ?_
  refine sstore sz34 rfl rfl rfl rfl (Nat.le_of_ble_eq_true rfl) ?_
  refine smem [.box [.i .i64 a0.Ts, .sl a0.Val.length (a0.Val.flatMap eU8), .b a0.Del], .box [.i .i64 a0.Ts, .sl a0.Val.length (a0.Val.flatMap eU8), .b a0.Del]] rfl ?_
  refine snil ?_
  refine cret ?_
  obtain rfl := Option.some.inj h
  refine ⟨Or.inr rfl, _, _, _, (resVs_cons (ResV.agg _ _ _ _ _ ti34 rfl (.lp _ _ _ rfl) (Nat.le_of_ble_eq_true rfl)) resVs_nil), (pubA_id rfl), ?_⟩
  rfl

def m10_l07_ours_k1 (b1 : (List GChainVer)) : Option GChainChain :=
  some (GChainChain.mk b1)

def m10_l07_ours_s2 (a0 : GR07Chain) (s2 : Int × (List GChainVer)) : Option (LB (Int × (List GChainVer)) ((List GChainVer))) :=
  if (decide (s2.1 < (a0.L.length : Int))) then ((idx a0.L s2.1).bind fun u3 => (m16_l07_ver u3).bind fun v4 => if (s2.2.length + ([v4] : List GChainVer).length) * 40 ≤ 140737488355328 then (some (.cont ((wI (s2.1 + 1)), (s2.2 ++ ([v4] : List GChainVer))))) else none) else (some (.brk s2.2))
def m10_l07_ours (a0 : GR07Chain) : Option GChainChain :=
  (iterB (m10_l07_ours_s2 a0) fuel (0, ([] : List GChainVer))).bind fun e6 => m10_l07_ours_k1 e6

set_option maxRecDepth 100000 in
theorem m10_l07_ours_c {a0 : GR07Chain} {r : GChainChain} (h : m10_l07_ours a0 = some r) : CallsA Try.prog 10 [.agg [.sl a0.L.length (a0.L.flatMap eGR07Ver)]] (· = .s (.agg [.sl r.L.length (r.L.flatMap eGChainVer)])) := by
  unfold m10_l07_ours at h
  refine callsA_of Try.func10 rfl (nt := 25) rfl (Nat.le_of_ble_eq_true rfl) ?_
  intro w0 S0
  refine cseq ?_
  refine cregion ?_
  refine sbox rfl rfl ?_
  refine salloc rfl zi32 ?_
  refine snil ?_
  refine cseq ?_
  refine cregion ?_
  refine sv rfl (opv_build zi32 pi32 parts_nil (.nil _)) ?_
  refine salloc rfl zi32 ?_
  refine sstore sz32 rfl rfl rfl rfl (Nat.le_of_ble_eq_true rfl) ?_
  refine smem [.box [.sl a0.L.length (a0.L.flatMap eGR07Ver)], .box [.raw (.slice none 0 0)], .box [.raw (.slice none 0 0)]] rfl ?_
  refine snil ?_
  refine cseq ?_
  refine cseq ?_
  refine cregion ?_
  refine sv rfl (opv_as rfl) ?_
  refine snil ?_
  refine sadopt_box_c 34 3 2 0 (by decide) rfl rfl ?_
  refine cjoin ((List GChainVer)) (fun b1 => [(2, .s (.one (.lp 1 0))), (3, .s (.one (.lp 2 0)))]) (fun b1 => [.box [.sl a0.L.length (a0.L.flatMap eGR07Ver)], .box [.raw (.slice none 0 0)], .box [.ls 3 b1.length], .arr 34 3 0 (b1.flatMap eGChainVer)]) (fun b1 => m10_l07_ours_k1 b1 = some r) (fun _ _ => inbL_of rfl) (fun _ _ => blkinb_of rfl) (fun _ _ => Nat.le_of_ble_eq_true rfl) (fun b1 h => ?_) ?_
  · unfold m10_l07_ours_k1 at h
    refine cseq ?_
    refine cregion ?_
    refine sv rfl (opv_loadN ti32 rfl (.lp _ _ _ rfl) (Nat.le_of_ble_eq_true rfl)) ?_
    refine sstore sz32 rfl rfl rfl rfl (Nat.le_of_ble_eq_true rfl) ?_
    refine smem [.box [.sl a0.L.length (a0.L.flatMap eGR07Ver)], .box [.ls 3 b1.length], .box [.ls 3 b1.length], .arr 34 3 0 (b1.flatMap eGChainVer)] rfl ?_
    refine snil ?_
    refine cret ?_
    obtain rfl := Option.some.inj h
    refine ⟨Or.inr rfl, _, _, _, (resVs_cons (ResV.agg _ _ _ _ _ ti32 rfl (.lp _ _ _ rfl) (Nat.le_of_ble_eq_true rfl)) resVs_nil), (by (repeat' first | exact PubA.nil _ | apply PubA.cons | apply PubV.one | apply PubV.agg | exact PubL.nil | exact PubL.ls _ _ _ _ _ _ rfl (flat_len (f := eGChainVer) (fun _ => rfl) _).symm | exact PubL.id _ rfl | exact PubLs.nil _ | apply PubLs.cons)), ?_⟩
    rfl
  · skip
    refine cblock ?_
    obtain ⟨x2, hx2, ho2⟩ := bind_eq h
    refine awc_loop (G := Nat × (Int × (List GChainVer))) (fun g => [(1, .s (.one (.lp 0 0))), (2, .s (.one (.lp 1 0))), (3, .s (.one (.lp 2 0))), (4, .s (.one (.i .i64 g.2.1)))]) (fun g => [.box [.sl a0.L.length (a0.L.flatMap eGR07Ver)], .box [.raw (.slice none 0 0)], .box [.ls 3 g.2.2.length], .arr 34 3 0 (g.2.2.flatMap eGChainVer)]) (fun g => iterB (m10_l07_ours_s2 a0) g.1 g.2 = some x2) (fun g => g.1) (fuel, (0, ([] : List GChainVer))) hx2 ⟨rfl, rfl, rfl, rfl, trivial⟩ [] rfl (fun _ _ => inbL_of rfl) (fun _ _ => blkinb_of rfl) (fun _ _ => Nat.le_of_ble_eq_true rfl) ?_
    clear hx2 h
    rintro ⟨n2, s2⟩ h
    obtain ⟨n2, y2, rfl, h, hk2⟩ := iterB_eq h
    unfold m10_l07_ours_s2 at h
    refine cseq ?_
    refine cseq ?_
    refine cregion ?_
    refine sv rfl (opv_mv rfl) ?_
    refine sv rfl (opv_fieldAddr_lp fi24_0 rfl) ?_
    refine sv rfl (opv_load1 ti22 rfl (.lp _ _ _ rfl) rfl) ?_
    refine sv rfl (opv_len_sl si22 rfl) ?_
    refine sv rfl (opv_lss rfl rfl) ?_
    refine snil ?_
    refine ccond rfl (fun hc => ?_) (fun hc => ?_)
    · replace h := ite_t hc h
      clear hc
      refine cskip ?_
      refine then_normal ?_
      refine cseq ?_
      refine cblock ?_
      obtain ⟨u3, hu3, h⟩ := bind_eq h
      obtain ⟨v4, hv4, h⟩ := bind_eq h
      obtain ⟨hb5, h⟩ := chk_eq h
      refine cdraw_e [9, 11] [0, 1, 0, 4, 0, 28, 60, 124, 252, 511, 1023, 2047] [[.box [.sl a0.L.length (a0.L.flatMap eGR07Ver)], .box [.raw (.slice none 0 0)], .box [.ls 3 s2.2.length], .arr 34 3 0 (s2.2.flatMap eGChainVer)], [.box [.sl a0.L.length (a0.L.flatMap eGR07Ver)], .box [.raw (.slice none 0 0)], .box [.ls 3 s2.2.length], .arr 34 3 0 ((s2.2 ++ ([v4] : List GChainVer)).flatMap eGChainVer)], [.box [.sl a0.L.length (a0.L.flatMap eGR07Ver)], .box [.raw (.slice none 0 0)], .box [.ls 3 (s2.2 ++ ([v4] : List GChainVer)).length], .arr 34 3 0 ((s2.2 ++ ([v4] : List GChainVer)).flatMap eGChainVer)]] (by kernel_rfl) mixed (by kernel_rfl) (by decide) rfl rfl rfl rfl ?_
      refine ev (sees_at 0 rfl rfl) rfl rfl (opv_fieldAddr_lp fi32_0 rfl) ?_
      refine ev (sees_at 0 rfl rfl) rfl rfl (opv_load1 ti30 rfl (.lp _ _ _ rfl) rfl) ?_
      refine ev (sees_at 0 rfl rfl) rfl rfl (opv_fieldAddr_lp fi24_0 rfl) ?_
      refine ev (sees_at 0 rfl rfl) rfl rfl (opv_load1 ti22 rfl (.lp _ _ _ rfl) rfl) ?_
      refine ev (sees_at 0 rfl rfl) rfl rfl (opv_mv rfl) ?_
      refine ev (sees_at 0 rfl rfl) rfl rfl (opv_ix (f := eGR07Ver) si22 (fun _ => rfl) rfl rfl rfl rfl hu3) ?_
      refine ev (sees_at 0 rfl rfl) rfl rfl (opv_loadNe (ys := [.i .i64 u3.Ts, .sl u3.Val.length (u3.Val.flatMap eU8), .b u3.Del]) ti27 rfl (.cp _) rfl rfl) ?_
      refine ed (sees_at 0 rfl rfl) rfl rfl (opD_call fn16 (opnds_cons rfl opnds_nil) rfl (m16_l07_ver_c hv4)) ?_
      refine ed (sees_at 0 rfl rfl) rfl rfl (opD_bld (out := ([v4] : List GChainVer).flatMap eGChainVer) Try.underlying30 ei34 (parts_cons rfl parts_nil) (.cons _ _ _ _ _ _ _ rfl rfl (Nat.le_of_ble_eq_true rfl) (.nil _)) rfl (by decide)) ?_
      refine ee (x := .s (.one (.ls 3 (s2.2 ++ ([v4] : List GChainVer)).length))) 0 rfl rfl rfl rfl rfl (fun ζ => ?_) ?_
      · refine sapp (f := eGChainVer) (xs := s2.2) (us := ([v4] : List GChainVer)) rfl Try.underlying30 ei34 ni30 (fun _ => rfl) rfl rfl (.one _ _ _ _ (.id _ rfl)) rfl rfl rfl (.sl _ _ _ (flat_len (f := eGChainVer) (fun _ => rfl) _)) rfl rfl hb5 (by decide) ?_
        exact eend
      refine ev (sees_at 1 rfl rfl) rfl rfl (opv_fieldAddr_lp fi32_0 rfl) ?_
      refine ee0 1 rfl rfl rfl rfl (fun ζ => ?_) ?_
      · refine sstore sz30 rfl rfl rfl rfl (Nat.le_of_ble_eq_true rfl) ?_
        refine smem [.box [.sl a0.L.length (a0.L.flatMap eGR07Ver)], .box [.raw (.slice none 0 0)], .box [.ls 3 (s2.2 ++ ([v4] : List GChainVer)).length], .arr 34 3 0 ((s2.2 ++ ([v4] : List GChainVer)).flatMap eGChainVer)] rfl ?_
        exact eend
      refine enil ?_
      refine block_normal ?_
      refine then_normal ?_
      refine cregion ?_
      refine sv rfl (opv_mv rfl) ?_
      refine sv rfl (opv_add rfl rfl) ?_
      refine sv rfl (opv_as rfl) ?_
      refine snil ?_
      obtain rfl := Option.some.inj h
      exact ⟨(n2, ((wI (s2.1 + 1)), (s2.2 ++ ([v4] : List GChainVer)))), _, hk2, ⟨rfl, rfl, rfl, rfl, trivial⟩, rfl, Nat.lt_succ_self _⟩
    · replace h := ite_f hc h
      clear hc
      refine cexit ?_
      refine then_exit ?_
      refine then_exit ?_
      refine block_hit ?_
      refine then_normal ?_
      obtain rfl := Option.some.inj h
      obtain rfl : _ = x2 := hk2
      exact ⟨s2.2, _, ho2, ⟨rfl, rfl, trivial⟩, rfl⟩

def m30_r07_place_k1 (b1 : Int) : Option Int :=
  some b1

def m30_r07_place_s2 (a0 : GR07Chain) (a1 : Int) (s2 : Int × Int) : Option (LB (Int × Int) (Int)) :=
  if (decide (s2.2 < (a0.L.length : Int))) then ((idx a0.L s2.2).bind fun u3 => if (decide (u3.Ts ≤ a1)) then (some (.cont (s2.2, (wI (s2.2 + 1))))) else (some (.cont (s2.1, (wI (s2.2 + 1)))))) else (some (.brk s2.1))
def m30_r07_place (a0 : GR07Chain) (a1 : Int) : Option Int :=
  (iterB (m30_r07_place_s2 a0 a1) fuel ((-1), 0)).bind fun e4 => m30_r07_place_k1 e4

set_option maxRecDepth 100000 in
theorem m30_r07_place_c {a0 : GR07Chain} {a1 : Int} {r : Int} (h : m30_r07_place a0 a1 = some r) : CallsA Try.prog 30 [.agg [.sl a0.L.length (a0.L.flatMap eGR07Ver)], .one (.i .i64 a1)] (· = .s (.one (.i .i64 r))) := by
  unfold m30_r07_place at h
  refine callsA_of Try.func30 rfl (nt := 24) rfl (Nat.le_of_ble_eq_true rfl) ?_
  intro w0 S0
  refine cseq ?_
  refine cregion ?_
  refine sbox rfl rfl ?_
  refine sv rfl (opv_as rfl) ?_
  refine snil ?_
  refine cseq ?_
  refine cregion ?_
  refine sv rfl (opv_as rfl) ?_
  refine snil ?_
  refine cseq ?_
  refine cseq ?_
  refine cregion ?_
  refine sv rfl (opv_as rfl) ?_
  refine snil ?_
  refine cjoin (Int) (fun b1 => [(5, .s (.one (.i .i64 b1)))]) (fun b1 => [.box [.sl a0.L.length (a0.L.flatMap eGR07Ver)]]) (fun b1 => m30_r07_place_k1 b1 = some r) (fun _ _ => inbL_of rfl) (fun _ _ => blkinb_of rfl) (fun _ _ => Nat.le_of_ble_eq_true rfl) (fun b1 h => ?_) ?_
  · unfold m30_r07_place_k1 at h
    refine cseq ?_
    refine cregion ?_
    refine sv rfl (opv_mv rfl) ?_
    refine sv rfl (opv_as rfl) ?_
    refine snil ?_
    refine cret ?_
    obtain rfl := Option.some.inj h
    refine ⟨Or.inr rfl, _, _, _, (resVs_cons (ResV.tmp _ _ rfl) resVs_nil), (pubA_id rfl), ?_⟩
    rfl
  · skip
    refine cblock ?_
    obtain ⟨x2, hx2, ho2⟩ := bind_eq h
    refine awc_loop (G := Nat × (Int × Int)) (fun g => [(1, .s (.one (.i .i64 a1))), (2, .s (.one (.lp 0 0))), (5, .s (.one (.i .i64 g.2.1))), (6, .s (.one (.i .i64 g.2.2)))]) (fun g => [.box [.sl a0.L.length (a0.L.flatMap eGR07Ver)]]) (fun g => iterB (m30_r07_place_s2 a0 a1) g.1 g.2 = some x2) (fun g => g.1) (fuel, ((-1), 0)) hx2 ⟨rfl, rfl, rfl, rfl, trivial⟩ [] rfl (fun _ _ => inbL_of rfl) (fun _ _ => blkinb_of rfl) (fun _ _ => Nat.le_of_ble_eq_true rfl) ?_
    clear hx2 h
    rintro ⟨n2, s2⟩ h
    obtain ⟨n2, y2, rfl, h, hk2⟩ := iterB_eq h
    unfold m30_r07_place_s2 at h
    refine cseq ?_
    refine cseq ?_
    refine cregion ?_
    refine sv rfl (opv_mv rfl) ?_
    refine sv rfl (opv_fieldAddr_lp fi24_0 rfl) ?_
    refine sv rfl (opv_load1 ti22 rfl (.lp _ _ _ rfl) rfl) ?_
    refine sv rfl (opv_len_sl si22 rfl) ?_
    refine sv rfl (opv_lss rfl rfl) ?_
    refine snil ?_
    refine ccond rfl (fun hc => ?_) (fun hc => ?_)
    · replace h := ite_t hc h
      clear hc
      refine cskip ?_
      refine then_normal ?_
      refine cseq ?_
      refine cblock ?_
      refine cseq ?_
      refine cregion ?_
      refine sv rfl (opv_fieldAddr_lp fi24_0 rfl) ?_
      refine sv rfl (opv_load1 ti22 rfl (.lp _ _ _ rfl) rfl) ?_
      refine sv rfl (opv_mv rfl) ?_
      obtain ⟨u3, hu3, h⟩ := bind_eq h
      refine sv rfl (opv_ix (f := eGR07Ver) si22 (fun _ => rfl) rfl rfl rfl rfl hu3) ?_
      refine sv rfl (opv_fieldAddr_cp fi27_0 rfl) ?_
      refine sv rfl (opv_load1 ti3 rfl (.cp _) rfl) ?_
      refine sv rfl (opv_mv rfl) ?_
      refine sv rfl (opv_leq rfl rfl) ?_
      refine snil ?_
      refine ccond rfl (fun hc => ?_) (fun hc => ?_)
      · replace h := ite_t hc h
        clear hc
        refine cregion ?_
        refine sv rfl (opv_mv rfl) ?_
        refine sv rfl (opv_as rfl) ?_
        refine snil0 ?_
        refine block_normal ?_
        refine then_normal ?_
        refine cregion ?_
        refine sv rfl (opv_mv rfl) ?_
        refine sv rfl (opv_add rfl rfl) ?_
        refine sv rfl (opv_as rfl) ?_
        refine snil ?_
        obtain rfl := Option.some.inj h
        exact ⟨(n2, (s2.2, (wI (s2.2 + 1)))), _, hk2, ⟨rfl, rfl, rfl, rfl, trivial⟩, rfl, Nat.lt_succ_self _⟩
      · replace h := ite_f hc h
        clear hc
        refine cskip ?_
        refine block_normal ?_
        refine then_normal ?_
        refine cregion ?_
        refine sv rfl (opv_mv rfl) ?_
        refine sv rfl (opv_add rfl rfl) ?_
        refine sv rfl (opv_as rfl) ?_
        refine snil ?_
        obtain rfl := Option.some.inj h
        exact ⟨(n2, (s2.1, (wI (s2.2 + 1)))), _, hk2, ⟨rfl, rfl, rfl, rfl, trivial⟩, rfl, Nat.lt_succ_self _⟩
    · replace h := ite_f hc h
      clear hc
      refine cexit ?_
      refine then_exit ?_
      refine then_exit ?_
      refine block_hit ?_
      refine then_normal ?_
      obtain rfl := Option.some.inj h
      obtain rfl : _ = x2 := hk2
      exact ⟨s2.1, _, ho2, ⟨rfl, trivial⟩, rfl⟩

def m12_r07_At (a0 : GR07Chain) (a1 : Int) : Option (GR07Ver × Bool) :=
  (m30_r07_place a0 a1).bind fun v1 => if (decide (v1 < 0)) then (some ((GR07Ver.mk 0 ([] : List UInt8) false), false)) else ((idx a0.L v1).bind fun u2 => some (u2, true))

set_option maxRecDepth 100000 in
theorem m12_r07_At_c {a0 : GR07Chain} {a1 : Int} {r : GR07Ver × Bool} (h : m12_r07_At a0 a1 = some r) : CallsA Try.prog 12 [.agg [.sl a0.L.length (a0.L.flatMap eGR07Ver)], .one (.i .i64 a1)] (· = .tup [.agg [.i .i64 r.1.Ts, .sl r.1.Val.length (r.1.Val.flatMap eU8), .b r.1.Del], .one (.b r.2)]) := by
  unfold m12_r07_At at h
  refine callsA_of Try.func12 rfl (nt := 18) rfl (Nat.le_of_ble_eq_true rfl) ?_
  intro w0 S0
  refine cseq ?_
  refine cregion ?_
  refine sbox rfl rfl ?_
  refine salloc rfl zi27 ?_
  refine sv rfl (opv_as rfl) ?_
  refine snil ?_
  refine cseq ?_
  refine cregion ?_
  refine sv rfl (opv_loadN ti24 rfl (.lp _ _ _ rfl) (Nat.le_of_ble_eq_true rfl)) ?_
  refine sv rfl (opv_mv rfl) ?_
  obtain ⟨v1, hv1, h⟩ := bind_eq h
  refine scall1 rfl fn30 (opnds_cons rfl (opnds_cons rfl opnds_nil)) (pubA_id rfl) (m30_r07_place_c hv1) ?_
  refine sv rfl (opv_as rfl) ?_
  refine snil ?_
  refine cseq ?_
  refine cseq ?_
  refine cregion ?_
  refine sv rfl (opv_mv rfl) ?_
  refine sv rfl (opv_lss rfl rfl) ?_
  refine snil ?_
  refine ccond rfl (fun hc => ?_) (fun hc => ?_)
  · replace h := ite_t hc h
    clear hc
    refine cseq ?_
    refine cregion ?_
    refine sv rfl (opv_build zi27 pi27 parts_nil (.nil _)) ?_
    refine sstore sz27 rfl rfl rfl rfl (Nat.le_of_ble_eq_true rfl) ?_
    refine smem [.box [.sl a0.L.length (a0.L.flatMap eGR07Ver)], .box [.i .i64 0, .raw (.slice none 0 0), .b false]] rfl ?_
    refine sv rfl (opv_as rfl) ?_
    refine snil ?_
    refine cret ?_
    refine then_ret ?_
    obtain rfl := Option.some.inj h
    refine ⟨Or.inr rfl, _, _, _, (resVs_cons (ResV.agg _ _ _ _ _ ti27 rfl (.lp _ _ _ rfl) (Nat.le_of_ble_eq_true rfl)) (resVs_cons (ResV.tmp _ _ rfl) resVs_nil)), (pubC rfl), ?_⟩
    rfl
  · replace h := ite_f hc h
    clear hc
    refine cskip ?_
    refine then_normal ?_
    refine cseq ?_
    refine cregion ?_
    refine sv rfl (opv_fieldAddr_lp fi24_0 rfl) ?_
    refine sv rfl (opv_load1 ti22 rfl (.lp _ _ _ rfl) rfl) ?_
    refine sv rfl (opv_mv rfl) ?_
    obtain ⟨u2, hu2, h⟩ := bind_eq h
    refine sv rfl (opv_ix (f := eGR07Ver) si22 (fun _ => rfl) rfl rfl rfl rfl hu2) ?_
    refine sv rfl (opv_loadNe (ys := [.i .i64 u2.Ts, .sl u2.Val.length (u2.Val.flatMap eU8), .b u2.Del]) ti27 rfl (.cp _) rfl rfl) ?_
    refine sstore sz27 rfl rfl rfl rfl (Nat.le_of_ble_eq_true rfl) ?_
    refine smem [.box [.sl a0.L.length (a0.L.flatMap eGR07Ver)], .box [.i .i64 u2.Ts, .sl u2.Val.length (u2.Val.flatMap eU8), .b u2.Del]] rfl ?_
    refine sv rfl (opv_as rfl) ?_
    refine snil ?_
    refine cret ?_
    obtain rfl := Option.some.inj h
    refine ⟨Or.inr rfl, _, _, _, (resVs_cons (ResV.agg _ _ _ _ _ ti27 rfl (.lp _ _ _ rfl) (Nat.le_of_ble_eq_true rfl)) (resVs_cons (ResV.tmp _ _ rfl) resVs_nil)), (pubA_id rfl), ?_⟩
    rfl

def m13_chain_Value_k2 (v1 : GChainVer × Bool) (b2 : Unit) : Option ((List UInt8) × Bool) :=
  some (v1.1.Val, true)
def m13_chain_Value (a0 : GChainChain) (a1 : Int) : Option ((List UInt8) × Bool) :=
  (m11_chain_At a0 a1).bind fun v1 => if (!v1.2) then (some (([] : List UInt8), false)) else (if v1.1.Del then (some (([] : List UInt8), false)) else (m13_chain_Value_k2 v1 ()))

set_option maxRecDepth 100000 in
theorem m13_chain_Value_c {a0 : GChainChain} {a1 : Int} {r : (List UInt8) × Bool} (h : m13_chain_Value a0 a1 = some r) : CallsA Try.prog 13 [.agg [.sl a0.L.length (a0.L.flatMap eGChainVer)], .one (.i .i64 a1)] (· = .tup [.one (.sl r.1.length (r.1.flatMap eU8)), .one (.b r.2)]) := by
  unfold m13_chain_Value at h
  refine callsA_of Try.func13 rfl (nt := 22) rfl (Nat.le_of_ble_eq_true rfl) ?_
  intro w0 S0
  refine cseq ?_
  refine cregion ?_
  refine sbox rfl rfl ?_
  refine sv rfl (opv_as rfl) ?_
  refine sv rfl (opv_as rfl) ?_
  refine snil ?_
  refine cseq ?_
  refine cregion ?_
  refine sv rfl (opv_loadN ti32 rfl (.lp _ _ _ rfl) (Nat.le_of_ble_eq_true rfl)) ?_
  refine sv rfl (opv_mv rfl) ?_
  obtain ⟨v1, hv1, h⟩ := bind_eq h
  refine scall1 rfl fn11 (opnds_cons rfl (opnds_cons rfl opnds_nil)) (pubA_id rfl) (m11_chain_At_c hv1) ?_
  refine sv rfl (opv_mvt rfl) ?_
  refine sv rfl (opv_extract rfl rfl) ?_
  refine sv rfl (opv_extract rfl rfl) ?_
  refine salloc rfl zi34 ?_
  refine sstore sz34 rfl rfl rfl rfl (Nat.le_of_ble_eq_true rfl) ?_
  refine smem [.box [.sl a0.L.length (a0.L.flatMap eGChainVer)], .box [.i .i64 v1.1.Ts, .sl v1.1.Val.length (v1.1.Val.flatMap eU8), .b v1.1.Del]] rfl ?_
  refine sv rfl (opv_as rfl) ?_
  refine snil ?_
  refine cseq ?_
  refine cseq ?_
  refine cjoin3 (Unit) (fun b2 => [(6, .s (.one (.lp 1 0)))]) (fun b2 => [.box [.sl a0.L.length (a0.L.flatMap eGChainVer)], .box [.i .i64 v1.1.Ts, .sl v1.1.Val.length (v1.1.Val.flatMap eU8), .b v1.1.Del]]) (fun b2 => m13_chain_Value_k2 v1 b2 = some r) (fun _ _ => inbL_of rfl) (fun _ _ => blkinb_of rfl) (fun _ _ => Nat.le_of_ble_eq_true rfl) (fun b2 h => ?_) ?_
  · unfold m13_chain_Value_k2 at h
    refine cseq ?_
    refine cregion ?_
    refine sv rfl (opv_fieldAddr_lp fi34_1 rfl) ?_
    refine sv rfl (opv_load1 ti25 rfl (.lp _ _ _ rfl) rfl) ?_
    refine sv rfl (opv_as rfl) ?_
    refine sv rfl (opv_as rfl) ?_
    refine snil ?_
    refine cret ?_
    obtain rfl := Option.some.inj h
    refine ⟨Or.inr rfl, _, _, _, (resVs_cons (ResV.tmp _ _ rfl) (resVs_cons (ResV.tmp _ _ rfl) resVs_nil)), (pubA_id rfl), ?_⟩
    rfl
  · skip
    refine cregion ?_
    refine sv rfl (opv_mv rfl) ?_
    refine sv rfl (opv_not rfl) ?_
    refine sv rfl (opv_mv rfl) ?_
    refine ssplit 16 rfl (fun hc => ?_) (fun hc => ?_)
    · replace h := ite_t hc h
      clear hc
      refine soff rfl rfl rfl rfl ?_
      refine soff rfl rfl rfl rfl ?_
      refine sv rfl (opv_pick_t rfl rfl) ?_
      refine snil ?_
      refine ccond rfl (fun _ => ?_) (fun hx => Bool.noConfusion hx)
      refine cseq ?_
      refine cregion ?_
      refine sv rfl (opv_as rfl) ?_
      refine sv rfl (opv_as rfl) ?_
      refine snil ?_
      refine cret ?_
      refine then_ret ?_
      obtain rfl := Option.some.inj h
      refine ⟨Or.inr rfl, _, _, _, (resVs_cons (ResV.tmp _ _ rfl) (resVs_cons (ResV.tmp _ _ rfl) resVs_nil)), (pubC rfl), ?_⟩
      rfl
    · replace h := ite_f hc h
      clear hc
      refine son rfl rfl rfl ?_
      refine sv rfl (opv_fieldAddr_lp fi34_2 rfl) ?_
      refine son rfl rfl rfl ?_
      refine sv rfl (opv_load1 ti4 rfl (.lp _ _ _ rfl) rfl) ?_
      refine sv rfl (opv_pick_f rfl rfl) ?_
      refine snil ?_
      refine ccond rfl (fun hc => ?_) (fun hc => ?_)
      · replace h := ite_t hc h
        clear hc
        refine cseq ?_
        refine cregion ?_
        refine sv rfl (opv_as rfl) ?_
        refine sv rfl (opv_as rfl) ?_
        refine snil ?_
        refine cret ?_
        refine then_ret ?_
        obtain rfl := Option.some.inj h
        refine ⟨Or.inr rfl, _, _, _, (resVs_cons (ResV.tmp _ _ rfl) (resVs_cons (ResV.tmp _ _ rfl) resVs_nil)), (pubC rfl), ?_⟩
        rfl
      · replace h := ite_f hc h
        clear hc
        refine cskip ?_
        refine then_normal ?_
        exact ⟨(), _, h, ⟨rfl, trivial⟩, rfl⟩

def m14_r07_Value_k2 (v1 : GR07Ver × Bool) (b2 : Unit) : Option ((List UInt8) × Bool) :=
  some (v1.1.Val, true)
def m14_r07_Value (a0 : GR07Chain) (a1 : Int) : Option ((List UInt8) × Bool) :=
  (m12_r07_At a0 a1).bind fun v1 => if (!v1.2) then (some (([] : List UInt8), false)) else (if v1.1.Del then (some (([] : List UInt8), false)) else (m14_r07_Value_k2 v1 ()))

set_option maxRecDepth 100000 in
theorem m14_r07_Value_c {a0 : GR07Chain} {a1 : Int} {r : (List UInt8) × Bool} (h : m14_r07_Value a0 a1 = some r) : CallsA Try.prog 14 [.agg [.sl a0.L.length (a0.L.flatMap eGR07Ver)], .one (.i .i64 a1)] (· = .tup [.one (.sl r.1.length (r.1.flatMap eU8)), .one (.b r.2)]) := by
  unfold m14_r07_Value at h
  refine callsA_of Try.func14 rfl (nt := 22) rfl (Nat.le_of_ble_eq_true rfl) ?_
  intro w0 S0
  refine cseq ?_
  refine cregion ?_
  refine sbox rfl rfl ?_
  refine sv rfl (opv_as rfl) ?_
  refine sv rfl (opv_as rfl) ?_
  refine snil ?_
  refine cseq ?_
  refine cregion ?_
  refine sv rfl (opv_loadN ti24 rfl (.lp _ _ _ rfl) (Nat.le_of_ble_eq_true rfl)) ?_
  refine sv rfl (opv_mv rfl) ?_
  obtain ⟨v1, hv1, h⟩ := bind_eq h
  refine scall1 rfl fn12 (opnds_cons rfl (opnds_cons rfl opnds_nil)) (pubA_id rfl) (m12_r07_At_c hv1) ?_
  refine sv rfl (opv_mvt rfl) ?_
  refine sv rfl (opv_extract rfl rfl) ?_
  refine sv rfl (opv_extract rfl rfl) ?_
  refine salloc rfl zi27 ?_
  refine sstore sz27 rfl rfl rfl rfl (Nat.le_of_ble_eq_true rfl) ?_
  refine smem [.box [.sl a0.L.length (a0.L.flatMap eGR07Ver)], .box [.i .i64 v1.1.Ts, .sl v1.1.Val.length (v1.1.Val.flatMap eU8), .b v1.1.Del]] rfl ?_
  refine sv rfl (opv_as rfl) ?_
  refine snil ?_
  refine cseq ?_
  refine cseq ?_
  refine cjoin3 (Unit) (fun b2 => [(6, .s (.one (.lp 1 0)))]) (fun b2 => [.box [.sl a0.L.length (a0.L.flatMap eGR07Ver)], .box [.i .i64 v1.1.Ts, .sl v1.1.Val.length (v1.1.Val.flatMap eU8), .b v1.1.Del]]) (fun b2 => m14_r07_Value_k2 v1 b2 = some r) (fun _ _ => inbL_of rfl) (fun _ _ => blkinb_of rfl) (fun _ _ => Nat.le_of_ble_eq_true rfl) (fun b2 h => ?_) ?_
  · unfold m14_r07_Value_k2 at h
    refine cseq ?_
    refine cregion ?_
    refine sv rfl (opv_fieldAddr_lp fi27_1 rfl) ?_
    refine sv rfl (opv_load1 ti25 rfl (.lp _ _ _ rfl) rfl) ?_
    refine sv rfl (opv_as rfl) ?_
    refine sv rfl (opv_as rfl) ?_
    refine snil ?_
    refine cret ?_
    obtain rfl := Option.some.inj h
    refine ⟨Or.inr rfl, _, _, _, (resVs_cons (ResV.tmp _ _ rfl) (resVs_cons (ResV.tmp _ _ rfl) resVs_nil)), (pubA_id rfl), ?_⟩
    rfl
  · skip
    refine cregion ?_
    refine sv rfl (opv_mv rfl) ?_
    refine sv rfl (opv_not rfl) ?_
    refine sv rfl (opv_mv rfl) ?_
    refine ssplit 16 rfl (fun hc => ?_) (fun hc => ?_)
    · replace h := ite_t hc h
      clear hc
      refine soff rfl rfl rfl rfl ?_
      refine soff rfl rfl rfl rfl ?_
      refine sv rfl (opv_pick_t rfl rfl) ?_
      refine snil ?_
      refine ccond rfl (fun _ => ?_) (fun hx => Bool.noConfusion hx)
      refine cseq ?_
      refine cregion ?_
      refine sv rfl (opv_as rfl) ?_
      refine sv rfl (opv_as rfl) ?_
      refine snil ?_
      refine cret ?_
      refine then_ret ?_
      obtain rfl := Option.some.inj h
      refine ⟨Or.inr rfl, _, _, _, (resVs_cons (ResV.tmp _ _ rfl) (resVs_cons (ResV.tmp _ _ rfl) resVs_nil)), (pubC rfl), ?_⟩
      rfl
    · replace h := ite_f hc h
      clear hc
      refine son rfl rfl rfl ?_
      refine sv rfl (opv_fieldAddr_lp fi27_2 rfl) ?_
      refine son rfl rfl rfl ?_
      refine sv rfl (opv_load1 ti4 rfl (.lp _ _ _ rfl) rfl) ?_
      refine sv rfl (opv_pick_f rfl rfl) ?_
      refine snil ?_
      refine ccond rfl (fun hc => ?_) (fun hc => ?_)
      · replace h := ite_t hc h
        clear hc
        refine cseq ?_
        refine cregion ?_
        refine sv rfl (opv_as rfl) ?_
        refine sv rfl (opv_as rfl) ?_
        refine snil ?_
        refine cret ?_
        refine then_ret ?_
        obtain rfl := Option.some.inj h
        refine ⟨Or.inr rfl, _, _, _, (resVs_cons (ResV.tmp _ _ rfl) (resVs_cons (ResV.tmp _ _ rfl) resVs_nil)), (pubC rfl), ?_⟩
        rfl
      · replace h := ite_f hc h
        clear hc
        refine cskip ?_
        refine then_normal ?_
        exact ⟨(), _, h, ⟨rfl, trivial⟩, rfl⟩

def m21_r07_Sane_k1 (b1 : Unit) : Option Bool :=
  some true

def m21_r07_Sane_s2 (a0 : GR07Chain) (s2 : Int) : Option (LR (Int) (Unit) (Bool)) :=
  if (decide (s2 < (a0.L.length : Int))) then ((idx a0.L s2).bind fun u3 => if (decide (u3.Ts < 1)) then (some (.ret false)) else (if (decide (1099511627776 < u3.Ts)) then (some (.ret false)) else (if (decide (0 < s2)) then ((idx a0.L (wI (s2 - 1))).bind fun u4 => if (decide (u3.Ts ≤ u4.Ts)) then (some (.ret false)) else (if (decide (32 < (u3.Val.length : Int))) then (some (.ret false)) else (if u3.Del then (if (decide (0 < (u3.Val.length : Int))) then (some (.ret false)) else (some (.cont (wI (s2 + 1))))) else (some (.cont (wI (s2 + 1))))))) else (if (decide (32 < (u3.Val.length : Int))) then (some (.ret false)) else (if u3.Del then (if (decide (0 < (u3.Val.length : Int))) then (some (.ret false)) else (some (.cont (wI (s2 + 1))))) else (some (.cont (wI (s2 + 1))))))))) else (some (.brk ()))
def m21_r07_Sane (a0 : GR07Chain) : Option Bool :=
  (iter (m21_r07_Sane_s2 a0) fuel 0).bind fun x => match x with | .inl r => some r | .inr e5 => m21_r07_Sane_k1 e5

set_option maxRecDepth 100000 in
theorem m21_r07_Sane_c {a0 : GR07Chain} {r : Bool} (h : m21_r07_Sane a0 = some r) : CallsA Try.prog 21 [.agg [.sl a0.L.length (a0.L.flatMap eGR07Ver)]] (· = .s (.one (.b r))) := by
  unfold m21_r07_Sane at h
  refine callsA_of Try.func21 rfl (nt := 57) rfl (Nat.le_of_ble_eq_true rfl) ?_
  intro w0 S0
  refine cseq ?_
  refine cregion ?_
  refine sbox rfl rfl ?_
  refine sv rfl (opv_as rfl) ?_
  refine snil ?_
  refine cseq ?_
  refine cseq ?_
  refine cregion ?_
  refine sv rfl (opv_as rfl) ?_
  refine snil ?_
  refine cjoin (Unit) (fun b1 => []) (fun b1 => [.box [.sl a0.L.length (a0.L.flatMap eGR07Ver)]]) (fun b1 => m21_r07_Sane_k1 b1 = some r) (fun _ _ => inbL_of rfl) (fun _ _ => blkinb_of rfl) (fun _ _ => Nat.le_of_ble_eq_true rfl) (fun b1 h => ?_) ?_
  · unfold m21_r07_Sane_k1 at h
    refine cseq ?_
    refine cregion ?_
    refine sv rfl (opv_as rfl) ?_
    refine snil ?_
    refine cret ?_
    obtain rfl := Option.some.inj h
    refine ⟨Or.inr rfl, _, _, _, (resVs_cons (ResV.tmp _ _ rfl) resVs_nil), (pubA_id rfl), ?_⟩
    rfl
  · skip
    refine cblock ?_
    obtain ⟨x2, hx2, ho2⟩ := bind_eq h
    refine awc_loop (G := Nat × (Int)) (fun g => [(1, .s (.one (.lp 0 0))), (3, .s (.one (.i .i64 g.2)))]) (fun g => [.box [.sl a0.L.length (a0.L.flatMap eGR07Ver)]]) (fun g => iter (m21_r07_Sane_s2 a0) g.1 g.2 = some x2) (fun g => g.1) (fuel, 0) hx2 ⟨rfl, rfl, trivial⟩ [] rfl (fun _ _ => inbL_of rfl) (fun _ _ => blkinb_of rfl) (fun _ _ => Nat.le_of_ble_eq_true rfl) ?_
    clear hx2 h
    rintro ⟨n2, s2⟩ h
    obtain ⟨n2, y2, rfl, h, hk2⟩ := iter_eq h
    unfold m21_r07_Sane_s2 at h
    refine cseq ?_
    refine cseq ?_
    refine cregion ?_
    refine sv rfl (opv_mv rfl) ?_
    refine sv rfl (opv_fieldAddr_lp fi24_0 rfl) ?_
    refine sv rfl (opv_load1 ti22 rfl (.lp _ _ _ rfl) rfl) ?_
    refine sv rfl (opv_len_sl si22 rfl) ?_
    refine sv rfl (opv_lss rfl rfl) ?_
    refine snil ?_
    refine ccond rfl (fun hc => ?_) (fun hc => ?_)
    · replace h := ite_t hc h
      clear hc
      refine cskip ?_
      refine then_normal ?_
      refine cseq ?_
      refine cblock ?_
      refine cseq ?_
      refine cregion ?_
      refine sv rfl (opv_fieldAddr_lp fi24_0 rfl) ?_
      refine sv rfl (opv_load1 ti22 rfl (.lp _ _ _ rfl) rfl) ?_
      refine sv rfl (opv_mv rfl) ?_
      obtain ⟨u3, hu3, h⟩ := bind_eq h
      refine sv rfl (opv_ix (f := eGR07Ver) si22 (fun _ => rfl) rfl rfl rfl rfl hu3) ?_
      refine sv rfl (opv_loadNe (ys := [.i .i64 u3.Ts, .sl u3.Val.length (u3.Val.flatMap eU8), .b u3.Del]) ti27 rfl (.cp _) rfl rfl) ?_
      refine salloc rfl zi27 ?_
      refine sstore sz27 rfl rfl rfl rfl (Nat.le_of_ble_eq_true rfl) ?_
      refine smem [.box [.sl a0.L.length (a0.L.flatMap eGR07Ver)], .box [.i .i64 u3.Ts, .sl u3.Val.length (u3.Val.flatMap eU8), .b u3.Del]] rfl ?_
      refine snil ?_
      refine cseq ?_
      refine cdraw mixed (by kernel_rfl) ?_
      refine dv rfl (opv_fieldAddr_lp fi27_0 rfl) ?_
      refine dv rfl (opv_load1 ti3 rfl (.lp _ _ _ rfl) rfl) ?_
      refine dv rfl (opv_lss rfl rfl) ?_
      refine dv rfl (opv_mv rfl) ?_
      refine dsplit 20 rfl (fun hc => ?_) (fun hc => ?_)
      · replace h := ite_t hc h
        clear hc
        refine doff rfl rfl rfl rfl ?_
        refine doff rfl rfl rfl rfl ?_
        refine doff rfl rfl rfl rfl ?_
        refine dv rfl (opv_pick_t rfl rfl) ?_
        refine dv rfl (opv_mv rfl) ?_
        refine doff rfl rfl rfl rfl ?_
        refine doff rfl rfl rfl rfl ?_
        refine doff rfl rfl rfl rfl ?_
        refine doffu rfl rfl rfl ?_
        refine doffu rfl rfl rfl ?_
        refine doffu rfl rfl rfl ?_
        refine doffu rfl rfl rfl ?_
        refine doffu rfl rfl rfl ?_
        refine doffu rfl rfl rfl ?_
        refine doffu rfl rfl rfl ?_
        refine doffu rfl rfl rfl ?_
        refine doffu rfl rfl rfl ?_
        refine doffu rfl rfl rfl ?_
        refine doff rfl rfl rfl rfl ?_
        refine dv rfl (opv_pick_t rfl rfl) ?_
        refine dv rfl (opv_mv rfl) ?_
        refine doff rfl rfl rfl rfl ?_
        refine doff rfl rfl rfl rfl ?_
        refine doff rfl rfl rfl rfl ?_
        refine doff rfl rfl rfl rfl ?_
        refine dv rfl (opv_pick_t rfl rfl) ?_
        refine dv rfl (opv_mv rfl) ?_
        refine doff rfl rfl rfl rfl ?_
        refine doff rfl rfl rfl rfl ?_
        refine doff rfl rfl rfl rfl ?_
        refine doffu rfl rfl rfl ?_
        refine doffu rfl rfl rfl ?_
        refine doffu rfl rfl rfl ?_
        refine doffu rfl rfl rfl ?_
        refine doff rfl rfl rfl rfl ?_
        refine dv rfl (opv_pick_t rfl rfl) ?_
        refine dnil ?_
        refine then_normal ?_
        refine ccond rfl (fun _ => ?_) (fun hx => Bool.noConfusion hx)
        refine cseq ?_
        refine cregion ?_
        refine sv rfl (opv_as rfl) ?_
        refine snil ?_
        refine cret ?_
        refine block_ret ?_
        refine then_ret ?_
        refine then_ret ?_
        refine block_ret ?_
        refine then_ret ?_
        obtain rfl := Option.some.inj h
        obtain rfl : Sum.inl _ = x2 := hk2
        replace ho2 : some _ = some _ := ho2
        obtain rfl := Option.some.inj ho2
        refine ⟨Or.inr rfl, _, _, _, (resVs_cons (ResV.tmp _ _ rfl) resVs_nil), (pubA_id rfl), ?_⟩
        rfl
      · replace h := ite_f hc h
        clear hc
        refine dvg rfl rfl rfl (opv_fieldAddr_lp fi27_0 rfl) ?_
        refine dvg rfl rfl rfl (opv_load1 ti3 rfl (.lp _ _ _ rfl) rfl) ?_
        refine dvg rfl rfl rfl (opv_gtr rfl rfl) ?_
        refine dv rfl (opv_pick_f rfl rfl) ?_
        refine dv rfl (opv_mv rfl) ?_
        refine dsplit 25 rfl (fun hc => ?_) (fun hc => ?_)
        · replace h := ite_t hc h
          clear hc
          refine doff rfl rfl rfl rfl ?_
          refine doff rfl rfl rfl rfl ?_
          refine doff rfl rfl rfl rfl ?_
          refine doffu rfl rfl rfl ?_
          refine doffu rfl rfl rfl ?_
          refine doffu rfl rfl rfl ?_
          refine doffu rfl rfl rfl ?_
          refine doffu rfl rfl rfl ?_
          refine doffu rfl rfl rfl ?_
          refine doffu rfl rfl rfl ?_
          refine doffu rfl rfl rfl ?_
          refine doffu rfl rfl rfl ?_
          refine doffu rfl rfl rfl ?_
          refine doff rfl rfl rfl rfl ?_
          refine dv rfl (opv_pick_t rfl rfl) ?_
          refine dv rfl (opv_mv rfl) ?_
          refine doff rfl rfl rfl rfl ?_
          refine doff rfl rfl rfl rfl ?_
          refine doff rfl rfl rfl rfl ?_
          refine doff rfl rfl rfl rfl ?_
          refine dv rfl (opv_pick_t rfl rfl) ?_
          refine dv rfl (opv_mv rfl) ?_
          refine doff rfl rfl rfl rfl ?_
          refine doff rfl rfl rfl rfl ?_
          refine doff rfl rfl rfl rfl ?_
          refine doffu rfl rfl rfl ?_
          refine doffu rfl rfl rfl ?_
          refine doffu rfl rfl rfl ?_
          refine doffu rfl rfl rfl ?_
          refine doff rfl rfl rfl rfl ?_
          refine dv rfl (opv_pick_t rfl rfl) ?_
          refine dnil ?_
          refine then_normal ?_
          refine ccond rfl (fun _ => ?_) (fun hx => Bool.noConfusion hx)
          refine cseq ?_
          refine cregion ?_
          refine sv rfl (opv_as rfl) ?_
          refine snil ?_
          refine cret ?_
          refine block_ret ?_
          refine then_ret ?_
          refine then_ret ?_
          refine block_ret ?_
          refine then_ret ?_
          obtain rfl := Option.some.inj h
          obtain rfl : Sum.inl _ = x2 := hk2
          replace ho2 : some _ = some _ := ho2
          obtain rfl := Option.some.inj ho2
          refine ⟨Or.inr rfl, _, _, _, (resVs_cons (ResV.tmp _ _ rfl) resVs_nil), (pubA_id rfl), ?_⟩
          rfl
        · replace h := ite_f hc h
          clear hc
          refine dvg rfl rfl rfl (opv_mv rfl) ?_
          refine dvg rfl rfl rfl (opv_gtr rfl rfl) ?_
          refine dvg rfl rfl rfl (opv_mv rfl) ?_
          refine dsplit 28 rfl (fun hc => ?_) (fun hc => ?_)
          · replace h := ite_t hc h
            clear hc
            refine dvg rfl rfl rfl (opv_fieldAddr_lp fi27_0 rfl) ?_
            refine dvg rfl rfl rfl (opv_load1 ti3 rfl (.lp _ _ _ rfl) rfl) ?_
            refine dvg rfl rfl rfl (opv_fieldAddr_lp fi24_0 rfl) ?_
            refine dvg rfl rfl rfl (opv_load1 ti22 rfl (.lp _ _ _ rfl) rfl) ?_
            refine dvg rfl rfl rfl (opv_mv rfl) ?_
            refine dvg rfl rfl rfl (opv_sub rfl rfl) ?_
            obtain ⟨u4, hu4, h⟩ := bind_eq h
            refine dvg rfl rfl rfl (opv_ix (f := eGR07Ver) si22 (fun _ => rfl) rfl rfl rfl rfl hu4) ?_
            refine dvg rfl rfl rfl (opv_fieldAddr_cp fi27_0 rfl) ?_
            refine dvg rfl rfl rfl (opv_load1 ti3 rfl (.cp _) rfl) ?_
            refine dvg rfl rfl rfl (opv_leq rfl rfl) ?_
            refine dvg rfl rfl rfl (opv_pick_t rfl rfl) ?_
            refine dv rfl (opv_pick_f rfl rfl) ?_
            refine dv rfl (opv_mv rfl) ?_
            refine dsplit 41 rfl (fun hc => ?_) (fun hc => ?_)
            · replace h := ite_t hc h
              clear hc
              refine doff rfl rfl rfl rfl ?_
              refine doff rfl rfl rfl rfl ?_
              refine doff rfl rfl rfl rfl ?_
              refine doff rfl rfl rfl rfl ?_
              refine dv rfl (opv_pick_t rfl rfl) ?_
              refine dv rfl (opv_mv rfl) ?_
              refine doff rfl rfl rfl rfl ?_
              refine doff rfl rfl rfl rfl ?_
              refine doff rfl rfl rfl rfl ?_
              refine doffu rfl rfl rfl ?_
              refine doffu rfl rfl rfl ?_
              refine doffu rfl rfl rfl ?_
              refine doffu rfl rfl rfl ?_
              refine doff rfl rfl rfl rfl ?_
              refine dv rfl (opv_pick_t rfl rfl) ?_
              refine dnil ?_
              refine then_normal ?_
              refine ccond rfl (fun _ => ?_) (fun hx => Bool.noConfusion hx)
              refine cseq ?_
              refine cregion ?_
              refine sv rfl (opv_as rfl) ?_
              refine snil ?_
              refine cret ?_
              refine block_ret ?_
              refine then_ret ?_
              refine then_ret ?_
              refine block_ret ?_
              refine then_ret ?_
              obtain rfl := Option.some.inj h
              obtain rfl : Sum.inl _ = x2 := hk2
              replace ho2 : some _ = some _ := ho2
              obtain rfl := Option.some.inj ho2
              refine ⟨Or.inr rfl, _, _, _, (resVs_cons (ResV.tmp _ _ rfl) resVs_nil), (pubA_id rfl), ?_⟩
              rfl
            · replace h := ite_f hc h
              clear hc
              refine dvg rfl rfl rfl (opv_fieldAddr_lp fi27_1 rfl) ?_
              refine dvg rfl rfl rfl (opv_load1 ti25 rfl (.lp _ _ _ rfl) rfl) ?_
              refine dvg rfl rfl rfl (opv_len_sl si25 rfl) ?_
              refine dvg rfl rfl rfl (opv_gtr rfl rfl) ?_
              refine dv rfl (opv_pick_f rfl rfl) ?_
              refine dv rfl (opv_mv rfl) ?_
              refine dsplit 47 rfl (fun hc => ?_) (fun hc => ?_)
              · replace h := ite_t hc h
                clear hc
                refine doff rfl rfl rfl rfl ?_
                refine doff rfl rfl rfl rfl ?_
                refine doff rfl rfl rfl rfl ?_
                refine doffu rfl rfl rfl ?_
                refine doffu rfl rfl rfl ?_
                refine doffu rfl rfl rfl ?_
                refine doffu rfl rfl rfl ?_
                refine doff rfl rfl rfl rfl ?_
                refine dv rfl (opv_pick_t rfl rfl) ?_
                refine dnil ?_
                refine then_normal ?_
                refine ccond rfl (fun _ => ?_) (fun hx => Bool.noConfusion hx)
                refine cseq ?_
                refine cregion ?_
                refine sv rfl (opv_as rfl) ?_
                refine snil ?_
                refine cret ?_
                refine block_ret ?_
                refine then_ret ?_
                refine then_ret ?_
                refine block_ret ?_
                refine then_ret ?_
                obtain rfl := Option.some.inj h
                obtain rfl : Sum.inl _ = x2 := hk2
                replace ho2 : some _ = some _ := ho2
                obtain rfl := Option.some.inj ho2
                refine ⟨Or.inr rfl, _, _, _, (resVs_cons (ResV.tmp _ _ rfl) resVs_nil), (pubA_id rfl), ?_⟩
                rfl
              · replace h := ite_f hc h
                clear hc
                refine dvg rfl rfl rfl (opv_fieldAddr_lp fi27_2 rfl) ?_
                refine dvg rfl rfl rfl (opv_load1 ti4 rfl (.lp _ _ _ rfl) rfl) ?_
                refine dvg rfl rfl rfl (opv_mv rfl) ?_
                refine dsplit 50 rfl (fun hc => ?_) (fun hc => ?_)
                · replace h := ite_t hc h
                  clear hc
                  refine dvg rfl rfl rfl (opv_fieldAddr_lp fi27_1 rfl) ?_
                  refine dvg rfl rfl rfl (opv_load1 ti25 rfl (.lp _ _ _ rfl) rfl) ?_
                  refine dvg rfl rfl rfl (opv_len_sl si25 rfl) ?_
                  refine dvg rfl rfl rfl (opv_gtr rfl rfl) ?_
                  refine dvg rfl rfl rfl (opv_pick_t rfl rfl) ?_
                  refine dv rfl (opv_pick_f rfl rfl) ?_
                  refine dnil ?_
                  refine then_normal ?_
                  refine ccond rfl (fun hc => ?_) (fun hc => ?_)
                  · replace h := ite_t hc h
                    clear hc
                    refine cseq ?_
                    refine cregion ?_
                    refine sv rfl (opv_as rfl) ?_
                    refine snil ?_
                    refine cret ?_
                    refine block_ret ?_
                    refine then_ret ?_
                    refine then_ret ?_
                    refine block_ret ?_
                    refine then_ret ?_
                    obtain rfl := Option.some.inj h
                    obtain rfl : Sum.inl _ = x2 := hk2
                    replace ho2 : some _ = some _ := ho2
                    obtain rfl := Option.some.inj ho2
                    refine ⟨Or.inr rfl, _, _, _, (resVs_cons (ResV.tmp _ _ rfl) resVs_nil), (pubA_id rfl), ?_⟩
                    rfl
                  · replace h := ite_f hc h
                    clear hc
                    refine cskip ?_
                    refine block_normal ?_
                    refine then_normal ?_
                    refine cregion ?_
                    refine sv rfl (opv_mv rfl) ?_
                    refine sv rfl (opv_add rfl rfl) ?_
                    refine sv rfl (opv_as rfl) ?_
                    refine snil ?_
                    obtain rfl := Option.some.inj h
                    exact ⟨(n2, (wI (s2 + 1))), _, hk2, ⟨rfl, rfl, trivial⟩, rfl, Nat.lt_succ_self _⟩
                · replace h := ite_f hc h
                  clear hc
                  refine doff rfl rfl rfl rfl ?_
                  refine doff rfl rfl rfl rfl ?_
                  refine doff rfl rfl rfl rfl ?_
                  refine doff rfl rfl rfl rfl ?_
                  refine dvg rfl rfl rfl (opv_pick_f rfl rfl) ?_
                  refine dv rfl (opv_pick_f rfl rfl) ?_
                  refine dnil ?_
                  refine then_normal ?_
                  refine ccond rfl (fun hx => Bool.noConfusion hx) (fun _ => ?_)
                  refine cskip ?_
                  refine block_normal ?_
                  refine then_normal ?_
                  refine cregion ?_
                  refine sv rfl (opv_mv rfl) ?_
                  refine sv rfl (opv_add rfl rfl) ?_
                  refine sv rfl (opv_as rfl) ?_
                  refine snil ?_
                  obtain rfl := Option.some.inj h
                  exact ⟨(n2, (wI (s2 + 1))), _, hk2, ⟨rfl, rfl, trivial⟩, rfl, Nat.lt_succ_self _⟩
          · replace h := ite_f hc h
            clear hc
            refine doff rfl rfl rfl rfl ?_
            refine doff rfl rfl rfl rfl ?_
            refine doff rfl rfl rfl rfl ?_
            refine doff rfl rfl rfl rfl ?_
            refine doff rfl rfl rfl rfl ?_
            refine doff rfl rfl rfl rfl ?_
            refine doff rfl rfl rfl rfl ?_
            refine doff rfl rfl rfl rfl ?_
            refine doff rfl rfl rfl rfl ?_
            refine doff rfl rfl rfl rfl ?_
            refine dvg rfl rfl rfl (opv_pick_f rfl rfl) ?_
            refine dv rfl (opv_pick_f rfl rfl) ?_
            refine dv rfl (opv_mv rfl) ?_
            refine dvg rfl rfl rfl (opv_fieldAddr_lp fi27_1 rfl) ?_
            refine dvg rfl rfl rfl (opv_load1 ti25 rfl (.lp _ _ _ rfl) rfl) ?_
            refine dvg rfl rfl rfl (opv_len_sl si25 rfl) ?_
            refine dvg rfl rfl rfl (opv_gtr rfl rfl) ?_
            refine dv rfl (opv_pick_f rfl rfl) ?_
            refine dv rfl (opv_mv rfl) ?_
            refine dsplit 47 rfl (fun hc => ?_) (fun hc => ?_)
            · replace h := ite_t hc h
              clear hc
              refine doff rfl rfl rfl rfl ?_
              refine doff rfl rfl rfl rfl ?_
              refine doff rfl rfl rfl rfl ?_
              refine doffu rfl rfl rfl ?_
              refine doffu rfl rfl rfl ?_
              refine doffu rfl rfl rfl ?_
              refine doffu rfl rfl rfl ?_
              refine doff rfl rfl rfl rfl ?_
              refine dv rfl (opv_pick_t rfl rfl) ?_
              refine dnil ?_
              refine then_normal ?_
              refine ccond rfl (fun _ => ?_) (fun hx => Bool.noConfusion hx)
              refine cseq ?_
              refine cregion ?_
              refine sv rfl (opv_as rfl) ?_
              refine snil ?_
              refine cret ?_
              refine block_ret ?_
              refine then_ret ?_
              refine then_ret ?_
              refine block_ret ?_
              refine then_ret ?_
              obtain rfl := Option.some.inj h
              obtain rfl : Sum.inl _ = x2 := hk2
              replace ho2 : some _ = some _ := ho2
              obtain rfl := Option.some.inj ho2
              refine ⟨Or.inr rfl, _, _, _, (resVs_cons (ResV.tmp _ _ rfl) resVs_nil), (pubA_id rfl), ?_⟩
              rfl
            · replace h := ite_f hc h
              clear hc
              refine dvg rfl rfl rfl (opv_fieldAddr_lp fi27_2 rfl) ?_
              refine dvg rfl rfl rfl (opv_load1 ti4 rfl (.lp _ _ _ rfl) rfl) ?_
              refine dvg rfl rfl rfl (opv_mv rfl) ?_
              refine dsplit 50 rfl (fun hc => ?_) (fun hc => ?_)
              · replace h := ite_t hc h
                clear hc
                refine dvg rfl rfl rfl (opv_fieldAddr_lp fi27_1 rfl) ?_
                refine dvg rfl rfl rfl (opv_load1 ti25 rfl (.lp _ _ _ rfl) rfl) ?_
                refine dvg rfl rfl rfl (opv_len_sl si25 rfl) ?_
                refine dvg rfl rfl rfl (opv_gtr rfl rfl) ?_
                refine dvg rfl rfl rfl (opv_pick_t rfl rfl) ?_
                refine dv rfl (opv_pick_f rfl rfl) ?_
                refine dnil ?_
                refine then_normal ?_
                refine ccond rfl (fun hc => ?_) (fun hc => ?_)
                · replace h := ite_t hc h
                  clear hc
                  refine cseq ?_
                  refine cregion ?_
                  refine sv rfl (opv_as rfl) ?_
                  refine snil ?_
                  refine cret ?_
                  refine block_ret ?_
                  refine then_ret ?_
                  refine then_ret ?_
                  refine block_ret ?_
                  refine then_ret ?_
                  obtain rfl := Option.some.inj h
                  obtain rfl : Sum.inl _ = x2 := hk2
                  replace ho2 : some _ = some _ := ho2
                  obtain rfl := Option.some.inj ho2
                  refine ⟨Or.inr rfl, _, _, _, (resVs_cons (ResV.tmp _ _ rfl) resVs_nil), (pubA_id rfl), ?_⟩
                  rfl
                · replace h := ite_f hc h
                  clear hc
                  refine cskip ?_
                  refine block_normal ?_
                  refine then_normal ?_
                  refine cregion ?_
                  refine sv rfl (opv_mv rfl) ?_
                  refine sv rfl (opv_add rfl rfl) ?_
                  refine sv rfl (opv_as rfl) ?_
                  refine snil ?_
                  obtain rfl := Option.some.inj h
                  exact ⟨(n2, (wI (s2 + 1))), _, hk2, ⟨rfl, rfl, trivial⟩, rfl, Nat.lt_succ_self _⟩
              · replace h := ite_f hc h
                clear hc
                refine doff rfl rfl rfl rfl ?_
                refine doff rfl rfl rfl rfl ?_
                refine doff rfl rfl rfl rfl ?_
                refine doff rfl rfl rfl rfl ?_
                refine dvg rfl rfl rfl (opv_pick_f rfl rfl) ?_
                refine dv rfl (opv_pick_f rfl rfl) ?_
                refine dnil ?_
                refine then_normal ?_
                refine ccond rfl (fun hx => Bool.noConfusion hx) (fun _ => ?_)
                refine cskip ?_
                refine block_normal ?_
                refine then_normal ?_
                refine cregion ?_
                refine sv rfl (opv_mv rfl) ?_
                refine sv rfl (opv_add rfl rfl) ?_
                refine sv rfl (opv_as rfl) ?_
                refine snil ?_
                obtain rfl := Option.some.inj h
                exact ⟨(n2, (wI (s2 + 1))), _, hk2, ⟨rfl, rfl, trivial⟩, rfl, Nat.lt_succ_self _⟩
    · replace h := ite_f hc h
      clear hc
      refine cexit ?_
      refine then_exit ?_
      refine then_exit ?_
      refine block_hit ?_
      refine then_normal ?_
      obtain rfl := Option.some.inj h
      obtain rfl : _ = x2 := hk2
      exact ⟨(), _, ho2, trivial, rfl⟩

def m23_r07_Last (a0 : GR07Chain) : Option Int :=
  if (decide ((a0.L.length : Int) = 0)) then (some 0) else ((idx a0.L (wI ((a0.L.length : Int) - 1))).bind fun u1 => some u1.Ts)

set_option maxRecDepth 100000 in
theorem m23_r07_Last_c {a0 : GR07Chain} {r : Int} (h : m23_r07_Last a0 = some r) : CallsA Try.prog 23 [.agg [.sl a0.L.length (a0.L.flatMap eGR07Ver)]] (· = .s (.one (.i .i64 r))) := by
  unfold m23_r07_Last at h
  refine callsA_of Try.func23 rfl (nt := 16) rfl (Nat.le_of_ble_eq_true rfl) ?_
  intro w0 S0
  refine cseq ?_
  refine cregion ?_
  refine sbox rfl rfl ?_
  refine sv rfl (opv_as rfl) ?_
  refine snil ?_
  refine cseq ?_
  refine cseq ?_
  refine cregion ?_
  refine sv rfl (opv_fieldAddr_lp fi24_0 rfl) ?_
  refine sv rfl (opv_load1 ti22 rfl (.lp _ _ _ rfl) rfl) ?_
  refine sv rfl (opv_len_sl si22 rfl) ?_
  refine sv rfl (opv_ieql rfl rfl) ?_
  refine snil ?_
  refine ccond rfl (fun hc => ?_) (fun hc => ?_)
  · replace h := ite_t hc h
    clear hc
    refine cseq ?_
    refine cregion ?_
    refine sv rfl (opv_as rfl) ?_
    refine snil ?_
    refine cret ?_
    refine then_ret ?_
    obtain rfl := Option.some.inj h
    refine ⟨Or.inr rfl, _, _, _, (resVs_cons (ResV.tmp _ _ rfl) resVs_nil), (pubA_id rfl), ?_⟩
    rfl
  · replace h := ite_f hc h
    clear hc
    refine cskip ?_
    refine then_normal ?_
    refine cseq ?_
    refine cregion ?_
    refine sv rfl (opv_fieldAddr_lp fi24_0 rfl) ?_
    refine sv rfl (opv_load1 ti22 rfl (.lp _ _ _ rfl) rfl) ?_
    refine sv rfl (opv_fieldAddr_lp fi24_0 rfl) ?_
    refine sv rfl (opv_load1 ti22 rfl (.lp _ _ _ rfl) rfl) ?_
    refine sv rfl (opv_len_sl si22 rfl) ?_
    refine sv rfl (opv_sub rfl rfl) ?_
    obtain ⟨u1, hu1, h⟩ := bind_eq h
    refine sv rfl (opv_ix (f := eGR07Ver) si22 (fun _ => rfl) rfl rfl rfl rfl hu1) ?_
    refine sv rfl (opv_fieldAddr_cp fi27_0 rfl) ?_
    refine sv rfl (opv_load1 ti3 rfl (.cp _) rfl) ?_
    refine sv rfl (opv_as rfl) ?_
    refine snil ?_
    refine cret ?_
    obtain rfl := Option.some.inj h
    refine ⟨Or.inr rfl, _, _, _, (resVs_cons (ResV.tmp _ _ rfl) resVs_nil), (pubA_id rfl), ?_⟩
    rfl

def m17_r07_Push_k1 (a0 : GR07Chain) (a1 : GR07Ver) (b1 : Unit) : Option (GR07Chain × Int) :=
  (m23_r07_Last a0).bind fun v2 => if (decide (a1.Ts ≤ v2)) then (some ((GR07Chain.mk ([] : List GR07Ver)), 7)) else (if (([] : List GR07Ver).length + a0.L.length) * 40 ≤ 140737488355328 then (if ((([] : List GR07Ver) ++ a0.L).length + [a1].length) * 40 ≤ 140737488355328 then (some ((GR07Chain.mk ((([] : List GR07Ver) ++ a0.L) ++ [a1])), 0)) else none) else none)
def m17_r07_Push (a0 : GR07Chain) (a1 : GR07Ver) : Option (GR07Chain × Int) :=
  (m21_r07_Sane a0).bind fun v5 => if (!v5) then (some ((GR07Chain.mk ([] : List GR07Ver)), 1)) else ((m21_r07_Sane (GR07Chain.mk [a1])).bind fun v6 => if (!v6) then (some ((GR07Chain.mk ([] : List GR07Ver)), 1)) else (m17_r07_Push_k1 a0 a1 ()))

set_option maxRecDepth 100000 in
theorem m17_r07_Push_c {a0 : GR07Chain} {a1 : GR07Ver} {r : GR07Chain × Int} (h : m17_r07_Push a0 a1 = some r) : CallsA Try.prog 17 [.agg [.sl a0.L.length (a0.L.flatMap eGR07Ver)], .agg [.i .i64 a1.Ts, .sl a1.Val.length (a1.Val.flatMap eU8), .b a1.Del]] (· = .tup [.agg [.sl r.1.L.length (r.1.L.flatMap eGR07Ver)], .one (.i .i64 r.2)]) := by
  unfold m17_r07_Push at h
  refine callsA_of Try.func17 rfl (nt := 34) rfl (Nat.le_of_ble_eq_true rfl) ?_
  intro w0 S0
  refine cseq ?_
  refine cregion ?_
  refine sbox rfl rfl ?_
  refine sbox rfl rfl ?_
  refine salloc rfl zi24 ?_
  refine sv rfl (opv_as rfl) ?_
  refine snil ?_
  refine cseq ?_
  refine cseq ?_
  refine cjoin3 (Unit) (fun b1 => [(2, .s (.one (.lp 0 0))), (3, .s (.one (.lp 1 0))), (4, .s (.one (.lp 2 0)))]) (fun b1 => [.box [.sl a0.L.length (a0.L.flatMap eGR07Ver)], .box [.i .i64 a1.Ts, .sl a1.Val.length (a1.Val.flatMap eU8), .b a1.Del], .box [.raw (.slice none 0 0)]]) (fun b1 => m17_r07_Push_k1 a0 a1 b1 = some r) (fun _ _ => inbL_of rfl) (fun _ _ => blkinb_of rfl) (fun _ _ => Nat.le_of_ble_eq_true rfl) (fun b1 h => ?_) ?_
  · unfold m17_r07_Push_k1 at h
    refine cseq ?_
    refine cseq ?_
    refine cdraw mixed (by kernel_rfl) ?_
    refine dv rfl (opv_fieldAddr_lp fi27_0 rfl) ?_
    refine dv rfl (opv_load1 ti3 rfl (.lp _ _ _ rfl) rfl) ?_
    refine dv rfl (opv_loadN ti24 rfl (.lp _ _ _ rfl) (Nat.le_of_ble_eq_true rfl)) ?_
    obtain ⟨v2, hv2, h⟩ := bind_eq h
    refine dd rfl (opD_call fn23 (opnds_cons rfl opnds_nil) rfl (m23_r07_Last_c hv2)) ?_
    refine dv rfl (opv_leq rfl rfl) ?_
    refine dnil ?_
    refine then_normal ?_
    refine ccond rfl (fun hc => ?_) (fun hc => ?_)
    · replace h := ite_t hc h
      clear hc
      refine cseq ?_
      refine cregion ?_
      refine sv rfl (opv_build zi24 pi24 parts_nil (.nil _)) ?_
      refine sstore sz24 rfl rfl rfl rfl (Nat.le_of_ble_eq_true rfl) ?_
      refine smem [.box [.sl a0.L.length (a0.L.flatMap eGR07Ver)], .box [.i .i64 a1.Ts, .sl a1.Val.length (a1.Val.flatMap eU8), .b a1.Del], .box [.raw (.slice none 0 0)]] rfl ?_
      refine sv rfl (opv_as rfl) ?_
      refine snil ?_
      refine cret ?_
      refine then_ret ?_
      obtain rfl := Option.some.inj h
      refine ⟨Or.inr rfl, _, _, _, (resVs_cons (ResV.agg _ _ _ _ _ ti24 rfl (.lp _ _ _ rfl) (Nat.le_of_ble_eq_true rfl)) (resVs_cons (ResV.tmp _ _ rfl) resVs_nil)), (pubC rfl), ?_⟩
      rfl
    · replace h := ite_f hc h
      clear hc
      refine cskip ?_
      refine then_normal ?_
      refine cseq ?_
      refine cregion ?_
      refine sbuild0 rfl Try.underlying22 ei27 ?_
      refine sv rfl (opv_fieldAddr_lp fi24_0 rfl) ?_
      refine sv rfl (opv_load1 ti22 rfl (.lp _ _ _ rfl) rfl) ?_
      obtain ⟨hb3, h⟩ := chk_eq h
      refine sapp (f := eGR07Ver) (xs := ([] : List GR07Ver)) (us := a0.L) rfl Try.underlying22 ei27 ni22 (fun _ => rfl) rfl rfl (.one _ _ _ _ (.id _ rfl)) rfl rfl rfl (.sl _ _ _ (flat_len (f := eGR07Ver) (fun _ => rfl) _)) rfl rfl hb3 (by decide) ?_
      refine sv rfl (opv_as rfl) ?_
      refine snil ?_
      refine cseq ?_
      refine cregion ?_
      refine sv rfl (opv_mv rfl) ?_
      refine sv rfl (opv_loadN ti27 rfl (.lp _ _ _ rfl) (Nat.le_of_ble_eq_true rfl)) ?_
      refine sbuild1 rfl Try.underlying22 ei27 rfl rfl (List.all_eq_true.1 rfl) (by decide) ?_
      refine smem [.box [.sl a0.L.length (a0.L.flatMap eGR07Ver)], .box [.i .i64 a1.Ts, .sl a1.Val.length (a1.Val.flatMap eU8), .b a1.Del], .box [.raw (.slice none 0 0)], .arr 27 3 0 ((([] : List GR07Ver) ++ a0.L).flatMap eGR07Ver), .arr 27 3 0 ([a1].flatMap eGR07Ver)] rfl ?_
      obtain ⟨hb4, h⟩ := chk_eq h
      refine sapp (f := eGR07Ver) (xs := (([] : List GR07Ver) ++ a0.L)) (us := [a1]) rfl Try.underlying22 ei27 ni22 (fun _ => rfl) rfl rfl (.one _ _ _ _ (.ls _ _ _ _ _ _ rfl (flat_len (f := eGR07Ver) (fun _ => rfl) [a1]).symm)) rfl rfl rfl (.sl _ _ _ (flat_len (f := eGR07Ver) (fun _ => rfl) _)) rfl rfl hb4 (by decide) ?_
      refine sv rfl (opv_as rfl) ?_
      refine snil ?_
      refine cseq ?_
      refine cregion ?_
      refine sv rfl (opv_mv rfl) ?_
      refine sv rfl (opv_build zi24 pi24 (parts_cons rfl parts_nil) (.cons _ _ _ _ _ _ _ rfl rfl (Nat.le_of_ble_eq_true rfl) (.nil _))) ?_
      refine sstore sz24 rfl rfl rfl rfl (Nat.le_of_ble_eq_true rfl) ?_
      refine smem [.box [.sl a0.L.length (a0.L.flatMap eGR07Ver)], .box [.i .i64 a1.Ts, .sl a1.Val.length (a1.Val.flatMap eU8), .b a1.Del], .box [.ls 3 ((([] : List GR07Ver) ++ a0.L) ++ [a1]).length], .arr 27 3 0 (((([] : List GR07Ver) ++ a0.L) ++ [a1]).flatMap eGR07Ver), .arr 27 3 ([a1].flatMap eGR07Ver).length ([a1].flatMap eGR07Ver)] rfl ?_
      refine sv rfl (opv_as rfl) ?_
      refine snil ?_
      refine cret ?_
      obtain rfl := Option.some.inj h
      refine ⟨Or.inr rfl, _, _, _, (resVs_cons (ResV.agg _ _ _ _ _ ti24 rfl (.lp _ _ _ rfl) (Nat.le_of_ble_eq_true rfl)) (resVs_cons (ResV.tmp _ _ rfl) resVs_nil)), (by (repeat' first | exact PubA.nil _ | apply PubA.cons | apply PubV.one | apply PubV.agg | exact PubL.nil | exact PubL.ls _ _ _ _ _ _ rfl (flat_len (f := eGR07Ver) (fun _ => rfl) _).symm | exact PubL.id _ rfl | exact PubLs.nil _ | apply PubLs.cons)), ?_⟩
      rfl
  · skip
    refine cregion ?_
    refine sv rfl (opv_loadN ti24 rfl (.lp _ _ _ rfl) (Nat.le_of_ble_eq_true rfl)) ?_
    obtain ⟨v5, hv5, h⟩ := bind_eq h
    refine scall1 rfl fn21 (opnds_cons rfl opnds_nil) (pubA_id rfl) (m21_r07_Sane_c hv5) ?_
    refine sv rfl (opv_not rfl) ?_
    refine sv rfl (opv_mv rfl) ?_
    refine ssplit 10 rfl (fun hc => ?_) (fun hc => ?_)
    · replace h := ite_t hc h
      clear hc
      refine soff rfl rfl rfl rfl ?_
      refine soff rfl rfl rfl rfl ?_
      refine soff rfl rfl rfl rfl ?_
      refine soff rfl rfl rfl rfl ?_
      refine soff rfl rfl rfl rfl ?_
      refine sv rfl (opv_pick_t rfl rfl) ?_
      refine snil ?_
      refine ccond rfl (fun _ => ?_) (fun hx => Bool.noConfusion hx)
      refine cseq ?_
      refine cregion ?_
      refine sv rfl (opv_build zi24 pi24 parts_nil (.nil _)) ?_
      refine sstore sz24 rfl rfl rfl rfl (Nat.le_of_ble_eq_true rfl) ?_
      refine smem [.box [.sl a0.L.length (a0.L.flatMap eGR07Ver)], .box [.i .i64 a1.Ts, .sl a1.Val.length (a1.Val.flatMap eU8), .b a1.Del], .box [.raw (.slice none 0 0)]] rfl ?_
      refine sv rfl (opv_as rfl) ?_
      refine snil ?_
      refine cret ?_
      refine then_ret ?_
      obtain rfl := Option.some.inj h
      refine ⟨Or.inr rfl, _, _, _, (resVs_cons (ResV.agg _ _ _ _ _ ti24 rfl (.lp _ _ _ rfl) (Nat.le_of_ble_eq_true rfl)) (resVs_cons (ResV.tmp _ _ rfl) resVs_nil)), (pubC rfl), ?_⟩
      rfl
    · replace h := ite_f hc h
      clear hc
      refine son rfl rfl rfl ?_
      refine sv rfl (opv_loadN ti27 rfl (.lp _ _ _ rfl) (Nat.le_of_ble_eq_true rfl)) ?_
      refine son rfl rfl rfl ?_
      refine sbuild1 rfl Try.underlying22 ei27 rfl rfl (List.all_eq_true.1 rfl) (by decide) ?_
      refine smem [.box [.sl a0.L.length (a0.L.flatMap eGR07Ver)], .box [.i .i64 a1.Ts, .sl a1.Val.length (a1.Val.flatMap eU8), .b a1.Del], .box [.raw (.slice none 0 0)], .arr 27 3 0 ([a1].flatMap eGR07Ver)] rfl ?_
      refine son rfl rfl rfl ?_
      refine sv rfl (opv_build zi24 pi24 (parts_cons rfl parts_nil) (.cons _ _ _ _ _ _ _ rfl rfl (Nat.le_of_ble_eq_true rfl) (.nil _))) ?_
      refine son rfl rfl rfl ?_
      refine spub 13 rfl (by (repeat' first | exact PubA.nil _ | apply PubA.cons | apply PubV.one | apply PubV.agg | exact PubL.nil | exact PubL.ls _ _ _ _ _ _ rfl (flat_len (f := eGR07Ver) (fun _ => rfl) ([a1] : List GR07Ver)).symm | exact PubL.ls _ _ _ _ _ _ rfl (flat_len (f := eGR07Ver) (fun _ => rfl) _).symm | exact PubL.id _ rfl | exact PubLs.nil _ | apply PubLs.cons)) ?_
      obtain ⟨v6, hv6, h⟩ := bind_eq h
      refine scall1 rfl fn21 (opnds_cons rfl opnds_nil) (pubA_id rfl) (m21_r07_Sane_c hv6) ?_
      refine son rfl rfl rfl ?_
      refine sv rfl (opv_not rfl) ?_
      refine sv rfl (opv_pick_f rfl rfl) ?_
      refine snil ?_
      refine ccond rfl (fun hc => ?_) (fun hc => ?_)
      · replace h := ite_t hc h
        clear hc
        refine cseq ?_
        refine cregion ?_
        refine sv rfl (opv_build zi24 pi24 parts_nil (.nil _)) ?_
        refine sstore sz24 rfl rfl rfl rfl (Nat.le_of_ble_eq_true rfl) ?_
        refine smem [.box [.sl a0.L.length (a0.L.flatMap eGR07Ver)], .box [.i .i64 a1.Ts, .sl a1.Val.length (a1.Val.flatMap eU8), .b a1.Del], .box [.raw (.slice none 0 0)], .arr 27 3 ([a1].flatMap eGR07Ver).length ([a1].flatMap eGR07Ver)] rfl ?_
        refine sv rfl (opv_as rfl) ?_
        refine snil ?_
        refine cret ?_
        refine then_ret ?_
        obtain rfl := Option.some.inj h
        refine ⟨Or.inr rfl, _, _, _, (resVs_cons (ResV.agg _ _ _ _ _ ti24 rfl (.lp _ _ _ rfl) (Nat.le_of_ble_eq_true rfl)) (resVs_cons (ResV.tmp _ _ rfl) resVs_nil)), (pubC rfl), ?_⟩
        rfl
      · replace h := ite_f hc h
        clear hc
        refine cskip ?_
        refine then_normal ?_
        exact ⟨(), _, h, ⟨rfl, rfl, rfl, trivial⟩, rfl⟩

def m19_l07_theirs_k1 (b1 : (List GR07Ver)) : Option (List GR07Ver) :=
  some b1

def m19_l07_theirs_s2 (a0 : List GChainVer) (s2 : Int × (List GR07Ver)) : Option (LB (Int × (List GR07Ver)) ((List GR07Ver))) :=
  if (decide (s2.1 < (a0.length : Int))) then ((idx a0 s2.1).bind fun u3 => (idx a0 s2.1).bind fun u4 => (idx a0 s2.1).bind fun u5 => if (s2.2.length + ([(GR07Ver.mk u3.Ts u4.Val u5.Del)] : List GR07Ver).length) * 40 ≤ 140737488355328 then (some (.cont ((wI (s2.1 + 1)), (s2.2 ++ ([(GR07Ver.mk u3.Ts u4.Val u5.Del)] : List GR07Ver))))) else none) else (some (.brk s2.2))
def m19_l07_theirs (a0 : List GChainVer) : Option (List GR07Ver) :=
  (iterB (m19_l07_theirs_s2 a0) fuel (0, ([] : List GR07Ver))).bind fun e7 => m19_l07_theirs_k1 e7

set_option maxRecDepth 100000 in
theorem m19_l07_theirs_c {a0 : List GChainVer} {r : (List GR07Ver)} (h : m19_l07_theirs a0 = some r) : CallsA Try.prog 19 [.one (.sl a0.length (a0.flatMap eGChainVer))] (· = .s (.one (.sl r.length (r.flatMap eGR07Ver)))) := by
  unfold m19_l07_theirs at h
  refine callsA_of Try.func19 rfl (nt := 31) rfl (Nat.le_of_ble_eq_true rfl) ?_
  intro w0 S0
  refine cseq ?_
  refine cregion ?_
  refine sv rfl (opv_as rfl) ?_
  refine snil ?_
  refine cseq ?_
  refine cregion ?_
  refine sv rfl (opv_as rfl) ?_
  refine snil ?_
  refine cseq ?_
  refine cseq ?_
  refine cregion ?_
  refine sv rfl (opv_as rfl) ?_
  refine snil ?_
  refine sadopt_c 27 3 3 (by decide) rfl ?_
  refine cjoin ((List GR07Ver)) (fun b1 => [(3, .s (.one (.ls 0 b1.length)))]) (fun b1 => [.arr 27 3 0 (b1.flatMap eGR07Ver)]) (fun b1 => m19_l07_theirs_k1 b1 = some r) (fun _ _ => inbL_of rfl) (fun _ _ => blkinb_of rfl) (fun _ _ => Nat.le_of_ble_eq_true rfl) (fun b1 h => ?_) ?_
  · unfold m19_l07_theirs_k1 at h
    refine cseq ?_
    refine cregion ?_
    refine sv rfl (opv_mv rfl) ?_
    refine sv rfl (opv_as rfl) ?_
    refine snil ?_
    refine cret ?_
    obtain rfl := Option.some.inj h
    refine ⟨Or.inr rfl, _, _, _, (resVs_cons (ResV.tmp _ _ rfl) resVs_nil), (by (repeat' first | exact PubA.nil _ | apply PubA.cons | apply PubV.one | apply PubV.agg | exact PubL.nil | exact PubL.ls _ _ _ _ _ _ rfl (flat_len (f := eGR07Ver) (fun _ => rfl) _).symm | exact PubL.id _ rfl | exact PubLs.nil _ | apply PubLs.cons)), ?_⟩
    rfl
  · skip
    refine cblock ?_
    obtain ⟨x2, hx2, ho2⟩ := bind_eq h
    refine awc_loop (G := Nat × (Int × (List GR07Ver))) (fun g => [(0, .s (.one (.sl a0.length (a0.flatMap eGChainVer)))), (3, .s (.one (.ls 0 g.2.2.length))), (4, .s (.one (.i .i64 g.2.1)))]) (fun g => [.arr 27 3 0 (g.2.2.flatMap eGR07Ver)]) (fun g => iterB (m19_l07_theirs_s2 a0) g.1 g.2 = some x2) (fun g => g.1) (fuel, (0, ([] : List GR07Ver))) hx2 ⟨rfl, rfl, rfl, trivial⟩ [] rfl (fun _ _ => inbL_of rfl) (fun _ _ => blkinb_of rfl) (fun _ _ => Nat.le_of_ble_eq_true rfl) ?_
    clear hx2 h
    rintro ⟨n2, s2⟩ h
    obtain ⟨n2, y2, rfl, h, hk2⟩ := iterB_eq h
    unfold m19_l07_theirs_s2 at h
    refine cseq ?_
    refine cseq ?_
    refine cregion ?_
    refine sv rfl (opv_mv rfl) ?_
    refine sv rfl (opv_mv rfl) ?_
    refine sv rfl (opv_len_sl si30 rfl) ?_
    refine sv rfl (opv_lss rfl rfl) ?_
    refine snil ?_
    refine ccond rfl (fun hc => ?_) (fun hc => ?_)
    · replace h := ite_t hc h
      clear hc
      refine cskip ?_
      refine then_normal ?_
      refine cseq ?_
      refine cblock ?_
      obtain ⟨u3, hu3, h⟩ := bind_eq h
      obtain ⟨u4, hu4, h⟩ := bind_eq h
      obtain ⟨u5, hu5, h⟩ := bind_eq h
      obtain ⟨hb6, h⟩ := chk_eq h
      refine cdraw_eL [18] [0, 0, 0, 6, 14, 30, 0, 0, 192, 448, 960, 0, 0, 6144, 14336, 30720, 65534, 131070, 262143] [[.arr 27 3 0 (s2.2.flatMap eGR07Ver)], [.arr 27 3 0 ((s2.2 ++ ([(GR07Ver.mk u3.Ts u4.Val u5.Del)] : List GR07Ver)).flatMap eGR07Ver)]] (by kernel_rfl) mixed (List.cons_ne_nil _ _) (by kernel_rfl) (by kernel_rfl) (by decide) rfl rfl rfl rfl ?_
      refine ev (sees_at 0 rfl rfl) rfl rfl (opv_mv rfl) ?_
      refine ev (sees_at 0 rfl rfl) rfl rfl (opv_mv rfl) ?_
      refine ev (sees_at 0 rfl rfl) rfl rfl (opv_mv rfl) ?_
      refine ev (sees_at 0 rfl rfl) rfl rfl (opv_ix (f := eGChainVer) si30 (fun _ => rfl) rfl rfl rfl rfl hu3) ?_
      refine ev (sees_at 0 rfl rfl) rfl rfl (opv_fieldAddr_cp fi34_0 rfl) ?_
      refine ev (sees_at 0 rfl rfl) rfl rfl (opv_load1 ti3 rfl (.cp _) rfl) ?_
      refine ev (sees_at 0 rfl rfl) rfl rfl (opv_mv rfl) ?_
      refine ev (sees_at 0 rfl rfl) rfl rfl (opv_mv rfl) ?_
      refine ev (sees_at 0 rfl rfl) rfl rfl (opv_ix (f := eGChainVer) si30 (fun _ => rfl) rfl rfl rfl rfl hu4) ?_
      refine ev (sees_at 0 rfl rfl) rfl rfl (opv_fieldAddr_cp fi34_1 rfl) ?_
      refine ev (sees_at 0 rfl rfl) rfl rfl (opv_load1 ti25 rfl (.cp _) rfl) ?_
      refine ev (sees_at 0 rfl rfl) rfl rfl (opv_mv rfl) ?_
      refine ev (sees_at 0 rfl rfl) rfl rfl (opv_mv rfl) ?_
      refine ev (sees_at 0 rfl rfl) rfl rfl (opv_ix (f := eGChainVer) si30 (fun _ => rfl) rfl rfl rfl rfl hu5) ?_
      refine ev (sees_at 0 rfl rfl) rfl rfl (opv_fieldAddr_cp fi34_2 rfl) ?_
      refine ev (sees_at 0 rfl rfl) rfl rfl (opv_load1 ti4 rfl (.cp _) rfl) ?_
      refine ev (sees_at 0 rfl rfl) rfl rfl (opv_build zi27 pi27 (parts_cons rfl (parts_cons rfl (parts_cons rfl parts_nil))) (.cons _ _ _ _ _ _ _ rfl rfl (Nat.le_of_ble_eq_true rfl) (.cons _ _ _ _ _ _ _ rfl rfl (Nat.le_of_ble_eq_true rfl) (.cons _ _ _ _ _ _ _ rfl rfl (Nat.le_of_ble_eq_true rfl) (.nil _))))) ?_
      refine ed (sees_at 0 rfl rfl) rfl rfl (opD_bld (out := ([(GR07Ver.mk u3.Ts u4.Val u5.Del)] : List GR07Ver).flatMap eGR07Ver) Try.underlying22 ei27 (parts_cons rfl parts_nil) (.cons _ _ _ _ _ _ _ rfl rfl (Nat.le_of_ble_eq_true rfl) (.nil _)) rfl (by decide)) ?_
      refine ee (x := .s (.one (.ls 0 (s2.2 ++ ([(GR07Ver.mk u3.Ts u4.Val u5.Del)] : List GR07Ver)).length))) 0 rfl rfl rfl rfl rfl (fun ζ => ?_) ?_
      · refine sapp (f := eGR07Ver) (xs := s2.2) (us := ([(GR07Ver.mk u3.Ts u4.Val u5.Del)] : List GR07Ver)) rfl Try.underlying22 ei27 ni22 (fun _ => rfl) rfl rfl (.one _ _ _ _ (.id _ rfl)) rfl rfl rfl (.sl _ _ _ (flat_len (f := eGR07Ver) (fun _ => rfl) _)) rfl rfl hb6 (by decide) ?_
        exact eend
      refine enil ?_
      refine sv rfl (opv_as rfl) ?_
      refine snil0 ?_
      refine block_normal ?_
      refine then_normal ?_
      refine cregion ?_
      refine sv rfl (opv_mv rfl) ?_
      refine sv rfl (opv_add rfl rfl) ?_
      refine sv rfl (opv_as rfl) ?_
      refine snil ?_
      obtain rfl := Option.some.inj h
      exact ⟨(n2, ((wI (s2.1 + 1)), (s2.2 ++ ([(GR07Ver.mk u3.Ts u4.Val u5.Del)] : List GR07Ver)))), _, hk2, ⟨rfl, rfl, rfl, trivial⟩, rfl, Nat.lt_succ_self _⟩
    · replace h := ite_f hc h
      clear hc
      refine cexit ?_
      refine then_exit ?_
      refine then_exit ?_
      refine block_hit ?_
      refine then_normal ?_
      obtain rfl := Option.some.inj h
      obtain rfl : _ = x2 := hk2
      exact ⟨s2.2, _, ho2, ⟨rfl, trivial⟩, rfl⟩

def m33_r07_One (a0 : GR07Ver) (a1 : GR07Ver) : Option Bool :=
  if (decide (a0.Ts = a1.Ts)) then (if (a0.Del == a1.Del) then (some (a0.Val == a1.Val)) else (some false)) else (some false)

set_option maxRecDepth 100000 in
theorem m33_r07_One_c {a0 : GR07Ver} {a1 : GR07Ver} {r : Bool} (h : m33_r07_One a0 a1 = some r) : CallsA Try.prog 33 [.agg [.i .i64 a0.Ts, .sl a0.Val.length (a0.Val.flatMap eU8), .b a0.Del], .agg [.i .i64 a1.Ts, .sl a1.Val.length (a1.Val.flatMap eU8), .b a1.Del]] (· = .s (.one (.b r))) := by
  unfold m33_r07_One at h
  refine callsA_of Try.func33 rfl (nt := 26) rfl (Nat.le_of_ble_eq_true rfl) ?_
  intro w0 S0
  refine cseq ?_
  refine cregion ?_
  refine sbox rfl rfl ?_
  refine sbox rfl rfl ?_
  refine sv rfl (opv_as rfl) ?_
  refine snil ?_
  refine cseq ?_
  refine cregion ?_
  refine sv rfl (opv_fieldAddr_lp fi27_0 rfl) ?_
  refine sv rfl (opv_load1 ti3 rfl (.lp _ _ _ rfl) rfl) ?_
  refine sv rfl (opv_fieldAddr_lp fi27_0 rfl) ?_
  refine sv rfl (opv_load1 ti3 rfl (.lp _ _ _ rfl) rfl) ?_
  refine sv rfl (opv_ieql rfl rfl) ?_
  refine sv rfl (opv_mv rfl) ?_
  refine ssplit 10 rfl (fun hc => ?_) (fun hc => ?_)
  · replace h := ite_t hc h
    clear hc
    refine son rfl rfl rfl ?_
    refine sv rfl (opv_fieldAddr_lp fi27_2 rfl) ?_
    refine son rfl rfl rfl ?_
    refine sv rfl (opv_load1 ti4 rfl (.lp _ _ _ rfl) rfl) ?_
    refine son rfl rfl rfl ?_
    refine sv rfl (opv_fieldAddr_lp fi27_2 rfl) ?_
    refine son rfl rfl rfl ?_
    refine sv rfl (opv_load1 ti4 rfl (.lp _ _ _ rfl) rfl) ?_
    refine son rfl rfl rfl ?_
    refine sv rfl (opv_beql Try.underlying4 rfl rfl) ?_
    refine sv rfl (opv_pick_t rfl rfl) ?_
    refine sv rfl (opv_mv rfl) ?_
    refine ssplit 17 rfl (fun hc => ?_) (fun hc => ?_)
    · replace h := ite_t hc h
      clear hc
      refine son rfl rfl rfl ?_
      refine sv rfl (opv_fieldAddr_lp fi27_1 rfl) ?_
      refine son rfl rfl rfl ?_
      refine sv rfl (opv_load1 ti25 rfl (.lp _ _ _ rfl) rfl) ?_
      refine son rfl rfl rfl ?_
      refine sv rfl (opv_bs (l := a0.Val) Try.underlying25 Try.underlying5 Try.underlying9 rfl rfl rfl) ?_
      refine son rfl rfl rfl ?_
      refine sv rfl (opv_fieldAddr_lp fi27_1 rfl) ?_
      refine son rfl rfl rfl ?_
      refine sv rfl (opv_load1 ti25 rfl (.lp _ _ _ rfl) rfl) ?_
      refine son rfl rfl rfl ?_
      refine sv rfl (opv_bs (l := a1.Val) Try.underlying25 Try.underlying5 Try.underlying9 rfl rfl rfl) ?_
      refine son rfl rfl rfl ?_
      refine sv rfl (opv_seql' rfl rfl) ?_
      refine sv rfl (opv_pick_t rfl rfl) ?_
      refine sv rfl (opv_as rfl) ?_
      refine snil ?_
      refine cret ?_
      obtain rfl := Option.some.inj h
      refine ⟨Or.inr rfl, _, _, _, (resVs_cons (ResV.tmp _ _ rfl) resVs_nil), (pubA_id rfl), ?_⟩
      rfl
    · replace h := ite_f hc h
      clear hc
      refine soff rfl rfl rfl rfl ?_
      refine soff rfl rfl rfl rfl ?_
      refine soff rfl rfl rfl rfl ?_
      refine soff rfl rfl rfl rfl ?_
      refine soff rfl rfl rfl rfl ?_
      refine soff rfl rfl rfl rfl ?_
      refine soff rfl rfl rfl rfl ?_
      refine sv rfl (opv_pick_f rfl rfl) ?_
      refine sv rfl (opv_as rfl) ?_
      refine snil ?_
      refine cret ?_
      obtain rfl := Option.some.inj h
      refine ⟨Or.inr rfl, _, _, _, (resVs_cons (ResV.tmp _ _ rfl) resVs_nil), (pubA_id rfl), ?_⟩
      rfl
  · replace h := ite_f hc h
    clear hc
    refine soff rfl rfl rfl rfl ?_
    refine soff rfl rfl rfl rfl ?_
    refine soff rfl rfl rfl rfl ?_
    refine soff rfl rfl rfl rfl ?_
    refine soff rfl rfl rfl rfl ?_
    refine sv rfl (opv_pick_f rfl rfl) ?_
    refine sv rfl (opv_mv rfl) ?_
    refine soff rfl rfl rfl rfl ?_
    refine soff rfl rfl rfl rfl ?_
    refine soff rfl rfl rfl rfl ?_
    refine soff rfl rfl rfl rfl ?_
    refine soff rfl rfl rfl rfl ?_
    refine soff rfl rfl rfl rfl ?_
    refine soff rfl rfl rfl rfl ?_
    refine sv rfl (opv_pick_f rfl rfl) ?_
    refine sv rfl (opv_as rfl) ?_
    refine snil ?_
    refine cret ?_
    obtain rfl := Option.some.inj h
    refine ⟨Or.inr rfl, _, _, _, (resVs_cons (ResV.tmp _ _ rfl) resVs_nil), (pubA_id rfl), ?_⟩
    rfl

def m18_r07_Same_k1 (b1 : Unit) : Option Bool :=
  some true

def m18_r07_Same_s2 (a0 : List GR07Ver) (a1 : List GR07Ver) (s2 : Int) : Option (LR (Int) (Unit) (Bool)) :=
  if (decide (s2 < (a0.length : Int))) then ((idx a0 s2).bind fun u3 => (idx a1 s2).bind fun u4 => (m33_r07_One u3 u4).bind fun v5 => if (!v5) then (some (.ret false)) else (some (.cont (wI (s2 + 1))))) else (some (.brk ()))
def m18_r07_Same (a0 : List GR07Ver) (a1 : List GR07Ver) : Option Bool :=
  if (!decide ((a0.length : Int) = (a1.length : Int))) then (some false) else ((iter (m18_r07_Same_s2 a0 a1) fuel 0).bind fun x => match x with | .inl r => some r | .inr e6 => m18_r07_Same_k1 e6)

set_option maxRecDepth 100000 in
theorem m18_r07_Same_c {a0 : List GR07Ver} {a1 : List GR07Ver} {r : Bool} (h : m18_r07_Same a0 a1 = some r) : CallsA Try.prog 18 [.one (.sl a0.length (a0.flatMap eGR07Ver)), .one (.sl a1.length (a1.flatMap eGR07Ver))] (· = .s (.one (.b r))) := by
  unfold m18_r07_Same at h
  refine callsA_of Try.func18 rfl (nt := 27) rfl (Nat.le_of_ble_eq_true rfl) ?_
  intro w0 S0
  refine cseq ?_
  refine cregion ?_
  refine sv rfl (opv_as rfl) ?_
  refine snil ?_
  refine cseq ?_
  refine cseq ?_
  refine cregion ?_
  refine sv rfl (opv_mv rfl) ?_
  refine sv rfl (opv_len_sl si22 rfl) ?_
  refine sv rfl (opv_mv rfl) ?_
  refine sv rfl (opv_len_sl si22 rfl) ?_
  refine sv rfl (opv_ineq rfl rfl) ?_
  refine snil ?_
  refine ccond rfl (fun hc => ?_) (fun hc => ?_)
  · replace h := ite_t hc h
    clear hc
    refine cseq ?_
    refine cregion ?_
    refine sv rfl (opv_as rfl) ?_
    refine snil ?_
    refine cret ?_
    refine then_ret ?_
    obtain rfl := Option.some.inj h
    refine ⟨Or.inr rfl, _, _, _, (resVs_cons (ResV.tmp _ _ rfl) resVs_nil), (pubA_id rfl), ?_⟩
    rfl
  · replace h := ite_f hc h
    clear hc
    refine cskip ?_
    refine then_normal ?_
    refine cseq ?_
    refine cseq ?_
    refine cregion ?_
    refine sv rfl (opv_as rfl) ?_
    refine snil ?_
    refine cjoin (Unit) (fun b1 => []) (fun b1 => []) (fun b1 => m18_r07_Same_k1 b1 = some r) (fun _ _ => inbL_of rfl) (fun _ _ => blkinb_of rfl) (fun _ _ => Nat.le_of_ble_eq_true rfl) (fun b1 h => ?_) ?_
    · unfold m18_r07_Same_k1 at h
      refine cseq ?_
      refine cregion ?_
      refine sv rfl (opv_as rfl) ?_
      refine snil ?_
      refine cret ?_
      obtain rfl := Option.some.inj h
      refine ⟨Or.inr rfl, _, _, _, (resVs_cons (ResV.tmp _ _ rfl) resVs_nil), (pubA_id rfl), ?_⟩
      rfl
    · skip
      refine cblock ?_
      obtain ⟨x2, hx2, ho2⟩ := bind_eq h
      refine awc_loop (G := Nat × (Int)) (fun g => [(0, .s (.one (.sl a0.length (a0.flatMap eGR07Ver)))), (1, .s (.one (.sl a1.length (a1.flatMap eGR07Ver)))), (5, .s (.one (.i .i64 g.2)))]) (fun g => []) (fun g => iter (m18_r07_Same_s2 a0 a1) g.1 g.2 = some x2) (fun g => g.1) (fuel, 0) hx2 ⟨rfl, rfl, rfl, trivial⟩ [] rfl (fun _ _ => inbL_of rfl) (fun _ _ => blkinb_of rfl) (fun _ _ => Nat.le_of_ble_eq_true rfl) ?_
      clear hx2 h
      rintro ⟨n2, s2⟩ h
      obtain ⟨n2, y2, rfl, h, hk2⟩ := iter_eq h
      unfold m18_r07_Same_s2 at h
      refine cseq ?_
      refine cseq ?_
      refine cregion ?_
      refine sv rfl (opv_mv rfl) ?_
      refine sv rfl (opv_mv rfl) ?_
      refine sv rfl (opv_len_sl si22 rfl) ?_
      refine sv rfl (opv_lss rfl rfl) ?_
      refine snil ?_
      refine ccond rfl (fun hc => ?_) (fun hc => ?_)
      · replace h := ite_t hc h
        clear hc
        refine cskip ?_
        refine then_normal ?_
        refine cseq ?_
        refine cblock ?_
        refine cseq ?_
        refine cdraw mixed (by kernel_rfl) ?_
        refine dv rfl (opv_mv rfl) ?_
        refine dv rfl (opv_mv rfl) ?_
        obtain ⟨u3, hu3, h⟩ := bind_eq h
        refine dv rfl (opv_ix (f := eGR07Ver) si22 (fun _ => rfl) rfl rfl rfl rfl hu3) ?_
        refine dv rfl (opv_loadNe (ys := [.i .i64 u3.Ts, .sl u3.Val.length (u3.Val.flatMap eU8), .b u3.Del]) ti27 rfl (.cp _) rfl rfl) ?_
        refine dv rfl (opv_mv rfl) ?_
        refine dv rfl (opv_mv rfl) ?_
        obtain ⟨u4, hu4, h⟩ := bind_eq h
        refine dv rfl (opv_ix (f := eGR07Ver) si22 (fun _ => rfl) rfl rfl rfl rfl hu4) ?_
        refine dv rfl (opv_loadNe (ys := [.i .i64 u4.Ts, .sl u4.Val.length (u4.Val.flatMap eU8), .b u4.Del]) ti27 rfl (.cp _) rfl rfl) ?_
        obtain ⟨v5, hv5, h⟩ := bind_eq h
        refine dd rfl (opD_call fn33 (opnds_cons rfl (opnds_cons rfl opnds_nil)) rfl (m33_r07_One_c hv5)) ?_
        refine dv rfl (opv_not rfl) ?_
        refine dnil ?_
        refine then_normal ?_
        refine ccond rfl (fun hc => ?_) (fun hc => ?_)
        · replace h := ite_t hc h
          clear hc
          refine cseq ?_
          refine cregion ?_
          refine sv rfl (opv_as rfl) ?_
          refine snil ?_
          refine cret ?_
          refine block_ret ?_
          refine then_ret ?_
          refine then_ret ?_
          refine block_ret ?_
          refine then_ret ?_
          obtain rfl := Option.some.inj h
          obtain rfl : Sum.inl _ = x2 := hk2
          replace ho2 : some _ = some _ := ho2
          obtain rfl := Option.some.inj ho2
          refine ⟨Or.inr rfl, _, _, _, (resVs_cons (ResV.tmp _ _ rfl) resVs_nil), (pubA_id rfl), ?_⟩
          rfl
        · replace h := ite_f hc h
          clear hc
          refine cskip ?_
          refine block_normal ?_
          refine then_normal ?_
          refine cregion ?_
          refine sv rfl (opv_mv rfl) ?_
          refine sv rfl (opv_add rfl rfl) ?_
          refine sv rfl (opv_as rfl) ?_
          refine snil ?_
          obtain rfl := Option.some.inj h
          exact ⟨(n2, (wI (s2 + 1))), _, hk2, ⟨rfl, rfl, rfl, trivial⟩, rfl, Nat.lt_succ_self _⟩
      · replace h := ite_f hc h
        clear hc
        refine cexit ?_
        refine then_exit ?_
        refine then_exit ?_
        refine block_hit ?_
        refine then_normal ?_
        obtain rfl := Option.some.inj h
        obtain rfl : _ = x2 := hk2
        exact ⟨(), _, ho2, trivial, rfl⟩

def m35_slices_Cloneo (a0 : List GChainVer) : Option (List GChainVer) :=
  if (([] : List GChainVer).length + a0.length) * 40 ≤ 140737488355328 then (some (([] : List GChainVer) ++ a0)) else none

set_option maxRecDepth 100000 in
theorem m35_slices_Cloneo_c {a0 : List GChainVer} {r : (List GChainVer)} (h : m35_slices_Cloneo a0 = some r) : CallsB Try.prog 35 [] [.one (.sl a0.length (a0.flatMap eGChainVer))] (fun y m' => y = .s (.one (.ls 0 r.length)) ∧ m' = [.arr 34 3 0 (r.flatMap eGChainVer)]) := by
  unfold m35_slices_Cloneo at h
  refine callsB_of Try.func35 rfl (nt := 8) rfl (Nat.le_of_ble_eq_true rfl) ?_
  intro w0 S0 X0 H0
  refine cseq ?_
  refine cregion ?_
  refine sv rfl (opv_as rfl) ?_
  refine snil ?_
  refine cseq ?_
  refine cseq ?_
  refine cregion ?_
  refine sv rfl (opv_mv rfl) ?_
  refine snilq rfl Try.underlying30 rfl (fun nq hnq => ?_)
  cases nq
  · skip
    refine snil ?_
    refine ccond rfl (fun hx => Bool.noConfusion hx) (fun _ => ?_)
    refine cskip ?_
    refine then_normal ?_
    refine cseq ?_
    refine cregion ?_
    refine sbuild0 rfl Try.underlying30 ei34 ?_
    refine sv rfl (opv_mv rfl) ?_
    obtain ⟨hb1, h⟩ := chk_eq h
    refine sapp (f := eGChainVer) (xs := ([] : List GChainVer)) (us := a0) rfl Try.underlying30 ei34 ni30 (fun _ => rfl) rfl rfl (.one _ _ _ _ (.id _ rfl)) rfl rfl rfl (.sl _ _ _ (flat_len (f := eGChainVer) (fun _ => rfl) _)) rfl rfl hb1 (by decide) ?_
    refine sv rfl (opv_as rfl) ?_
    refine snil ?_
    refine cret ?_
    obtain rfl := Option.some.inj h
    exact ⟨Or.inr rfl, _, [0], [.one (.ls 0 (([] : List GChainVer) ++ a0).length)], [.arr 34 3 0 ((([] : List GChainVer) ++ a0).flatMap eGChainVer)], (resVs_cons (ResV.tmp _ _ rfl) resVs_nil), rfl, rfl, ⟨by decide, rfl⟩, rfl, rfl, ⟨rfl, rfl⟩⟩
  · obtain rfl := List.eq_nil_of_length_eq_zero (hnq rfl)
    replace h : (some ([] : List GChainVer)) = some r := by first | exact h | (rw [if_pos (by decide)] at h; exact h)
    refine snil ?_
    refine ccond rfl (fun _ => ?_) (fun hx => Bool.noConfusion hx)
    refine cseq ?_
    refine cregion ?_
    refine sv rfl (opv_as rfl) ?_
    refine snil ?_
    refine sadopt_c 34 3 2 (by decide) rfl ?_
    refine cret ?_
    refine then_ret ?_
    obtain rfl := Option.some.inj h
    exact ⟨Or.inr rfl, _, [0], [.one (.ls 0 ([] : List GChainVer).length)], [.arr 34 3 0 (([] : List GChainVer).flatMap eGChainVer)], (resVs_cons (ResV.tmp _ _ rfl) resVs_nil), rfl, rfl, ⟨by decide, rfl⟩, rfl, rfl, ⟨rfl, rfl⟩⟩

def m24_chain_Vacuum_k4 (a0 : GChainChain) (b4 : Int) : Option GChainChain :=
  (cut a0.L b4 (a0.L.length : Int)).bind fun c5 => (m35_slices_Cloneo c5).bind fun v6 => some (GChainChain.mk v6)

def m24_chain_Vacuum_k2 (a0 : GChainChain) (v1 : Int) (b2 : Unit) : Option GChainChain :=
  (idx a0.L v1).bind fun u3 => if u3.Del then (m24_chain_Vacuum_k4 a0 (wI (v1 + 1))) else (m24_chain_Vacuum_k4 a0 v1)
def m24_chain_Vacuum (a0 : GChainChain) (a1 : Int) : Option GChainChain :=
  (m29_chain_seen a0 a1).bind fun v1 => if (decide (v1 < 0)) then (some (GChainChain.mk a0.L)) else ((m20_chain_Sane (GChainChain.mk a0.L)).bind fun v7 => if (!v7) then (some (GChainChain.mk a0.L)) else (m24_chain_Vacuum_k2 a0 v1 ()))

set_option maxRecDepth 100000 in
theorem m24_chain_Vacuum_c {a0 : GChainChain} {a1 : Int} {r : GChainChain} (h : m24_chain_Vacuum a0 a1 = some r) : CallsA Try.prog 24 [.agg [.sl a0.L.length (a0.L.flatMap eGChainVer)], .one (.i .i64 a1)] (· = .s (.agg [.sl r.L.length (r.L.flatMap eGChainVer)])) := by
  unfold m24_chain_Vacuum at h
  refine callsA_of Try.func24 rfl (nt := 31) rfl (Nat.le_of_ble_eq_true rfl) ?_
  intro w0 S0
  refine cseq ?_
  refine cregion ?_
  refine sbox rfl rfl ?_
  refine salloc rfl zi32 ?_
  refine snil ?_
  refine cseq ?_
  refine cregion ?_
  refine sv rfl (opv_loadN ti32 rfl (.lp _ _ _ rfl) (Nat.le_of_ble_eq_true rfl)) ?_
  refine sv rfl (opv_mv rfl) ?_
  obtain ⟨v1, hv1, h⟩ := bind_eq h
  refine scall1 rfl fn29 (opnds_cons rfl (opnds_cons rfl opnds_nil)) (pubA_id rfl) (m29_chain_seen_c hv1) ?_
  refine sv rfl (opv_as rfl) ?_
  refine snil ?_
  refine cseq ?_
  refine cseq ?_
  refine cjoin3 (Unit) (fun b2 => [(2, .s (.one (.lp 0 0))), (4, .s (.one (.lp 1 0))), (5, .s (.one (.i .i64 v1)))]) (fun b2 => [.box [.sl a0.L.length (a0.L.flatMap eGChainVer)], .box [.raw (.slice none 0 0)]]) (fun b2 => m24_chain_Vacuum_k2 a0 v1 b2 = some r) (fun _ _ => inbL_of rfl) (fun _ _ => blkinb_of rfl) (fun _ _ => Nat.le_of_ble_eq_true rfl) (fun b2 h => ?_) ?_
  · unfold m24_chain_Vacuum_k2 at h
    refine cseq ?_
    refine cseq ?_
    refine cregion ?_
    refine sv rfl (opv_fieldAddr_lp fi32_0 rfl) ?_
    refine sv rfl (opv_load1 ti30 rfl (.lp _ _ _ rfl) rfl) ?_
    refine sv rfl (opv_mv rfl) ?_
    obtain ⟨u3, hu3, h⟩ := bind_eq h
    refine sv rfl (opv_ix (f := eGChainVer) si30 (fun _ => rfl) rfl rfl rfl rfl hu3) ?_
    refine sv rfl (opv_fieldAddr_cp fi34_2 rfl) ?_
    refine sv rfl (opv_load1 ti4 rfl (.cp _) rfl) ?_
    refine snil ?_
    refine cjoin (Int) (fun b4 => [(2, .s (.one (.lp 0 0))), (4, .s (.one (.lp 1 0))), (5, .s (.one (.i .i64 b4)))]) (fun b4 => [.box [.sl a0.L.length (a0.L.flatMap eGChainVer)], .box [.raw (.slice none 0 0)]]) (fun b4 => m24_chain_Vacuum_k4 a0 b4 = some r) (fun _ _ => inbL_of rfl) (fun _ _ => blkinb_of rfl) (fun _ _ => Nat.le_of_ble_eq_true rfl) (fun b4 h => ?_) ?_
    · unfold m24_chain_Vacuum_k4 at h
      refine cseq ?_
      refine cregion ?_
      refine sv rfl (opv_fieldAddr_lp fi32_0 rfl) ?_
      refine sv rfl (opv_load1 ti30 rfl (.lp _ _ _ rfl) rfl) ?_
      refine sv rfl (opv_mv rfl) ?_
      obtain ⟨c5, hc5, h⟩ := bind_eq h
      refine sv rfl (opv_cut (f := eGChainVer) (lo := b4) (hi := (a0.L.length : Int)) si30 (fun _ => rfl) rfl rfl rfl (bound_some rfl (cut_eq hc5).1.1) (by exact rfl) hc5) ?_
      obtain ⟨v6, hv6, h⟩ := bind_eq h
      refine scallB (x' := .s (.one (.ls 2 v6.length))) (M' := [.box [.sl a0.L.length (a0.L.flatMap eGChainVer)], .box [.raw (.slice none 0 0)], .arr 34 3 0 (v6.flatMap eGChainVer)]) [] rfl fn35 (.func _) (opnds_cons rfl opnds_nil) (m35_slices_Cloneo_c hv6) rfl rfl (by decide) rfl rfl rfl ?_
      refine sv rfl (opv_build zi32 pi32 (parts_cons rfl parts_nil) (.cons _ _ _ _ _ _ _ rfl rfl (Nat.le_of_ble_eq_true rfl) (.nil _))) ?_
      refine sstore sz32 rfl rfl rfl rfl (Nat.le_of_ble_eq_true rfl) ?_
      refine smem [.box [.sl a0.L.length (a0.L.flatMap eGChainVer)], .box [.ls 2 v6.length], .arr 34 3 0 (v6.flatMap eGChainVer)] rfl ?_
      refine snil ?_
      refine cret ?_
      obtain rfl := Option.some.inj h
      refine ⟨Or.inr rfl, _, _, _, (resVs_cons (ResV.agg _ _ _ _ _ ti32 rfl (.lp _ _ _ rfl) (Nat.le_of_ble_eq_true rfl)) resVs_nil), (by (repeat' first | exact PubA.nil _ | apply PubA.cons | apply PubV.one | apply PubV.agg | exact PubL.nil | exact PubL.ls _ _ _ _ _ _ rfl (flat_len (f := eGChainVer) (fun _ => rfl) _).symm | exact PubL.id _ rfl | exact PubLs.nil _ | apply PubLs.cons)), ?_⟩
      rfl
    · skip
      refine ccond rfl (fun hc => ?_) (fun hc => ?_)
      · replace h := ite_t hc h
        clear hc
        refine cregion ?_
        refine sv rfl (opv_mv rfl) ?_
        refine sv rfl (opv_add rfl rfl) ?_
        refine sv rfl (opv_as rfl) ?_
        refine snil ?_
        exact ⟨(wI (v1 + 1)), _, h, ⟨rfl, rfl, rfl, trivial⟩, rfl⟩
      · replace h := ite_f hc h
        clear hc
        refine cskip ?_
        refine then_normal ?_
        exact ⟨v1, _, h, ⟨rfl, rfl, rfl, trivial⟩, rfl⟩
  · skip
    refine cregion ?_
    refine sv rfl (opv_mv rfl) ?_
    refine sv rfl (opv_lss rfl rfl) ?_
    refine sv rfl (opv_mv rfl) ?_
    refine ssplit 11 rfl (fun hc => ?_) (fun hc => ?_)
    · replace h := ite_t hc h
      clear hc
      refine soff rfl rfl rfl rfl ?_
      refine soff rfl rfl rfl rfl ?_
      refine soff rfl rfl rfl rfl ?_
      refine sv rfl (opv_pick_t rfl rfl) ?_
      refine snil ?_
      refine ccond rfl (fun _ => ?_) (fun hx => Bool.noConfusion hx)
      refine cseq ?_
      refine cregion ?_
      refine sv rfl (opv_loadN ti32 rfl (.lp _ _ _ rfl) (Nat.le_of_ble_eq_true rfl)) ?_
      refine sstore sz32 rfl rfl rfl rfl (Nat.le_of_ble_eq_true rfl) ?_
      refine smem [.box [.sl a0.L.length (a0.L.flatMap eGChainVer)], .box [.sl a0.L.length (a0.L.flatMap eGChainVer)]] rfl ?_
      refine snil ?_
      refine cret ?_
      refine then_ret ?_
      obtain rfl := Option.some.inj h
      refine ⟨Or.inr rfl, _, _, _, (resVs_cons (ResV.agg _ _ _ _ _ ti32 rfl (.lp _ _ _ rfl) (Nat.le_of_ble_eq_true rfl)) resVs_nil), (pubA_id rfl), ?_⟩
      rfl
    · replace h := ite_f hc h
      clear hc
      refine son rfl rfl rfl ?_
      refine sv rfl (opv_loadN ti32 rfl (.lp _ _ _ rfl) (Nat.le_of_ble_eq_true rfl)) ?_
      refine son rfl rfl rfl ?_
      obtain ⟨v7, hv7, h⟩ := bind_eq h
      refine scall1 rfl fn20 (opnds_cons rfl opnds_nil) (pubA_id rfl) (m20_chain_Sane_c hv7) ?_
      refine son rfl rfl rfl ?_
      refine sv rfl (opv_not rfl) ?_
      refine sv rfl (opv_pick_f rfl rfl) ?_
      refine snil ?_
      refine ccond rfl (fun hc => ?_) (fun hc => ?_)
      · replace h := ite_t hc h
        clear hc
        refine cseq ?_
        refine cregion ?_
        refine sv rfl (opv_loadN ti32 rfl (.lp _ _ _ rfl) (Nat.le_of_ble_eq_true rfl)) ?_
        refine sstore sz32 rfl rfl rfl rfl (Nat.le_of_ble_eq_true rfl) ?_
        refine smem [.box [.sl a0.L.length (a0.L.flatMap eGChainVer)], .box [.sl a0.L.length (a0.L.flatMap eGChainVer)]] rfl ?_
        refine snil ?_
        refine cret ?_
        refine then_ret ?_
        obtain rfl := Option.some.inj h
        refine ⟨Or.inr rfl, _, _, _, (resVs_cons (ResV.agg _ _ _ _ _ ti32 rfl (.lp _ _ _ rfl) (Nat.le_of_ble_eq_true rfl)) resVs_nil), (pubA_id rfl), ?_⟩
        rfl
      · replace h := ite_f hc h
        clear hc
        refine cskip ?_
        refine then_normal ?_
        exact ⟨(), _, h, ⟨rfl, rfl, rfl, trivial⟩, rfl⟩

def m25_r07_Vacuum_k4 (a0 : GR07Chain) (b4 : Int) : Option GR07Chain :=
  (cut a0.L b4 (a0.L.length : Int)).bind fun c5 => some (GR07Chain.mk c5)

def m25_r07_Vacuum_k2 (a0 : GR07Chain) (v1 : Int) (b2 : Unit) : Option GR07Chain :=
  (idx a0.L v1).bind fun u3 => if u3.Del then (m25_r07_Vacuum_k4 a0 (wI (v1 + 1))) else (m25_r07_Vacuum_k4 a0 v1)
def m25_r07_Vacuum (a0 : GR07Chain) (a1 : Int) : Option GR07Chain :=
  (m30_r07_place a0 a1).bind fun v1 => (m21_r07_Sane a0).bind fun v6 => if (!v6) then (some a0) else (if (decide (v1 < 0)) then (some a0) else (m25_r07_Vacuum_k2 a0 v1 ()))

set_option maxRecDepth 100000 in
theorem m25_r07_Vacuum_c {a0 : GR07Chain} {a1 : Int} {r : GR07Chain} (h : m25_r07_Vacuum a0 a1 = some r) : CallsA Try.prog 25 [.agg [.sl a0.L.length (a0.L.flatMap eGR07Ver)], .one (.i .i64 a1)] (· = .s (.agg [.sl r.L.length (r.L.flatMap eGR07Ver)])) := by
  unfold m25_r07_Vacuum at h
  refine callsA_of Try.func25 rfl (nt := 30) rfl (Nat.le_of_ble_eq_true rfl) ?_
  intro w0 S0
  refine cseq ?_
  refine cregion ?_
  refine sbox rfl rfl ?_
  refine salloc rfl zi24 ?_
  refine snil ?_
  refine cseq ?_
  refine cregion ?_
  refine sv rfl (opv_loadN ti24 rfl (.lp _ _ _ rfl) (Nat.le_of_ble_eq_true rfl)) ?_
  refine sv rfl (opv_mv rfl) ?_
  obtain ⟨v1, hv1, h⟩ := bind_eq h
  refine scall1 rfl fn30 (opnds_cons rfl (opnds_cons rfl opnds_nil)) (pubA_id rfl) (m30_r07_place_c hv1) ?_
  refine sv rfl (opv_as rfl) ?_
  refine snil ?_
  refine cseq ?_
  refine cseq ?_
  refine cjoin3 (Unit) (fun b2 => [(2, .s (.one (.lp 0 0))), (4, .s (.one (.lp 1 0))), (5, .s (.one (.i .i64 v1)))]) (fun b2 => [.box [.sl a0.L.length (a0.L.flatMap eGR07Ver)], .box [.raw (.slice none 0 0)]]) (fun b2 => m25_r07_Vacuum_k2 a0 v1 b2 = some r) (fun _ _ => inbL_of rfl) (fun _ _ => blkinb_of rfl) (fun _ _ => Nat.le_of_ble_eq_true rfl) (fun b2 h => ?_) ?_
  · unfold m25_r07_Vacuum_k2 at h
    refine cseq ?_
    refine cseq ?_
    refine cregion ?_
    refine sv rfl (opv_fieldAddr_lp fi24_0 rfl) ?_
    refine sv rfl (opv_load1 ti22 rfl (.lp _ _ _ rfl) rfl) ?_
    refine sv rfl (opv_mv rfl) ?_
    obtain ⟨u3, hu3, h⟩ := bind_eq h
    refine sv rfl (opv_ix (f := eGR07Ver) si22 (fun _ => rfl) rfl rfl rfl rfl hu3) ?_
    refine sv rfl (opv_fieldAddr_cp fi27_2 rfl) ?_
    refine sv rfl (opv_load1 ti4 rfl (.cp _) rfl) ?_
    refine snil ?_
    refine cjoin (Int) (fun b4 => [(2, .s (.one (.lp 0 0))), (4, .s (.one (.lp 1 0))), (5, .s (.one (.i .i64 b4)))]) (fun b4 => [.box [.sl a0.L.length (a0.L.flatMap eGR07Ver)], .box [.raw (.slice none 0 0)]]) (fun b4 => m25_r07_Vacuum_k4 a0 b4 = some r) (fun _ _ => inbL_of rfl) (fun _ _ => blkinb_of rfl) (fun _ _ => Nat.le_of_ble_eq_true rfl) (fun b4 h => ?_) ?_
    · unfold m25_r07_Vacuum_k4 at h
      refine cseq ?_
      refine cregion ?_
      refine sv rfl (opv_fieldAddr_lp fi24_0 rfl) ?_
      refine sv rfl (opv_load1 ti22 rfl (.lp _ _ _ rfl) rfl) ?_
      refine sv rfl (opv_mv rfl) ?_
      obtain ⟨c5, hc5, h⟩ := bind_eq h
      refine sv rfl (opv_cut (f := eGR07Ver) (lo := b4) (hi := (a0.L.length : Int)) si22 (fun _ => rfl) rfl rfl rfl (bound_some rfl (cut_eq hc5).1.1) (by exact rfl) hc5) ?_
      refine sv rfl (opv_build zi24 pi24 (parts_cons rfl parts_nil) (.cons _ _ _ _ _ _ _ rfl rfl (Nat.le_of_ble_eq_true rfl) (.nil _))) ?_
      refine sstore sz24 rfl rfl rfl rfl (Nat.le_of_ble_eq_true rfl) ?_
      refine smem [.box [.sl a0.L.length (a0.L.flatMap eGR07Ver)], .box [.sl c5.length (c5.flatMap eGR07Ver)]] rfl ?_
      refine snil ?_
      refine cret ?_
      obtain rfl := Option.some.inj h
      refine ⟨Or.inr rfl, _, _, _, (resVs_cons (ResV.agg _ _ _ _ _ ti24 rfl (.lp _ _ _ rfl) (Nat.le_of_ble_eq_true rfl)) resVs_nil), (pubA_id rfl), ?_⟩
      rfl
    · skip
      refine ccond rfl (fun hc => ?_) (fun hc => ?_)
      · replace h := ite_t hc h
        clear hc
        refine cregion ?_
        refine sv rfl (opv_mv rfl) ?_
        refine sv rfl (opv_add rfl rfl) ?_
        refine sv rfl (opv_as rfl) ?_
        refine snil ?_
        exact ⟨(wI (v1 + 1)), _, h, ⟨rfl, rfl, rfl, trivial⟩, rfl⟩
      · replace h := ite_f hc h
        clear hc
        refine cskip ?_
        refine then_normal ?_
        exact ⟨v1, _, h, ⟨rfl, rfl, rfl, trivial⟩, rfl⟩
  · skip
    refine cregion ?_
    refine sv rfl (opv_loadN ti24 rfl (.lp _ _ _ rfl) (Nat.le_of_ble_eq_true rfl)) ?_
    obtain ⟨v6, hv6, h⟩ := bind_eq h
    refine scall1 rfl fn21 (opnds_cons rfl opnds_nil) (pubA_id rfl) (m21_r07_Sane_c hv6) ?_
    refine sv rfl (opv_not rfl) ?_
    refine sv rfl (opv_mv rfl) ?_
    refine ssplit 12 rfl (fun hc => ?_) (fun hc => ?_)
    · replace h := ite_t hc h
      clear hc
      refine soff rfl rfl rfl rfl ?_
      refine soff rfl rfl rfl rfl ?_
      refine sv rfl (opv_pick_t rfl rfl) ?_
      refine snil ?_
      refine ccond rfl (fun _ => ?_) (fun hx => Bool.noConfusion hx)
      refine cseq ?_
      refine cregion ?_
      refine sv rfl (opv_loadN ti24 rfl (.lp _ _ _ rfl) (Nat.le_of_ble_eq_true rfl)) ?_
      refine sstore sz24 rfl rfl rfl rfl (Nat.le_of_ble_eq_true rfl) ?_
      refine smem [.box [.sl a0.L.length (a0.L.flatMap eGR07Ver)], .box [.sl a0.L.length (a0.L.flatMap eGR07Ver)]] rfl ?_
      refine snil ?_
      refine cret ?_
      refine then_ret ?_
      obtain rfl := Option.some.inj h
      refine ⟨Or.inr rfl, _, _, _, (resVs_cons (ResV.agg _ _ _ _ _ ti24 rfl (.lp _ _ _ rfl) (Nat.le_of_ble_eq_true rfl)) resVs_nil), (pubA_id rfl), ?_⟩
      rfl
    · replace h := ite_f hc h
      clear hc
      refine son rfl rfl rfl ?_
      refine sv rfl (opv_mv rfl) ?_
      refine son rfl rfl rfl ?_
      refine sv rfl (opv_lss rfl rfl) ?_
      refine sv rfl (opv_pick_f rfl rfl) ?_
      refine snil ?_
      refine ccond rfl (fun hc => ?_) (fun hc => ?_)
      · replace h := ite_t hc h
        clear hc
        refine cseq ?_
        refine cregion ?_
        refine sv rfl (opv_loadN ti24 rfl (.lp _ _ _ rfl) (Nat.le_of_ble_eq_true rfl)) ?_
        refine sstore sz24 rfl rfl rfl rfl (Nat.le_of_ble_eq_true rfl) ?_
        refine smem [.box [.sl a0.L.length (a0.L.flatMap eGR07Ver)], .box [.sl a0.L.length (a0.L.flatMap eGR07Ver)]] rfl ?_
        refine snil ?_
        refine cret ?_
        refine then_ret ?_
        obtain rfl := Option.some.inj h
        refine ⟨Or.inr rfl, _, _, _, (resVs_cons (ResV.agg _ _ _ _ _ ti24 rfl (.lp _ _ _ rfl) (Nat.le_of_ble_eq_true rfl)) resVs_nil), (pubA_id rfl), ?_⟩
        rfl
      · replace h := ite_f hc h
        clear hc
        refine cskip ?_
        refine then_normal ?_
        exact ⟨(), _, h, ⟨rfl, rfl, rfl, trivial⟩, rfl⟩

def m36_bytes_Cloneo (a0 : List UInt8) : Option (List UInt8) :=
  if (([] : List UInt8).length + a0.length) * 1 ≤ 140737488355328 then (some (([] : List UInt8) ++ a0)) else none

set_option maxRecDepth 100000 in
theorem m36_bytes_Cloneo_c {a0 : List UInt8} {r : (List UInt8)} (h : m36_bytes_Cloneo a0 = some r) : CallsB Try.prog 36 [] [.one (.sl a0.length (a0.flatMap eU8))] (fun y m' => y = .s (.one (.ls 0 r.length)) ∧ m' = [.arr 5 1 0 (r.flatMap eU8)]) := by
  unfold m36_bytes_Cloneo at h
  refine callsB_of Try.func36 rfl (nt := 8) rfl (Nat.le_of_ble_eq_true rfl) ?_
  intro w0 S0 X0 H0
  refine cseq ?_
  refine cregion ?_
  refine sv rfl (opv_as rfl) ?_
  refine snil ?_
  refine cseq ?_
  refine cseq ?_
  refine cregion ?_
  refine sv rfl (opv_mv rfl) ?_
  refine snilq rfl Try.underlying25 rfl (fun nq hnq => ?_)
  cases nq
  · skip
    refine snil ?_
    refine ccond rfl (fun hx => Bool.noConfusion hx) (fun _ => ?_)
    refine cskip ?_
    refine then_normal ?_
    refine cseq ?_
    refine cregion ?_
    refine sbuild0 rfl Try.underlying25 ei5 ?_
    refine sv rfl (opv_mv rfl) ?_
    obtain ⟨hb1, h⟩ := chk_eq h
    refine sapp (f := eU8) (xs := ([] : List UInt8)) (us := a0) rfl Try.underlying25 ei5 ni25 (fun _ => rfl) rfl rfl (.one _ _ _ _ (.id _ rfl)) rfl rfl rfl (.sl _ _ _ (flat_len (f := eU8) (fun _ => rfl) _)) rfl rfl hb1 (by decide) ?_
    refine sv rfl (opv_as rfl) ?_
    refine snil ?_
    refine cret ?_
    obtain rfl := Option.some.inj h
    exact ⟨Or.inr rfl, _, [0], [.one (.ls 0 (([] : List UInt8) ++ a0).length)], [.arr 5 1 0 ((([] : List UInt8) ++ a0).flatMap eU8)], (resVs_cons (ResV.tmp _ _ rfl) resVs_nil), rfl, rfl, ⟨by decide, rfl⟩, rfl, rfl, ⟨rfl, rfl⟩⟩
  · obtain rfl := List.eq_nil_of_length_eq_zero (hnq rfl)
    replace h : (some ([] : List UInt8)) = some r := by first | exact h | (rw [if_pos (by decide)] at h; exact h)
    refine snil ?_
    refine ccond rfl (fun _ => ?_) (fun hx => Bool.noConfusion hx)
    refine cseq ?_
    refine cregion ?_
    refine sv rfl (opv_as rfl) ?_
    refine snil ?_
    refine sadopt_c 5 1 2 (by decide) rfl ?_
    refine cret ?_
    refine then_ret ?_
    obtain rfl := Option.some.inj h
    exact ⟨Or.inr rfl, _, [0], [.one (.ls 0 ([] : List UInt8).length)], [.arr 5 1 0 (([] : List UInt8).flatMap eU8)], (resVs_cons (ResV.tmp _ _ rfl) resVs_nil), rfl, rfl, ⟨by decide, rfl⟩, rfl, rfl, ⟨rfl, rfl⟩⟩

def m37_slices_Reverses_s1 (s1 : Int × Int × (List GChainVer)) : Option (LR (Int × Int × (List GChainVer)) (Unit) ((List GChainVer))) :=
  if (decide (s1.1 < s1.2.1)) then ((idx s1.2.2 s1.2.1).bind fun u2 => (idx s1.2.2 s1.1).bind fun u3 => (idx s1.2.2 s1.1).bind fun u4 => (idx (s1.2.2.set s1.1.toNat u2) s1.2.1).bind fun u5 => some (.cont ((wI (s1.1 + 1)), (wI (s1.2.1 - 1)), ((s1.2.2.set s1.1.toNat u2).set s1.2.1.toNat u3)))) else (some (.ret s1.2.2))
def m37_slices_Reverses (a0 : List GChainVer) : Option (List GChainVer) :=
  (iter m37_slices_Reverses_s1 fuel (0, (wI ((a0.length : Int) - 1)), a0)).bind fun x => match x with | .inl r => some r | .inr _ => none

set_option maxRecDepth 100000 in
theorem m37_slices_Reverses_c {a0 : List GChainVer} {r : (List GChainVer)} (h : m37_slices_Reverses a0 = some r) : CallsB Try.prog 37 [.arr 34 3 0 (a0.flatMap eGChainVer)] [.one (.ls 0 a0.length)] (fun y m' => y = .tup [] ∧ m' = [.arr 34 3 0 (r.flatMap eGChainVer)]) := by
  unfold m37_slices_Reverses at h
  refine callsB_of Try.func37 rfl (nt := 28) rfl (Nat.le_of_ble_eq_true rfl) ?_
  intro w0 S0 X0 H0
  refine cseq ?_
  refine cregion ?_
  refine sv rfl (opv_mv rfl) ?_
  refine sv rfl (opv_len_ls si30 rfl rfl (flat_len (f := eGChainVer) (fun _ => rfl) _).symm) ?_
  refine sv rfl (opv_sub rfl rfl) ?_
  refine sv rfl (opv_as rfl) ?_
  refine sv rfl (opv_as rfl) ?_
  refine snil ?_
  refine cblock ?_
  obtain ⟨x1, hx1, ho1⟩ := bind_eq h
  refine awc_loop (G := Nat × (Int × Int × (List GChainVer))) (fun g => [(0, .s (.one (.ls 0 g.2.2.2.length))), (2, .s (.one (.i .i64 g.2.1))), (3, .s (.one (.i .i64 g.2.2.1)))]) (fun g => [.arr 34 3 0 (g.2.2.2.flatMap eGChainVer)]) (fun g => iter m37_slices_Reverses_s1 g.1 g.2 = some x1) (fun g => g.1) (fuel, (0, (wI ((a0.length : Int) - 1)), a0)) hx1 ⟨rfl, rfl, rfl, trivial⟩ [] rfl (fun _ _ => inbL_of rfl) (fun _ _ => blkinb_of rfl) (fun _ _ => Nat.le_of_ble_eq_true rfl) ?_
  clear hx1 h
  rintro ⟨n1, s1⟩ h
  obtain ⟨n1, y1, rfl, h, hk1⟩ := iter_eq h
  unfold m37_slices_Reverses_s1 at h
  refine cseq ?_
  refine cseq ?_
  refine cregion ?_
  refine sv rfl (opv_mv rfl) ?_
  refine sv rfl (opv_mv rfl) ?_
  refine sv rfl (opv_lss rfl rfl) ?_
  refine snil ?_
  refine ccond rfl (fun hc => ?_) (fun hc => ?_)
  · replace h := ite_t hc h
    clear hc
    refine cskip ?_
    refine then_normal ?_
    refine cseq ?_
    refine cblock ?_
    obtain ⟨u2, hu2, h⟩ := bind_eq h
    obtain ⟨u3, hu3, h⟩ := bind_eq h
    obtain ⟨u4, hu4, h⟩ := bind_eq h
    obtain ⟨u5, hu5, h⟩ := bind_eq h
    refine cdraw_e [13, 15] [0, 0, 0, 0, 0, 0, 48, 112, 0, 0, 768, 1792, 4083, 8179, 16383, 32767] [[.arr 34 3 0 (s1.2.2.flatMap eGChainVer)], [.arr 34 3 0 ((s1.2.2.set s1.1.toNat u2).flatMap eGChainVer)], [.arr 34 3 0 (((s1.2.2.set s1.1.toNat u2).set s1.2.1.toNat u3).flatMap eGChainVer)]] (by kernel_rfl) mixed (by kernel_rfl) (by decide) rfl rfl rfl rfl ?_
    refine ev (sees_at 0 rfl rfl) rfl rfl (opv_mv rfl) ?_
    refine ev (sees_at 0 rfl rfl) rfl rfl (opv_mv rfl) ?_
    refine emv rfl rfl (fun _ => opv_mv rfl) ?_
    refine emv rfl rfl (fun _ => opv_mv rfl) ?_
    refine ev (sees_at 0 rfl rfl) rfl rfl (opv_mv rfl) ?_
    refine ev (sees_at 0 rfl rfl) rfl rfl (opv_mv rfl) ?_
    refine ev (sees_at 0 rfl rfl) rfl rfl (opv_ixo (f := eGChainVer) si30 (fun _ => rfl) rfl rfl rfl (by first | rfl | exact List.length_set.symm) rfl hu2) ?_
    refine ev (sees_at 0 rfl rfl) rfl rfl (opv_ldNo (f := eGChainVer) (sz := 3) 0 ti34 (fun _ => rfl) rfl rfl rfl rfl (idx_eq hu2).2 (Nat.le_of_ble_eq_true rfl) rfl) ?_
    refine ev (sees_at 0 rfl rfl) rfl rfl (opv_mv rfl) ?_
    refine ev (sees_at 0 rfl rfl) rfl rfl (opv_mv rfl) ?_
    refine ev (sees_at 0 rfl rfl) rfl rfl (opv_ixo (f := eGChainVer) si30 (fun _ => rfl) rfl rfl rfl (by first | rfl | exact List.length_set.symm) rfl hu3) ?_
    refine ev (sees_at 0 rfl rfl) rfl rfl (opv_ldNo (f := eGChainVer) (sz := 3) 0 ti34 (fun _ => rfl) rfl rfl rfl rfl (idx_eq hu3).2 (Nat.le_of_ble_eq_true rfl) rfl) ?_
    refine ev (sees_at 0 rfl rfl) rfl rfl (opv_ixo (f := eGChainVer) si30 (fun _ => rfl) rfl rfl rfl (by first | rfl | exact List.length_set.symm) rfl hu4) ?_
    refine ee0 0 rfl rfl rfl rfl (fun ζ => ?_) ?_
    · refine sseto (f := eGChainVer) (u' := u2) (sz := 3) 0 sz34 (fun _ => rfl) rfl rfl rfl rfl (by first | rfl | exact List.length_set.symm) rfl rfl (List.all_eq_true.1 rfl) (idx_eq hu4).2 (Nat.le_of_ble_eq_true rfl) rfl ?_
      exact eend
    refine ev (sees_at 1 rfl rfl) rfl rfl (opv_ixo (f := eGChainVer) si30 (fun _ => rfl) rfl rfl rfl (by first | rfl | exact List.length_set.symm) rfl hu5) ?_
    refine ee0 1 rfl rfl rfl rfl (fun ζ => ?_) ?_
    · refine sseto (f := eGChainVer) (u' := u3) (sz := 3) 0 sz34 (fun _ => rfl) rfl rfl rfl rfl (by first | rfl | exact List.length_set.symm) rfl rfl (List.all_eq_true.1 rfl) (idx_eq hu5).2 (Nat.le_of_ble_eq_true rfl) rfl ?_
      exact eend
    refine enil ?_
    refine block_normal ?_
    refine then_normal ?_
    refine stell_c 0 (y := .s (.one (.ls 0 s1.2.2.length))) (.s (.one (.ls 0 (s1.2.2.set s1.1.toNat u2).length))) rfl (congrArg (fun n => AV.s (.one (.ls 0 n))) List.length_set.symm) ?_
    refine stell_c 14 (y := .s (.one (.ls 0 s1.2.2.length))) (.s (.one (.ls 0 (s1.2.2.set s1.1.toNat u2).length))) rfl (congrArg (fun n => AV.s (.one (.ls 0 n))) List.length_set.symm) ?_
    refine stell_c 16 (y := .s (.one (.ls 0 s1.2.2.length))) (.s (.one (.ls 0 (s1.2.2.set s1.1.toNat u2).length))) rfl (congrArg (fun n => AV.s (.one (.ls 0 n))) List.length_set.symm) ?_
    refine stell_c 18 (y := .s (.one (.ls 0 s1.2.2.length))) (.s (.one (.ls 0 (s1.2.2.set s1.1.toNat u2).length))) rfl (congrArg (fun n => AV.s (.one (.ls 0 n))) List.length_set.symm) ?_
    refine stell_c 22 (y := .s (.one (.ls 0 s1.2.2.length))) (.s (.one (.ls 0 (s1.2.2.set s1.1.toNat u2).length))) rfl (congrArg (fun n => AV.s (.one (.ls 0 n))) List.length_set.symm) ?_
    refine stell_c 0 (y := .s (.one (.ls 0 (s1.2.2.set s1.1.toNat u2).length))) (.s (.one (.ls 0 ((s1.2.2.set s1.1.toNat u2).set s1.2.1.toNat u3).length))) rfl (congrArg (fun n => AV.s (.one (.ls 0 n))) List.length_set.symm) ?_
    refine stell_c 14 (y := .s (.one (.ls 0 (s1.2.2.set s1.1.toNat u2).length))) (.s (.one (.ls 0 ((s1.2.2.set s1.1.toNat u2).set s1.2.1.toNat u3).length))) rfl (congrArg (fun n => AV.s (.one (.ls 0 n))) List.length_set.symm) ?_
    refine stell_c 16 (y := .s (.one (.ls 0 (s1.2.2.set s1.1.toNat u2).length))) (.s (.one (.ls 0 ((s1.2.2.set s1.1.toNat u2).set s1.2.1.toNat u3).length))) rfl (congrArg (fun n => AV.s (.one (.ls 0 n))) List.length_set.symm) ?_
    refine stell_c 18 (y := .s (.one (.ls 0 (s1.2.2.set s1.1.toNat u2).length))) (.s (.one (.ls 0 ((s1.2.2.set s1.1.toNat u2).set s1.2.1.toNat u3).length))) rfl (congrArg (fun n => AV.s (.one (.ls 0 n))) List.length_set.symm) ?_
    refine stell_c 22 (y := .s (.one (.ls 0 (s1.2.2.set s1.1.toNat u2).length))) (.s (.one (.ls 0 ((s1.2.2.set s1.1.toNat u2).set s1.2.1.toNat u3).length))) rfl (congrArg (fun n => AV.s (.one (.ls 0 n))) List.length_set.symm) ?_
    refine cregion ?_
    refine sv rfl (opv_mv rfl) ?_
    refine sv rfl (opv_add rfl rfl) ?_
    refine sv rfl (opv_mv rfl) ?_
    refine sv rfl (opv_sub rfl rfl) ?_
    refine sv rfl (opv_as rfl) ?_
    refine sv rfl (opv_as rfl) ?_
    refine snil ?_
    obtain rfl := Option.some.inj h
    exact ⟨(n1, ((wI (s1.1 + 1)), (wI (s1.2.1 - 1)), ((s1.2.2.set s1.1.toNat u2).set s1.2.1.toNat u3))), _, hk1, ⟨rfl, rfl, rfl, trivial⟩, rfl, Nat.lt_succ_self _⟩
  · replace h := ite_f hc h
    clear hc
    refine cexit ?_
    refine then_exit ?_
    refine then_exit ?_
    refine block_hit ?_
    obtain rfl := Option.some.inj h
    obtain rfl : Sum.inl _ = x1 := hk1
    replace ho1 : some _ = some _ := ho1
    obtain rfl := Option.some.inj ho1
    exact ⟨Or.inl rfl, _, [0], [], [.arr 34 3 0 (s1.2.2.flatMap eGChainVer)], resVs_nil, rfl, rfl, ⟨by decide, rfl⟩, rfl, rfl, ⟨rfl, rfl⟩⟩

def m26_chain_Since_r1 (a1 : Int) (s1 : (List GChainVer)) (x1 : Int × GChainVer) : Option (((List GChainVer)) ⊕ (Nat × ((List GChainVer)))) :=
  if (decide (a1 < x1.2.Ts)) then ((m36_bytes_Cloneo x1.2.Val).bind fun v2 => if (s1.length + [(GChainVer.mk x1.2.Ts v2 x1.2.Del)].length) * 40 ≤ 140737488355328 then (some (.inl (s1 ++ [(GChainVer.mk x1.2.Ts v2 x1.2.Del)]))) else none) else (some (.inl s1))

def m26_chain_Since_k4 (s4 : (List GChainVer)) : Option (List GChainVer) :=
  (m37_slices_Reverses s4).bind fun v5 => if v5.length = s4.length then (some v5) else none
def m26_chain_Since (a0 : GChainChain) (a1 : Int) : Option (List GChainVer) :=
  (it39 a0).bind fun L1 => (rangeL (m26_chain_Since_r1 a1) L1 ([] : List GChainVer)).bind fun e => rangeK m26_chain_Since_k4 (fun _ => none) (fun _ _ => none) e

set_option maxRecDepth 100000 in
theorem m26_chain_Since_c {a0 : GChainChain} {a1 : Int} {r : (List GChainVer)} (h : m26_chain_Since a0 a1 = some r) : CallsA Try.prog 26 [.agg [.sl a0.L.length (a0.L.flatMap eGChainVer)], .one (.i .i64 a1)] (· = .s (.one (.sl r.length (r.flatMap eGChainVer)))) := by
  unfold m26_chain_Since at h
  refine callsA_ofI Try.func26 rfl (nt := 27) rfl (Nat.le_of_ble_eq_true rfl) ?_
  intro w0 S0
  refine iseq ?_
  refine iregion rfl (fun w0 S0 X0 m0 H0 => ?_)
  refine sboxc rfl rfl rfl ?_
  refine sboxc rfl rfl rfl ?_
  refine sv rfl (opv_as rfl) ?_
  refine snil ?_
  refine iseq ?_
  refine iregion rfl (fun w0 S0 X0 m0 H0 => ?_)
  refine salloc rfl zi30 ?_
  refine snil ?_
  refine iseq ?_
  refine iseq ?_
  refine iregion rfl (fun w0 S0 X0 m0 H0 => ?_)
  refine sv rfl (opv_loadNe (ys := [.sl a0.L.length (a0.L.flatMap eGChainVer)]) ti32 rfl (.cp _) rfl rfl) ?_
  refine scall1 rfl fn34 (opnds_cons rfl opnds_nil) (pubA_id rfl) m34_chain_backward_c ?_
  refine snil ?_
  refine iblock ?_
  refine sadopt_box_i 34 3 0 0 (by decide) rfl rfl ?_
  obtain ⟨L1, hL1, h⟩ := bind_eq h
  obtain ⟨e1, he1, h⟩ := bind_eq h
  refine irangeL (m26_chain_Since_r1 a1) L1 (fun x1 => .one (.i .i64 x1.1)) (fun x1 => .agg [.i .i64 x1.2.Ts, .sl x1.2.Val.length (x1.2.Val.flatMap eU8), .b x1.2.Del]) (fun s1 => [.box [.ls 1 s1.length], .arr 34 3 0 (s1.flatMap eGChainVer)]) ([] : List GChainVer) he1 rfl fn39 rfl (it39_c hL1) rfl rfl rfl (fun _ => rfl) (fun _ => blkinb_of rfl) ?_ ?_ ?_ ?_
  · clear h
    intro x1 s1 y1 l h w0 S0 X0 H0
    unfold m26_chain_Since_r1 at h
    refine iregion rfl (fun w0 S0 X0 m0 H0 => ?_)
    refine salloc rfl zi34 ?_
    refine sstore sz34 rfl rfl rfl rfl (Nat.le_of_ble_eq_true rfl) ?_
    refine smem [.box [.ls 1 s1.length], .arr 34 3 0 (s1.flatMap eGChainVer), .box [.i .i64 x1.2.Ts, .sl x1.2.Val.length (x1.2.Val.flatMap eU8), .b x1.2.Del]] rfl ?_
    refine snil ?_
    refine fun w0 S0 X0 H0 => ?_
    refine iblock ?_
    refine iseq ?_
    refine iregion rfl (fun w0 S0 X0 m0 H0 => ?_)
    refine sv rfl (opv_fieldAddr_lp fi34_0 rfl) ?_
    refine sv rfl (opv_load1 ti3 rfl (.lp _ _ _ rfl) rfl) ?_
    refine sv rfl (opv_load1 ti3 rfl (.cp _) rfl) ?_
    refine sv rfl (opv_gtr rfl rfl) ?_
    refine snil ?_
    refine icond rfl (fun hc => ?_) (fun hc => ?_)
    · replace h := ite_t hc h
      clear hc
      refine iseq ?_
      refine iregion rfl (fun w0 S0 X0 m0 H0 => ?_)
      refine sv rfl (opv_fieldAddr_lp fi34_1 rfl) ?_
      refine sv rfl (opv_load1 ti25 rfl (.lp _ _ _ rfl) rfl) ?_
      obtain ⟨v2, hv2, h⟩ := bind_eq h
      refine scallB (x' := .s (.one (.ls 3 v2.length))) (M' := [.box [.ls 1 s1.length], .arr 34 3 0 (s1.flatMap eGChainVer), .box [.i .i64 x1.2.Ts, .sl x1.2.Val.length (x1.2.Val.flatMap eU8), .b x1.2.Del], .arr 5 1 0 (v2.flatMap eU8)]) [] rfl fn36 (.func _) (opnds_cons rfl opnds_nil) (m36_bytes_Cloneo_c hv2) rfl rfl (by decide) rfl rfl rfl ?_
      refine sv rfl (opv_fieldAddr_lp fi34_1 rfl) ?_
      refine sstore sz25 rfl rfl rfl rfl (Nat.le_of_ble_eq_true rfl) ?_
      refine smem [.box [.ls 1 s1.length], .arr 34 3 0 (s1.flatMap eGChainVer), .box [.i .i64 x1.2.Ts, .ls 3 v2.length, .b x1.2.Del], .arr 5 1 0 (v2.flatMap eU8)] rfl ?_
      refine snil ?_
      refine iregion rfl (fun w0 S0 X0 m0 H0 => ?_)
      refine sv rfl (opv_load1 ti30 rfl (.lp _ _ _ rfl) rfl) ?_
      refine sv rfl (opv_loadN ti34 rfl (.lp _ _ _ rfl) (Nat.le_of_ble_eq_true rfl)) ?_
      refine spub 21 rfl (by (repeat' first | exact PubA.nil _ | apply PubA.cons | apply PubV.one | apply PubV.agg | exact PubL.nil | exact PubL.ls _ _ _ _ _ _ rfl (flat_len (f := eGChainVer) (fun _ => rfl) _).symm | exact PubL.ls _ _ _ _ _ _ rfl (flat_len (f := eU8) (fun _ => rfl) _).symm | exact PubL.id _ rfl | exact PubLs.nil _ | apply PubLs.cons)) ?_
      refine sbuild1 rfl Try.underlying30 ei34 rfl rfl (List.all_eq_true.1 rfl) (by decide) ?_
      refine smem [.box [.ls 1 s1.length], .arr 34 3 0 (s1.flatMap eGChainVer), .box [.i .i64 x1.2.Ts, .ls 3 v2.length, .b x1.2.Del], .arr 5 1 (v2.flatMap eU8).length (v2.flatMap eU8), .arr 34 3 0 ([(GChainVer.mk x1.2.Ts v2 x1.2.Del)].flatMap eGChainVer)] rfl ?_
      obtain ⟨hb3, h⟩ := chk_eq h
      refine sapp (f := eGChainVer) (xs := s1) (us := [(GChainVer.mk x1.2.Ts v2 x1.2.Del)]) rfl Try.underlying30 ei34 ni30 (fun _ => rfl) rfl rfl (.one _ _ _ _ (.ls _ _ _ _ _ _ rfl (flat_len (f := eGChainVer) (fun _ => rfl) [(GChainVer.mk x1.2.Ts v2 x1.2.Del)]).symm)) rfl rfl rfl (.sl _ _ _ (flat_len (f := eGChainVer) (fun _ => rfl) _)) rfl rfl hb3 (by decide) ?_
      refine sstore sz30 rfl rfl rfl rfl (Nat.le_of_ble_eq_true rfl) ?_
      refine smem [.box [.ls 1 (s1 ++ [(GChainVer.mk x1.2.Ts v2 x1.2.Del)]).length], .arr 34 3 0 ((s1 ++ [(GChainVer.mk x1.2.Ts v2 x1.2.Del)]).flatMap eGChainVer), .box [.i .i64 x1.2.Ts, .ls 3 v2.length, .b x1.2.Del], .arr 5 1 (v2.flatMap eU8).length (v2.flatMap eU8), .arr 34 3 ([(GChainVer.mk x1.2.Ts v2 x1.2.Del)].flatMap eGChainVer).length ([(GChainVer.mk x1.2.Ts v2 x1.2.Del)].flatMap eGChainVer)] rfl ?_
      refine snil0 ?_
      refine block_normal ?_
      obtain rfl := Option.some.inj h
      exact ⟨(s1 ++ [(GChainVer.mk x1.2.Ts v2 x1.2.Del)]), _, rfl, rfl⟩
    · replace h := ite_f hc h
      clear hc
      refine iskip ?_
      refine block_normal ?_
      obtain rfl := Option.some.inj h
      exact ⟨s1, _, rfl, rfl⟩
  · intro s4 hs
    obtain rfl := hs
    replace h : m26_chain_Since_k4 s4 = some r := h
    unfold m26_chain_Since_k4 at h
    refine block_normal ?_
    refine then_normal ?_
    refine iseq ?_
    refine iregion rfl (fun w0 S0 X0 m0 H0 => ?_)
    refine sv rfl (opv_load1 ti30 rfl (.lp _ _ _ rfl) rfl) ?_
    obtain ⟨v5, hv5, h⟩ := bind_eq h
    refine scallB (x' := .tup []) (M' := [.box [.ls 1 s4.length], .arr 34 3 0 (v5.flatMap eGChainVer)]) [1] rfl fn37 (.func _) (opnds_cons rfl opnds_nil) (m37_slices_Reverses_c hv5) rfl rfl (by decide) rfl rfl rfl ?_
    obtain ⟨hl6, h⟩ := chk_eq h
    refine stell 24 (y := .s (.one (.ls 1 s4.length))) (.s (.one (.ls 1 v5.length))) rfl (congrArg (fun n => AV.s (.one (.ls 1 n))) hl6.symm) ?_
    refine smem [.box [.ls 1 v5.length], .arr 34 3 0 (v5.flatMap eGChainVer)] (by rw [hl6]) ?_
    refine snil ?_
    refine iseq ?_
    refine iregion rfl (fun w0 S0 X0 m0 H0 => ?_)
    refine sv rfl (opv_load1 ti30 rfl (.lp _ _ _ rfl) rfl) ?_
    refine sv rfl (opv_as rfl) ?_
    refine snil ?_
    refine iret ?_
    obtain rfl := Option.some.inj h
    refine ⟨Or.inr rfl, _, _, _, (resVs_cons (ResV.tmp _ _ rfl) resVs_nil), (by (repeat' first | exact PubA.nil _ | apply PubA.cons | apply PubV.one | apply PubV.agg | exact PubL.nil | exact PubL.ls _ _ _ _ _ _ rfl (flat_len (f := eGChainVer) (fun _ => rfl) _).symm | exact PubL.id _ rfl | exact PubLs.nil _ | apply PubLs.cons)), ?_⟩
    rfl
  · intro s hs
    obtain rfl := hs
    replace h : none = some r := h
    cases h
  · intro id s hs
    obtain rfl := hs
    replace h : none = some r := h
    cases h

def m27_r07_Since_k1 (b1 : (List GR07Ver)) : Option (List GR07Ver) :=
  some b1

def m27_r07_Since_s2 (a0 : GR07Chain) (a1 : Int) (s2 : Int × (List GR07Ver)) : Option (LB (Int × (List GR07Ver)) ((List GR07Ver))) :=
  if (decide (s2.1 < (a0.L.length : Int))) then ((idx a0.L s2.1).bind fun u3 => if (decide (a1 < u3.Ts)) then ((idx a0.L s2.1).bind fun u4 => if (s2.2.length + [u4].length) * 40 ≤ 140737488355328 then (some (.cont ((wI (s2.1 + 1)), (s2.2 ++ [u4])))) else none) else (some (.cont ((wI (s2.1 + 1)), s2.2)))) else (some (.brk s2.2))
def m27_r07_Since (a0 : GR07Chain) (a1 : Int) : Option (List GR07Ver) :=
  (iterB (m27_r07_Since_s2 a0 a1) fuel (0, ([] : List GR07Ver))).bind fun e6 => m27_r07_Since_k1 e6

set_option maxRecDepth 100000 in
theorem m27_r07_Since_c {a0 : GR07Chain} {a1 : Int} {r : (List GR07Ver)} (h : m27_r07_Since a0 a1 = some r) : CallsA Try.prog 27 [.agg [.sl a0.L.length (a0.L.flatMap eGR07Ver)], .one (.i .i64 a1)] (· = .s (.one (.sl r.length (r.flatMap eGR07Ver)))) := by
  unfold m27_r07_Since at h
  refine callsA_of Try.func27 rfl (nt := 31) rfl (Nat.le_of_ble_eq_true rfl) ?_
  intro w0 S0
  refine cseq ?_
  refine cregion ?_
  refine sbox rfl rfl ?_
  refine sv rfl (opv_as rfl) ?_
  refine snil ?_
  refine cseq ?_
  refine cregion ?_
  refine sv rfl (opv_as rfl) ?_
  refine snil ?_
  refine cseq ?_
  refine cseq ?_
  refine cregion ?_
  refine sv rfl (opv_as rfl) ?_
  refine snil ?_
  refine sadopt_c 27 3 5 (by decide) rfl ?_
  refine cjoin ((List GR07Ver)) (fun b1 => [(5, .s (.one (.ls 1 b1.length)))]) (fun b1 => [.box [.sl a0.L.length (a0.L.flatMap eGR07Ver)], .arr 27 3 0 (b1.flatMap eGR07Ver)]) (fun b1 => m27_r07_Since_k1 b1 = some r) (fun _ _ => inbL_of rfl) (fun _ _ => blkinb_of rfl) (fun _ _ => Nat.le_of_ble_eq_true rfl) (fun b1 h => ?_) ?_
  · unfold m27_r07_Since_k1 at h
    refine cseq ?_
    refine cregion ?_
    refine sv rfl (opv_mv rfl) ?_
    refine sv rfl (opv_as rfl) ?_
    refine snil ?_
    refine cret ?_
    obtain rfl := Option.some.inj h
    refine ⟨Or.inr rfl, _, _, _, (resVs_cons (ResV.tmp _ _ rfl) resVs_nil), (by (repeat' first | exact PubA.nil _ | apply PubA.cons | apply PubV.one | apply PubV.agg | exact PubL.nil | exact PubL.ls _ _ _ _ _ _ rfl (flat_len (f := eGR07Ver) (fun _ => rfl) _).symm | exact PubL.id _ rfl | exact PubLs.nil _ | apply PubLs.cons)), ?_⟩
    rfl
  · skip
    refine cblock ?_
    obtain ⟨x2, hx2, ho2⟩ := bind_eq h
    refine awc_loop (G := Nat × (Int × (List GR07Ver))) (fun g => [(1, .s (.one (.i .i64 a1))), (2, .s (.one (.lp 0 0))), (5, .s (.one (.ls 1 g.2.2.length))), (6, .s (.one (.i .i64 g.2.1)))]) (fun g => [.box [.sl a0.L.length (a0.L.flatMap eGR07Ver)], .arr 27 3 0 (g.2.2.flatMap eGR07Ver)]) (fun g => iterB (m27_r07_Since_s2 a0 a1) g.1 g.2 = some x2) (fun g => g.1) (fuel, (0, ([] : List GR07Ver))) hx2 ⟨rfl, rfl, rfl, rfl, trivial⟩ [] rfl (fun _ _ => inbL_of rfl) (fun _ _ => blkinb_of rfl) (fun _ _ => Nat.le_of_ble_eq_true rfl) ?_
    clear hx2 h
    rintro ⟨n2, s2⟩ h
    obtain ⟨n2, y2, rfl, h, hk2⟩ := iterB_eq h
    unfold m27_r07_Since_s2 at h
    refine cseq ?_
    refine cseq ?_
    refine cregion ?_
    refine sv rfl (opv_mv rfl) ?_
    refine sv rfl (opv_fieldAddr_lp fi24_0 rfl) ?_
    refine sv rfl (opv_load1 ti22 rfl (.lp _ _ _ rfl) rfl) ?_
    refine sv rfl (opv_len_sl si22 rfl) ?_
    refine sv rfl (opv_lss rfl rfl) ?_
    refine snil ?_
    refine ccond rfl (fun hc => ?_) (fun hc => ?_)
    · replace h := ite_t hc h
      clear hc
      refine cskip ?_
      refine then_normal ?_
      refine cseq ?_
      refine cblock ?_
      refine cseq ?_
      refine cregion ?_
      refine sv rfl (opv_fieldAddr_lp fi24_0 rfl) ?_
      refine sv rfl (opv_load1 ti22 rfl (.lp _ _ _ rfl) rfl) ?_
      refine sv rfl (opv_mv rfl) ?_
      obtain ⟨u3, hu3, h⟩ := bind_eq h
      refine sv rfl (opv_ix (f := eGR07Ver) si22 (fun _ => rfl) rfl rfl rfl rfl hu3) ?_
      refine sv rfl (opv_fieldAddr_cp fi27_0 rfl) ?_
      refine sv rfl (opv_load1 ti3 rfl (.cp _) rfl) ?_
      refine sv rfl (opv_mv rfl) ?_
      refine sv rfl (opv_gtr rfl rfl) ?_
      refine snil ?_
      refine ccond rfl (fun hc => ?_) (fun hc => ?_)
      · replace h := ite_t hc h
        clear hc
        refine cregion ?_
        refine sv rfl (opv_mv rfl) ?_
        refine sv rfl (opv_fieldAddr_lp fi24_0 rfl) ?_
        refine sv rfl (opv_load1 ti22 rfl (.lp _ _ _ rfl) rfl) ?_
        refine sv rfl (opv_mv rfl) ?_
        obtain ⟨u4, hu4, h⟩ := bind_eq h
        refine sv rfl (opv_ix (f := eGR07Ver) si22 (fun _ => rfl) rfl rfl rfl rfl hu4) ?_
        refine sv rfl (opv_loadNe (ys := [.i .i64 u4.Ts, .sl u4.Val.length (u4.Val.flatMap eU8), .b u4.Del]) ti27 rfl (.cp _) rfl rfl) ?_
        refine sbuild1 rfl Try.underlying22 ei27 rfl rfl (List.all_eq_true.1 rfl) (by decide) ?_
        refine smem [.box [.sl a0.L.length (a0.L.flatMap eGR07Ver)], .arr 27 3 0 (s2.2.flatMap eGR07Ver), .arr 27 3 0 ([u4].flatMap eGR07Ver)] rfl ?_
        obtain ⟨hb5, h⟩ := chk_eq h
        refine sapp (f := eGR07Ver) (xs := s2.2) (us := [u4]) rfl Try.underlying22 ei27 ni22 (fun _ => rfl) rfl rfl (.one _ _ _ _ (.ls _ _ _ _ _ _ rfl (flat_len (f := eGR07Ver) (fun _ => rfl) [u4]).symm)) rfl rfl rfl (.sl _ _ _ (flat_len (f := eGR07Ver) (fun _ => rfl) _)) rfl rfl hb5 (by decide) ?_
        refine sv rfl (opv_as rfl) ?_
        refine snil0 ?_
        refine block_normal ?_
        refine then_normal ?_
        refine cregion ?_
        refine sv rfl (opv_mv rfl) ?_
        refine sv rfl (opv_add rfl rfl) ?_
        refine sv rfl (opv_as rfl) ?_
        refine snil ?_
        obtain rfl := Option.some.inj h
        exact ⟨(n2, ((wI (s2.1 + 1)), (s2.2 ++ [u4]))), _, hk2, ⟨rfl, rfl, rfl, rfl, trivial⟩, rfl, Nat.lt_succ_self _⟩
      · replace h := ite_f hc h
        clear hc
        refine cskip ?_
        refine block_normal ?_
        refine then_normal ?_
        refine cregion ?_
        refine sv rfl (opv_mv rfl) ?_
        refine sv rfl (opv_add rfl rfl) ?_
        refine sv rfl (opv_as rfl) ?_
        refine snil ?_
        obtain rfl := Option.some.inj h
        exact ⟨(n2, ((wI (s2.1 + 1)), s2.2)), _, hk2, ⟨rfl, rfl, rfl, rfl, trivial⟩, rfl, Nat.lt_succ_self _⟩
    · replace h := ite_f hc h
      clear hc
      refine cexit ?_
      refine then_exit ?_
      refine then_exit ?_
      refine block_hit ?_
      refine then_normal ?_
      obtain rfl := Option.some.inj h
      obtain rfl : _ = x2 := hk2
      exact ⟨s2.2, _, ho2, ⟨rfl, trivial⟩, rfl⟩

def m3_l07_ChainIs_k11 (a0 : GR07Chain) (a2 : Int) (v1 : Bool) (v3 : GChainChain) (b11 : Unit) : Option Bool :=
  if v1 then ((m20_chain_Sane (GChainChain.mk v3.L)).bind fun v12 => (m21_r07_Sane (GR07Chain.mk a0.L)).bind fun v13 => if (v12 == v13) then ((m22_chain_Last (GChainChain.mk v3.L)).bind fun v14 => (m23_r07_Last (GR07Chain.mk a0.L)).bind fun v15 => if (decide (v14 = v15)) then ((m24_chain_Vacuum (GChainChain.mk v3.L) a2).bind fun v16 => (m19_l07_theirs v16.L).bind fun v17 => (m25_r07_Vacuum a0 a2).bind fun v18 => (m18_r07_Same v17 v18.L).bind fun v19 => if v19 then ((m26_chain_Since (GChainChain.mk v3.L) a2).bind fun v20 => (m19_l07_theirs v20).bind fun v21 => (m27_r07_Since a0 a2).bind fun v22 => (m18_r07_Same v21 v22).bind fun v23 => if v23 then ((m19_l07_theirs v3.L).bind fun v24 => (m18_r07_Same v24 a0.L).bind fun v25 => some v25) else (some false)) else (some false)) else (some false)) else (some false)) else (some false)

def m3_l07_ChainIs_k2 (a0 : GR07Chain) (a1 : GR07Ver) (a2 : Int) (v1 : Bool) (b2 : Unit) : Option Bool :=
  (m10_l07_ours (GR07Chain.mk a0.L)).bind fun v3 => (m11_chain_At v3 a2).bind fun v4 => (m12_r07_At a0 a2).bind fun v5 => (m13_chain_Value v3 a2).bind fun v6 => (m14_r07_Value a0 a2).bind fun v7 => (m16_l07_ver (GR07Ver.mk a1.Ts a1.Val a1.Del)).bind fun v8 => (m15_chain_Push v3 v8).bind fun v9 => (m17_r07_Push a0 a1).bind fun v10 => (m19_l07_theirs ([v4.1] : List GChainVer)).bind fun v26 => (m18_r07_Same v26 ([v5.1] : List GR07Ver)).bind fun v27 => if (!v27) then (some false) else (if (!(v4.2 == v5.2)) then (some false) else (if (!(v6.1 == v7.1)) then (some false) else (if (!(v6.2 == v7.2)) then (some false) else ((m19_l07_theirs v9.1.L).bind fun v28 => (m18_r07_Same v28 v10.1.L).bind fun v29 => if (!v29) then (some false) else (if (!decide (v9.2 = v10.2)) then (some false) else (m3_l07_ChainIs_k11 a0 a2 v1 v3 ()))))))
def m3_l07_ChainIs (a0 : GR07Chain) (a1 : GR07Ver) (a2 : Int) : Option Bool :=
  (m8_l07_awake).bind fun v1 => (m9_r07_Few a0).bind fun v30 => if (!v30) then (some v1) else (if (decide (100 < (a1.Val.length : Int))) then (some v1) else (m3_l07_ChainIs_k2 a0 a1 a2 v1 ()))

set_option maxRecDepth 100000 in
theorem m3_l07_ChainIs_c {a0 : GR07Chain} {a1 : GR07Ver} {a2 : Int} {r : Bool} (h : m3_l07_ChainIs a0 a1 a2 = some r) : CallsA Try.prog 3 [.agg [.sl a0.L.length (a0.L.flatMap eGR07Ver)], .agg [.i .i64 a1.Ts, .sl a1.Val.length (a1.Val.flatMap eU8), .b a1.Del], .one (.i .i64 a2)] (· = .s (.one (.b r))) := by
  unfold m3_l07_ChainIs at h
  refine callsA_of Try.func3 rfl (nt := 154) rfl (Nat.le_of_ble_eq_true rfl) ?_
  intro w0 S0
  refine cseq ?_
  refine cregion ?_
  refine sbox rfl rfl ?_
  refine sbox rfl rfl ?_
  refine sv rfl (opv_as rfl) ?_
  refine snil ?_
  refine cseq ?_
  refine cregion ?_
  obtain ⟨v1, hv1, h⟩ := bind_eq h
  refine scall1 rfl fn8 opnds_nil (pubA_id rfl) (m8_l07_awake_c hv1) ?_
  refine sv rfl (opv_as rfl) ?_
  refine snil ?_
  refine cseq ?_
  refine cseq ?_
  refine cjoin3 (Unit) (fun b2 => [(2, .s (.one (.i .i64 a2))), (3, .s (.one (.lp 0 0))), (4, .s (.one (.lp 1 0))), (7, .s (.one (.b v1)))]) (fun b2 => [.box [.sl a0.L.length (a0.L.flatMap eGR07Ver)], .box [.i .i64 a1.Ts, .sl a1.Val.length (a1.Val.flatMap eU8), .b a1.Del]]) (fun b2 => m3_l07_ChainIs_k2 a0 a1 a2 v1 b2 = some r) (fun _ _ => inbL_of rfl) (fun _ _ => blkinb_of rfl) (fun _ _ => Nat.le_of_ble_eq_true rfl) (fun b2 h => ?_) ?_
  · unfold m3_l07_ChainIs_k2 at h
    refine cseq ?_
    refine cregion ?_
    refine sv rfl (opv_loadN ti24 rfl (.lp _ _ _ rfl) (Nat.le_of_ble_eq_true rfl)) ?_
    obtain ⟨v3, hv3, h⟩ := bind_eq h
    refine scall1 rfl fn10 (opnds_cons rfl opnds_nil) (pubA_id rfl) (m10_l07_ours_c hv3) ?_
    refine salloc rfl zi32 ?_
    refine sstore sz32 rfl rfl rfl rfl (Nat.le_of_ble_eq_true rfl) ?_
    refine smem [.box [.sl a0.L.length (a0.L.flatMap eGR07Ver)], .box [.i .i64 a1.Ts, .sl a1.Val.length (a1.Val.flatMap eU8), .b a1.Del], .box [.sl v3.L.length (v3.L.flatMap eGChainVer)]] rfl ?_
    refine snil ?_
    refine cseq ?_
    refine cregion ?_
    refine sv rfl (opv_loadN ti32 rfl (.lp _ _ _ rfl) (Nat.le_of_ble_eq_true rfl)) ?_
    refine sv rfl (opv_mv rfl) ?_
    obtain ⟨v4, hv4, h⟩ := bind_eq h
    refine scall1 rfl fn11 (opnds_cons rfl (opnds_cons rfl opnds_nil)) (pubA_id rfl) (m11_chain_At_c hv4) ?_
    refine sv rfl (opv_mvt rfl) ?_
    refine sv rfl (opv_extract rfl rfl) ?_
    refine sv rfl (opv_extract rfl rfl) ?_
    refine salloc rfl zi34 ?_
    refine sstore sz34 rfl rfl rfl rfl (Nat.le_of_ble_eq_true rfl) ?_
    refine smem [.box [.sl a0.L.length (a0.L.flatMap eGR07Ver)], .box [.i .i64 a1.Ts, .sl a1.Val.length (a1.Val.flatMap eU8), .b a1.Del], .box [.sl v3.L.length (v3.L.flatMap eGChainVer)], .box [.i .i64 v4.1.Ts, .sl v4.1.Val.length (v4.1.Val.flatMap eU8), .b v4.1.Del]] rfl ?_
    refine sv rfl (opv_as rfl) ?_
    refine snil ?_
    refine cseq ?_
    refine cregion ?_
    refine sv rfl (opv_loadN ti24 rfl (.lp _ _ _ rfl) (Nat.le_of_ble_eq_true rfl)) ?_
    refine sv rfl (opv_mv rfl) ?_
    obtain ⟨v5, hv5, h⟩ := bind_eq h
    refine scall1 rfl fn12 (opnds_cons rfl (opnds_cons rfl opnds_nil)) (pubA_id rfl) (m12_r07_At_c hv5) ?_
    refine sv rfl (opv_mvt rfl) ?_
    refine sv rfl (opv_extract rfl rfl) ?_
    refine sv rfl (opv_extract rfl rfl) ?_
    refine salloc rfl zi27 ?_
    refine sstore sz27 rfl rfl rfl rfl (Nat.le_of_ble_eq_true rfl) ?_
    refine smem [.box [.sl a0.L.length (a0.L.flatMap eGR07Ver)], .box [.i .i64 a1.Ts, .sl a1.Val.length (a1.Val.flatMap eU8), .b a1.Del], .box [.sl v3.L.length (v3.L.flatMap eGChainVer)], .box [.i .i64 v4.1.Ts, .sl v4.1.Val.length (v4.1.Val.flatMap eU8), .b v4.1.Del], .box [.i .i64 v5.1.Ts, .sl v5.1.Val.length (v5.1.Val.flatMap eU8), .b v5.1.Del]] rfl ?_
    refine sv rfl (opv_as rfl) ?_
    refine snil ?_
    refine cseq ?_
    refine cregion ?_
    refine sv rfl (opv_loadN ti32 rfl (.lp _ _ _ rfl) (Nat.le_of_ble_eq_true rfl)) ?_
    refine sv rfl (opv_mv rfl) ?_
    obtain ⟨v6, hv6, h⟩ := bind_eq h
    refine scall1 rfl fn13 (opnds_cons rfl (opnds_cons rfl opnds_nil)) (pubA_id rfl) (m13_chain_Value_c hv6) ?_
    refine sv rfl (opv_mvt rfl) ?_
    refine sv rfl (opv_extract rfl rfl) ?_
    refine sv rfl (opv_extract rfl rfl) ?_
    refine sv rfl (opv_as rfl) ?_
    refine sv rfl (opv_as rfl) ?_
    refine snil ?_
    refine cseq ?_
    refine cregion ?_
    refine sv rfl (opv_loadN ti24 rfl (.lp _ _ _ rfl) (Nat.le_of_ble_eq_true rfl)) ?_
    refine sv rfl (opv_mv rfl) ?_
    obtain ⟨v7, hv7, h⟩ := bind_eq h
    refine scall1 rfl fn14 (opnds_cons rfl (opnds_cons rfl opnds_nil)) (pubA_id rfl) (m14_r07_Value_c hv7) ?_
    refine sv rfl (opv_mvt rfl) ?_
    refine sv rfl (opv_extract rfl rfl) ?_
    refine sv rfl (opv_extract rfl rfl) ?_
    refine sv rfl (opv_as rfl) ?_
    refine sv rfl (opv_as rfl) ?_
    refine snil ?_
    refine cseq ?_
    refine chole ?_
    obtain ⟨v8, hv8, h⟩ := bind_eq h
    obtain ⟨v9, hv9, h⟩ := bind_eq h
    refine cdraw_e [7, 8] [0, 0, 2, 7, 15, 31, 31, 0, 191, 511] [[.box [.sl a0.L.length (a0.L.flatMap eGR07Ver)], .box [.i .i64 a1.Ts, .sl a1.Val.length (a1.Val.flatMap eU8), .b a1.Del], .box [.sl v3.L.length (v3.L.flatMap eGChainVer)], .box [.i .i64 v4.1.Ts, .sl v4.1.Val.length (v4.1.Val.flatMap eU8), .b v4.1.Del], .box [.i .i64 v5.1.Ts, .sl v5.1.Val.length (v5.1.Val.flatMap eU8), .b v5.1.Del], .hole], [.box [.sl a0.L.length (a0.L.flatMap eGR07Ver)], .box [.i .i64 a1.Ts, .sl a1.Val.length (a1.Val.flatMap eU8), .b a1.Del], .box [.sl v3.L.length (v3.L.flatMap eGChainVer)], .box [.i .i64 v4.1.Ts, .sl v4.1.Val.length (v4.1.Val.flatMap eU8), .b v4.1.Del], .box [.i .i64 v5.1.Ts, .sl v5.1.Val.length (v5.1.Val.flatMap eU8), .b v5.1.Del], .box [.raw (.slice none 0 0)]], [.box [.sl a0.L.length (a0.L.flatMap eGR07Ver)], .box [.i .i64 a1.Ts, .sl a1.Val.length (a1.Val.flatMap eU8), .b a1.Del], .box [.sl v3.L.length (v3.L.flatMap eGChainVer)], .box [.i .i64 v4.1.Ts, .sl v4.1.Val.length (v4.1.Val.flatMap eU8), .b v4.1.Del], .box [.i .i64 v5.1.Ts, .sl v5.1.Val.length (v5.1.Val.flatMap eU8), .b v5.1.Del], .box [.sl v9.1.L.length (v9.1.L.flatMap eGChainVer)]]] (by kernel_rfl) mixed (by kernel_rfl) (by decide) rfl rfl rfl rfl ?_
    refine ev (sees_all (md := [.box [.sl a0.L.length (a0.L.flatMap eGR07Ver)], .box [.i .i64 a1.Ts, .sl a1.Val.length (a1.Val.flatMap eU8), .b a1.Del], .box [.sl v3.L.length (v3.L.flatMap eGChainVer)], .box [.i .i64 v4.1.Ts, .sl v4.1.Val.length (v4.1.Val.flatMap eU8), .b v4.1.Del], .box [.i .i64 v5.1.Ts, .sl v5.1.Val.length (v5.1.Val.flatMap eU8), .b v5.1.Del], .dead]) ⟨⟨rfl, ⟨rfl, ⟨rfl, ⟨rfl, ⟨rfl, ⟨trivial, trivial⟩⟩⟩⟩⟩⟩, ⟨⟨rfl, ⟨rfl, ⟨rfl, ⟨rfl, ⟨rfl, ⟨trivial, trivial⟩⟩⟩⟩⟩⟩, ⟨⟨rfl, ⟨rfl, ⟨rfl, ⟨rfl, ⟨rfl, ⟨trivial, trivial⟩⟩⟩⟩⟩⟩, trivial⟩⟩⟩) rfl rfl (opv_loadN ti32 rfl (.lp _ _ _ rfl) (Nat.le_of_ble_eq_true rfl)) ?_
    refine ev (sees_all (md := [.box [.sl a0.L.length (a0.L.flatMap eGR07Ver)], .box [.i .i64 a1.Ts, .sl a1.Val.length (a1.Val.flatMap eU8), .b a1.Del], .box [.sl v3.L.length (v3.L.flatMap eGChainVer)], .box [.i .i64 v4.1.Ts, .sl v4.1.Val.length (v4.1.Val.flatMap eU8), .b v4.1.Del], .box [.i .i64 v5.1.Ts, .sl v5.1.Val.length (v5.1.Val.flatMap eU8), .b v5.1.Del], .dead]) ⟨⟨rfl, ⟨rfl, ⟨rfl, ⟨rfl, ⟨rfl, ⟨trivial, trivial⟩⟩⟩⟩⟩⟩, ⟨⟨rfl, ⟨rfl, ⟨rfl, ⟨rfl, ⟨rfl, ⟨trivial, trivial⟩⟩⟩⟩⟩⟩, ⟨⟨rfl, ⟨rfl, ⟨rfl, ⟨rfl, ⟨rfl, ⟨trivial, trivial⟩⟩⟩⟩⟩⟩, trivial⟩⟩⟩) rfl rfl (opv_loadN ti27 rfl (.lp _ _ _ rfl) (Nat.le_of_ble_eq_true rfl)) ?_
    refine ed (sees_all (md := [.box [.sl a0.L.length (a0.L.flatMap eGR07Ver)], .box [.i .i64 a1.Ts, .sl a1.Val.length (a1.Val.flatMap eU8), .b a1.Del], .box [.sl v3.L.length (v3.L.flatMap eGChainVer)], .box [.i .i64 v4.1.Ts, .sl v4.1.Val.length (v4.1.Val.flatMap eU8), .b v4.1.Del], .box [.i .i64 v5.1.Ts, .sl v5.1.Val.length (v5.1.Val.flatMap eU8), .b v5.1.Del], .dead]) ⟨⟨rfl, ⟨rfl, ⟨rfl, ⟨rfl, ⟨rfl, ⟨trivial, trivial⟩⟩⟩⟩⟩⟩, ⟨⟨rfl, ⟨rfl, ⟨rfl, ⟨rfl, ⟨rfl, ⟨trivial, trivial⟩⟩⟩⟩⟩⟩, ⟨⟨rfl, ⟨rfl, ⟨rfl, ⟨rfl, ⟨rfl, ⟨trivial, trivial⟩⟩⟩⟩⟩⟩, trivial⟩⟩⟩) rfl rfl (opD_call fn16 (opnds_cons rfl opnds_nil) rfl (m16_l07_ver_c hv8)) ?_
    refine ed (sees_all (md := [.box [.sl a0.L.length (a0.L.flatMap eGR07Ver)], .box [.i .i64 a1.Ts, .sl a1.Val.length (a1.Val.flatMap eU8), .b a1.Del], .box [.sl v3.L.length (v3.L.flatMap eGChainVer)], .box [.i .i64 v4.1.Ts, .sl v4.1.Val.length (v4.1.Val.flatMap eU8), .b v4.1.Del], .box [.i .i64 v5.1.Ts, .sl v5.1.Val.length (v5.1.Val.flatMap eU8), .b v5.1.Del], .dead]) ⟨⟨rfl, ⟨rfl, ⟨rfl, ⟨rfl, ⟨rfl, ⟨trivial, trivial⟩⟩⟩⟩⟩⟩, ⟨⟨rfl, ⟨rfl, ⟨rfl, ⟨rfl, ⟨rfl, ⟨trivial, trivial⟩⟩⟩⟩⟩⟩, ⟨⟨rfl, ⟨rfl, ⟨rfl, ⟨rfl, ⟨rfl, ⟨trivial, trivial⟩⟩⟩⟩⟩⟩, trivial⟩⟩⟩) rfl rfl (opD_call fn15 (opnds_cons rfl (opnds_cons rfl opnds_nil)) rfl (m15_chain_Push_c hv9)) ?_
    refine emv rfl rfl (fun _ => opv_mvt rfl) ?_
    refine ev (sees_all (md := [.box [.sl a0.L.length (a0.L.flatMap eGR07Ver)], .box [.i .i64 a1.Ts, .sl a1.Val.length (a1.Val.flatMap eU8), .b a1.Del], .box [.sl v3.L.length (v3.L.flatMap eGChainVer)], .box [.i .i64 v4.1.Ts, .sl v4.1.Val.length (v4.1.Val.flatMap eU8), .b v4.1.Del], .box [.i .i64 v5.1.Ts, .sl v5.1.Val.length (v5.1.Val.flatMap eU8), .b v5.1.Del], .dead]) ⟨⟨rfl, ⟨rfl, ⟨rfl, ⟨rfl, ⟨rfl, ⟨trivial, trivial⟩⟩⟩⟩⟩⟩, ⟨⟨rfl, ⟨rfl, ⟨rfl, ⟨rfl, ⟨rfl, ⟨trivial, trivial⟩⟩⟩⟩⟩⟩, ⟨⟨rfl, ⟨rfl, ⟨rfl, ⟨rfl, ⟨rfl, ⟨trivial, trivial⟩⟩⟩⟩⟩⟩, trivial⟩⟩⟩) rfl rfl (opv_extract rfl rfl) ?_
    refine ev (sees_all (md := [.box [.sl a0.L.length (a0.L.flatMap eGR07Ver)], .box [.i .i64 a1.Ts, .sl a1.Val.length (a1.Val.flatMap eU8), .b a1.Del], .box [.sl v3.L.length (v3.L.flatMap eGChainVer)], .box [.i .i64 v4.1.Ts, .sl v4.1.Val.length (v4.1.Val.flatMap eU8), .b v4.1.Del], .box [.i .i64 v5.1.Ts, .sl v5.1.Val.length (v5.1.Val.flatMap eU8), .b v5.1.Del], .dead]) ⟨⟨rfl, ⟨rfl, ⟨rfl, ⟨rfl, ⟨rfl, ⟨trivial, trivial⟩⟩⟩⟩⟩⟩, ⟨⟨rfl, ⟨rfl, ⟨rfl, ⟨rfl, ⟨rfl, ⟨trivial, trivial⟩⟩⟩⟩⟩⟩, ⟨⟨rfl, ⟨rfl, ⟨rfl, ⟨rfl, ⟨rfl, ⟨trivial, trivial⟩⟩⟩⟩⟩⟩, trivial⟩⟩⟩) rfl rfl (opv_extract rfl rfl) ?_
    refine ee (x := .s (.one (.lp 5 0))) 0 rfl rfl rfl rfl rfl (fun ζ => ?_) ?_
    · refine salloc_at 5 rfl zi32 rfl ?_
      exact eend
    refine ee0 1 rfl rfl rfl rfl (fun ζ => ?_) ?_
    · refine sstore sz32 rfl rfl rfl rfl (Nat.le_of_ble_eq_true rfl) ?_
      refine smem [.box [.sl a0.L.length (a0.L.flatMap eGR07Ver)], .box [.i .i64 a1.Ts, .sl a1.Val.length (a1.Val.flatMap eU8), .b a1.Del], .box [.sl v3.L.length (v3.L.flatMap eGChainVer)], .box [.i .i64 v4.1.Ts, .sl v4.1.Val.length (v4.1.Val.flatMap eU8), .b v4.1.Del], .box [.i .i64 v5.1.Ts, .sl v5.1.Val.length (v5.1.Val.flatMap eU8), .b v5.1.Del], .box [.sl v9.1.L.length (v9.1.L.flatMap eGChainVer)]] rfl ?_
      exact eend
    refine ev (sees_at 2 rfl rfl) rfl rfl (opv_as rfl) ?_
    refine enil ?_
    refine then_normal ?_
    refine cseq ?_
    refine cregion ?_
    refine sv rfl (opv_loadN ti24 rfl (.lp _ _ _ rfl) (Nat.le_of_ble_eq_true rfl)) ?_
    refine sv rfl (opv_loadN ti27 rfl (.lp _ _ _ rfl) (Nat.le_of_ble_eq_true rfl)) ?_
    obtain ⟨v10, hv10, h⟩ := bind_eq h
    refine scall1 rfl fn17 (opnds_cons rfl (opnds_cons rfl opnds_nil)) (pubA_id rfl) (m17_r07_Push_c hv10) ?_
    refine sv rfl (opv_mvt rfl) ?_
    refine sv rfl (opv_extract rfl rfl) ?_
    refine sv rfl (opv_extract rfl rfl) ?_
    refine salloc rfl zi24 ?_
    refine sstore sz24 rfl rfl rfl rfl (Nat.le_of_ble_eq_true rfl) ?_
    refine smem [.box [.sl a0.L.length (a0.L.flatMap eGR07Ver)], .box [.i .i64 a1.Ts, .sl a1.Val.length (a1.Val.flatMap eU8), .b a1.Del], .box [.sl v3.L.length (v3.L.flatMap eGChainVer)], .box [.i .i64 v4.1.Ts, .sl v4.1.Val.length (v4.1.Val.flatMap eU8), .b v4.1.Del], .box [.i .i64 v5.1.Ts, .sl v5.1.Val.length (v5.1.Val.flatMap eU8), .b v5.1.Del], .box [.sl v9.1.L.length (v9.1.L.flatMap eGChainVer)], .box [.sl v10.1.L.length (v10.1.L.flatMap eGR07Ver)]] rfl ?_
    refine sv rfl (opv_as rfl) ?_
    refine snil ?_
    refine cseq ?_
    refine cseq ?_
    refine cjoin3 (Unit) (fun b11 => [(2, .s (.one (.i .i64 a2))), (3, .s (.one (.lp 0 0))), (7, .s (.one (.b v1))), (8, .s (.one (.lp 2 0)))]) (fun b11 => [.box [.sl a0.L.length (a0.L.flatMap eGR07Ver)], .box [.i .i64 a1.Ts, .sl a1.Val.length (a1.Val.flatMap eU8), .b a1.Del], .box [.sl v3.L.length (v3.L.flatMap eGChainVer)], .box [.i .i64 v4.1.Ts, .sl v4.1.Val.length (v4.1.Val.flatMap eU8), .b v4.1.Del], .box [.i .i64 v5.1.Ts, .sl v5.1.Val.length (v5.1.Val.flatMap eU8), .b v5.1.Del], .box [.sl v9.1.L.length (v9.1.L.flatMap eGChainVer)], .box [.sl v10.1.L.length (v10.1.L.flatMap eGR07Ver)]]) (fun b11 => m3_l07_ChainIs_k11 a0 a2 v1 v3 b11 = some r) (fun _ _ => inbL_of rfl) (fun _ _ => blkinb_of rfl) (fun _ _ => Nat.le_of_ble_eq_true rfl) (fun b11 h => ?_) ?_
    · unfold m3_l07_ChainIs_k11 at h
      refine cseq ?_
      refine cdraw mixed (by kernel_rfl) ?_
      refine dv rfl (opv_mv rfl) ?_
      refine dv rfl (opv_mv rfl) ?_
      refine dsplit 110 rfl (fun hc => ?_) (fun hc => ?_)
      · replace h := ite_t hc h
        clear hc
        refine dvg rfl rfl rfl (opv_loadN ti32 rfl (.lp _ _ _ rfl) (Nat.le_of_ble_eq_true rfl)) ?_
        obtain ⟨v12, hv12, h⟩ := bind_eq h
        refine ddg rfl rfl rfl (opD_call fn20 (opnds_cons rfl opnds_nil) rfl (m20_chain_Sane_c hv12)) ?_
        refine dvg rfl rfl rfl (opv_loadN ti24 rfl (.lp _ _ _ rfl) (Nat.le_of_ble_eq_true rfl)) ?_
        obtain ⟨v13, hv13, h⟩ := bind_eq h
        refine ddg rfl rfl rfl (opD_call fn21 (opnds_cons rfl opnds_nil) rfl (m21_r07_Sane_c hv13)) ?_
        refine dvg rfl rfl rfl (opv_beql Try.underlying4 rfl rfl) ?_
        refine dv rfl (opv_pick_t rfl rfl) ?_
        refine dv rfl (opv_mv rfl) ?_
        refine dsplit 117 rfl (fun hc => ?_) (fun hc => ?_)
        · replace h := ite_t hc h
          clear hc
          refine dvg rfl rfl rfl (opv_loadN ti32 rfl (.lp _ _ _ rfl) (Nat.le_of_ble_eq_true rfl)) ?_
          obtain ⟨v14, hv14, h⟩ := bind_eq h
          refine ddg rfl rfl rfl (opD_call fn22 (opnds_cons rfl opnds_nil) rfl (m22_chain_Last_c hv14)) ?_
          refine dvg rfl rfl rfl (opv_loadN ti24 rfl (.lp _ _ _ rfl) (Nat.le_of_ble_eq_true rfl)) ?_
          obtain ⟨v15, hv15, h⟩ := bind_eq h
          refine ddg rfl rfl rfl (opD_call fn23 (opnds_cons rfl opnds_nil) rfl (m23_r07_Last_c hv15)) ?_
          refine dvg rfl rfl rfl (opv_ieql rfl rfl) ?_
          refine dv rfl (opv_pick_t rfl rfl) ?_
          refine dv rfl (opv_mv rfl) ?_
          refine dsplit 124 rfl (fun hc => ?_) (fun hc => ?_)
          · replace h := ite_t hc h
            clear hc
            refine dvg rfl rfl rfl (opv_loadN ti32 rfl (.lp _ _ _ rfl) (Nat.le_of_ble_eq_true rfl)) ?_
            refine dvg rfl rfl rfl (opv_mv rfl) ?_
            obtain ⟨v16, hv16, h⟩ := bind_eq h
            refine ddg rfl rfl rfl (opD_call fn24 (opnds_cons rfl (opnds_cons rfl opnds_nil)) rfl (m24_chain_Vacuum_c hv16)) ?_
            refine dvg rfl rfl rfl (opv_field1 ft32_0 ti30 rfl rfl) ?_
            obtain ⟨v17, hv17, h⟩ := bind_eq h
            refine ddg rfl rfl rfl (opD_call fn19 (opnds_cons rfl opnds_nil) rfl (m19_l07_theirs_c hv17)) ?_
            refine dvg rfl rfl rfl (opv_loadN ti24 rfl (.lp _ _ _ rfl) (Nat.le_of_ble_eq_true rfl)) ?_
            refine dvg rfl rfl rfl (opv_mv rfl) ?_
            obtain ⟨v18, hv18, h⟩ := bind_eq h
            refine ddg rfl rfl rfl (opD_call fn25 (opnds_cons rfl (opnds_cons rfl opnds_nil)) rfl (m25_r07_Vacuum_c hv18)) ?_
            refine dvg rfl rfl rfl (opv_field1 ft24_0 ti22 rfl rfl) ?_
            obtain ⟨v19, hv19, h⟩ := bind_eq h
            refine ddg rfl rfl rfl (opD_call fn18 (opnds_cons rfl (opnds_cons rfl opnds_nil)) rfl (m18_r07_Same_c hv19)) ?_
            refine dv rfl (opv_pick_t rfl rfl) ?_
            refine dv rfl (opv_mv rfl) ?_
            refine dsplit 136 rfl (fun hc => ?_) (fun hc => ?_)
            · replace h := ite_t hc h
              clear hc
              refine dvg rfl rfl rfl (opv_loadN ti32 rfl (.lp _ _ _ rfl) (Nat.le_of_ble_eq_true rfl)) ?_
              refine dvg rfl rfl rfl (opv_mv rfl) ?_
              obtain ⟨v20, hv20, h⟩ := bind_eq h
              refine ddg rfl rfl rfl (opD_call fn26 (opnds_cons rfl (opnds_cons rfl opnds_nil)) rfl (m26_chain_Since_c hv20)) ?_
              obtain ⟨v21, hv21, h⟩ := bind_eq h
              refine ddg rfl rfl rfl (opD_call fn19 (opnds_cons rfl opnds_nil) rfl (m19_l07_theirs_c hv21)) ?_
              refine dvg rfl rfl rfl (opv_loadN ti24 rfl (.lp _ _ _ rfl) (Nat.le_of_ble_eq_true rfl)) ?_
              refine dvg rfl rfl rfl (opv_mv rfl) ?_
              obtain ⟨v22, hv22, h⟩ := bind_eq h
              refine ddg rfl rfl rfl (opD_call fn27 (opnds_cons rfl (opnds_cons rfl opnds_nil)) rfl (m27_r07_Since_c hv22)) ?_
              obtain ⟨v23, hv23, h⟩ := bind_eq h
              refine ddg rfl rfl rfl (opD_call fn18 (opnds_cons rfl (opnds_cons rfl opnds_nil)) rfl (m18_r07_Same_c hv23)) ?_
              refine dv rfl (opv_pick_t rfl rfl) ?_
              refine dv rfl (opv_mv rfl) ?_
              refine dsplit 146 rfl (fun hc => ?_) (fun hc => ?_)
              · replace h := ite_t hc h
                clear hc
                refine dvg rfl rfl rfl (opv_fieldAddr_lp fi32_0 rfl) ?_
                refine dvg rfl rfl rfl (opv_load1 ti30 rfl (.lp _ _ _ rfl) rfl) ?_
                obtain ⟨v24, hv24, h⟩ := bind_eq h
                refine ddg rfl rfl rfl (opD_call fn19 (opnds_cons rfl opnds_nil) rfl (m19_l07_theirs_c hv24)) ?_
                refine dvg rfl rfl rfl (opv_fieldAddr_lp fi24_0 rfl) ?_
                refine dvg rfl rfl rfl (opv_load1 ti22 rfl (.lp _ _ _ rfl) rfl) ?_
                obtain ⟨v25, hv25, h⟩ := bind_eq h
                refine ddg rfl rfl rfl (opD_call fn18 (opnds_cons rfl (opnds_cons rfl opnds_nil)) rfl (m18_r07_Same_c hv25)) ?_
                refine dv rfl (opv_pick_t rfl rfl) ?_
                refine dv rfl (opv_as rfl) ?_
                refine dnil ?_
                refine then_normal ?_
                refine cret ?_
                obtain rfl := Option.some.inj h
                refine ⟨Or.inr rfl, _, _, _, (resVs_cons (ResV.tmp _ _ rfl) resVs_nil), (pubA_id rfl), ?_⟩
                rfl
              · replace h := ite_f hc h
                clear hc
                refine doff rfl rfl rfl rfl ?_
                refine doff rfl rfl rfl rfl ?_
                refine doff rfl rfl rfl rfl ?_
                refine doff rfl rfl rfl rfl ?_
                refine doff rfl rfl rfl rfl ?_
                refine doff rfl rfl rfl rfl ?_
                refine dv rfl (opv_pick_f rfl rfl) ?_
                refine dv rfl (opv_as rfl) ?_
                refine dnil ?_
                refine then_normal ?_
                refine cret ?_
                obtain rfl := Option.some.inj h
                refine ⟨Or.inr rfl, _, _, _, (resVs_cons (ResV.tmp _ _ rfl) resVs_nil), (pubA_id rfl), ?_⟩
                rfl
            · replace h := ite_f hc h
              clear hc
              refine doff rfl rfl rfl rfl ?_
              refine doff rfl rfl rfl rfl ?_
              refine doff rfl rfl rfl rfl ?_
              refine doff rfl rfl rfl rfl ?_
              refine doff rfl rfl rfl rfl ?_
              refine doff rfl rfl rfl rfl ?_
              refine doff rfl rfl rfl rfl ?_
              refine doff rfl rfl rfl rfl ?_
              refine dv rfl (opv_pick_f rfl rfl) ?_
              refine dv rfl (opv_mv rfl) ?_
              refine doff rfl rfl rfl rfl ?_
              refine doff rfl rfl rfl rfl ?_
              refine doff rfl rfl rfl rfl ?_
              refine doff rfl rfl rfl rfl ?_
              refine doff rfl rfl rfl rfl ?_
              refine doff rfl rfl rfl rfl ?_
              refine dv rfl (opv_pick_f rfl rfl) ?_
              refine dv rfl (opv_as rfl) ?_
              refine dnil ?_
              refine then_normal ?_
              refine cret ?_
              obtain rfl := Option.some.inj h
              refine ⟨Or.inr rfl, _, _, _, (resVs_cons (ResV.tmp _ _ rfl) resVs_nil), (pubA_id rfl), ?_⟩
              rfl
          · replace h := ite_f hc h
            clear hc
            refine doff rfl rfl rfl rfl ?_
            refine doff rfl rfl rfl rfl ?_
            refine doff rfl rfl rfl rfl ?_
            refine doff rfl rfl rfl rfl ?_
            refine doff rfl rfl rfl rfl ?_
            refine doff rfl rfl rfl rfl ?_
            refine doff rfl rfl rfl rfl ?_
            refine doff rfl rfl rfl rfl ?_
            refine doff rfl rfl rfl rfl ?_
            refine doff rfl rfl rfl rfl ?_
            refine dv rfl (opv_pick_f rfl rfl) ?_
            refine dv rfl (opv_mv rfl) ?_
            refine doff rfl rfl rfl rfl ?_
            refine doff rfl rfl rfl rfl ?_
            refine doff rfl rfl rfl rfl ?_
            refine doff rfl rfl rfl rfl ?_
            refine doff rfl rfl rfl rfl ?_
            refine doff rfl rfl rfl rfl ?_
            refine doff rfl rfl rfl rfl ?_
            refine doff rfl rfl rfl rfl ?_
            refine dv rfl (opv_pick_f rfl rfl) ?_
            refine dv rfl (opv_mv rfl) ?_
            refine doff rfl rfl rfl rfl ?_
            refine doff rfl rfl rfl rfl ?_
            refine doff rfl rfl rfl rfl ?_
            refine doff rfl rfl rfl rfl ?_
            refine doff rfl rfl rfl rfl ?_
            refine doff rfl rfl rfl rfl ?_
            refine dv rfl (opv_pick_f rfl rfl) ?_
            refine dv rfl (opv_as rfl) ?_
            refine dnil ?_
            refine then_normal ?_
            refine cret ?_
            obtain rfl := Option.some.inj h
            refine ⟨Or.inr rfl, _, _, _, (resVs_cons (ResV.tmp _ _ rfl) resVs_nil), (pubA_id rfl), ?_⟩
            rfl
        · replace h := ite_f hc h
          clear hc
          refine doff rfl rfl rfl rfl ?_
          refine doff rfl rfl rfl rfl ?_
          refine doff rfl rfl rfl rfl ?_
          refine doff rfl rfl rfl rfl ?_
          refine doff rfl rfl rfl rfl ?_
          refine dv rfl (opv_pick_f rfl rfl) ?_
          refine dv rfl (opv_mv rfl) ?_
          refine doff rfl rfl rfl rfl ?_
          refine doff rfl rfl rfl rfl ?_
          refine doff rfl rfl rfl rfl ?_
          refine doff rfl rfl rfl rfl ?_
          refine doff rfl rfl rfl rfl ?_
          refine doff rfl rfl rfl rfl ?_
          refine doff rfl rfl rfl rfl ?_
          refine doff rfl rfl rfl rfl ?_
          refine doff rfl rfl rfl rfl ?_
          refine doff rfl rfl rfl rfl ?_
          refine dv rfl (opv_pick_f rfl rfl) ?_
          refine dv rfl (opv_mv rfl) ?_
          refine doff rfl rfl rfl rfl ?_
          refine doff rfl rfl rfl rfl ?_
          refine doff rfl rfl rfl rfl ?_
          refine doff rfl rfl rfl rfl ?_
          refine doff rfl rfl rfl rfl ?_
          refine doff rfl rfl rfl rfl ?_
          refine doff rfl rfl rfl rfl ?_
          refine doff rfl rfl rfl rfl ?_
          refine dv rfl (opv_pick_f rfl rfl) ?_
          refine dv rfl (opv_mv rfl) ?_
          refine doff rfl rfl rfl rfl ?_
          refine doff rfl rfl rfl rfl ?_
          refine doff rfl rfl rfl rfl ?_
          refine doff rfl rfl rfl rfl ?_
          refine doff rfl rfl rfl rfl ?_
          refine doff rfl rfl rfl rfl ?_
          refine dv rfl (opv_pick_f rfl rfl) ?_
          refine dv rfl (opv_as rfl) ?_
          refine dnil ?_
          refine then_normal ?_
          refine cret ?_
          obtain rfl := Option.some.inj h
          refine ⟨Or.inr rfl, _, _, _, (resVs_cons (ResV.tmp _ _ rfl) resVs_nil), (pubA_id rfl), ?_⟩
          rfl
      · replace h := ite_f hc h
        clear hc
        refine doff rfl rfl rfl rfl ?_
        refine doff rfl rfl rfl rfl ?_
        refine doff rfl rfl rfl rfl ?_
        refine doff rfl rfl rfl rfl ?_
        refine doff rfl rfl rfl rfl ?_
        refine dv rfl (opv_pick_f rfl rfl) ?_
        refine dv rfl (opv_mv rfl) ?_
        refine doff rfl rfl rfl rfl ?_
        refine doff rfl rfl rfl rfl ?_
        refine doff rfl rfl rfl rfl ?_
        refine doff rfl rfl rfl rfl ?_
        refine doff rfl rfl rfl rfl ?_
        refine dv rfl (opv_pick_f rfl rfl) ?_
        refine dv rfl (opv_mv rfl) ?_
        refine doff rfl rfl rfl rfl ?_
        refine doff rfl rfl rfl rfl ?_
        refine doff rfl rfl rfl rfl ?_
        refine doff rfl rfl rfl rfl ?_
        refine doff rfl rfl rfl rfl ?_
        refine doff rfl rfl rfl rfl ?_
        refine doff rfl rfl rfl rfl ?_
        refine doff rfl rfl rfl rfl ?_
        refine doff rfl rfl rfl rfl ?_
        refine doff rfl rfl rfl rfl ?_
        refine dv rfl (opv_pick_f rfl rfl) ?_
        refine dv rfl (opv_mv rfl) ?_
        refine doff rfl rfl rfl rfl ?_
        refine doff rfl rfl rfl rfl ?_
        refine doff rfl rfl rfl rfl ?_
        refine doff rfl rfl rfl rfl ?_
        refine doff rfl rfl rfl rfl ?_
        refine doff rfl rfl rfl rfl ?_
        refine doff rfl rfl rfl rfl ?_
        refine doff rfl rfl rfl rfl ?_
        refine dv rfl (opv_pick_f rfl rfl) ?_
        refine dv rfl (opv_mv rfl) ?_
        refine doff rfl rfl rfl rfl ?_
        refine doff rfl rfl rfl rfl ?_
        refine doff rfl rfl rfl rfl ?_
        refine doff rfl rfl rfl rfl ?_
        refine doff rfl rfl rfl rfl ?_
        refine doff rfl rfl rfl rfl ?_
        refine dv rfl (opv_pick_f rfl rfl) ?_
        refine dv rfl (opv_as rfl) ?_
        refine dnil ?_
        refine then_normal ?_
        refine cret ?_
        obtain rfl := Option.some.inj h
        refine ⟨Or.inr rfl, _, _, _, (resVs_cons (ResV.tmp _ _ rfl) resVs_nil), (pubA_id rfl), ?_⟩
        rfl
    · skip
      refine cdraw mixed (by kernel_rfl) ?_
      refine dv rfl (opv_loadN ti34 rfl (.lp _ _ _ rfl) (Nat.le_of_ble_eq_true rfl)) ?_
      refine dd rfl (opD_bld (out := ([v4.1] : List GChainVer).flatMap eGChainVer) Try.underlying30 ei34 (parts_cons rfl parts_nil) (.cons _ _ _ _ _ _ _ rfl rfl (Nat.le_of_ble_eq_true rfl) (.nil _)) rfl (by decide)) ?_
      obtain ⟨v26, hv26, h⟩ := bind_eq h
      refine dd rfl (opD_call fn19 (opnds_cons rfl opnds_nil) rfl (m19_l07_theirs_c hv26)) ?_
      refine dv rfl (opv_loadN ti27 rfl (.lp _ _ _ rfl) (Nat.le_of_ble_eq_true rfl)) ?_
      refine dd rfl (opD_bld (out := ([v5.1] : List GR07Ver).flatMap eGR07Ver) Try.underlying22 ei27 (parts_cons rfl parts_nil) (.cons _ _ _ _ _ _ _ rfl rfl (Nat.le_of_ble_eq_true rfl) (.nil _)) rfl (by decide)) ?_
      obtain ⟨v27, hv27, h⟩ := bind_eq h
      refine dd rfl (opD_call fn18 (opnds_cons rfl (opnds_cons rfl opnds_nil)) rfl (m18_r07_Same_c hv27)) ?_
      refine dv rfl (opv_not rfl) ?_
      refine dv rfl (opv_mv rfl) ?_
      refine dsplit 78 rfl (fun hc => ?_) (fun hc => ?_)
      · replace h := ite_t hc h
        clear hc
        refine doff rfl rfl rfl rfl ?_
        refine doff rfl rfl rfl rfl ?_
        refine doff rfl rfl rfl rfl ?_
        refine dv rfl (opv_pick_t rfl rfl) ?_
        refine dv rfl (opv_mv rfl) ?_
        refine doff rfl rfl rfl rfl ?_
        refine doff rfl rfl rfl rfl ?_
        refine doff rfl rfl rfl rfl ?_
        refine doff rfl rfl rfl rfl ?_
        refine doff rfl rfl rfl rfl ?_
        refine dv rfl (opv_pick_t rfl rfl) ?_
        refine dv rfl (opv_mv rfl) ?_
        refine doff rfl rfl rfl rfl ?_
        refine doff rfl rfl rfl rfl ?_
        refine doff rfl rfl rfl rfl ?_
        refine dv rfl (opv_pick_t rfl rfl) ?_
        refine dv rfl (opv_mv rfl) ?_
        refine doff rfl rfl rfl rfl ?_
        refine doff rfl rfl rfl rfl ?_
        refine doff rfl rfl rfl rfl ?_
        refine doff rfl rfl rfl rfl ?_
        refine doff rfl rfl rfl rfl ?_
        refine doff rfl rfl rfl rfl ?_
        refine doff rfl rfl rfl rfl ?_
        refine dv rfl (opv_pick_t rfl rfl) ?_
        refine dv rfl (opv_mv rfl) ?_
        refine doff rfl rfl rfl rfl ?_
        refine doff rfl rfl rfl rfl ?_
        refine doff rfl rfl rfl rfl ?_
        refine dv rfl (opv_pick_t rfl rfl) ?_
        refine dnil ?_
        refine then_normal ?_
        refine ccond rfl (fun _ => ?_) (fun hx => Bool.noConfusion hx)
        refine cseq ?_
        refine cregion ?_
        refine sv rfl (opv_as rfl) ?_
        refine snil ?_
        refine cret ?_
        refine then_ret ?_
        obtain rfl := Option.some.inj h
        refine ⟨Or.inr rfl, _, _, _, (resVs_cons (ResV.tmp _ _ rfl) resVs_nil), (pubA_id rfl), ?_⟩
        rfl
      · replace h := ite_f hc h
        clear hc
        refine dvg rfl rfl rfl (opv_mv rfl) ?_
        refine dvg rfl rfl rfl (opv_mv rfl) ?_
        refine dvg rfl rfl rfl (opv_bneq Try.underlying4 rfl rfl) ?_
        refine dv rfl (opv_pick_f rfl rfl) ?_
        refine dv rfl (opv_mv rfl) ?_
        refine dsplit 83 rfl (fun hc => ?_) (fun hc => ?_)
        · replace h := ite_t hc h
          clear hc
          refine doff rfl rfl rfl rfl ?_
          refine doff rfl rfl rfl rfl ?_
          refine doff rfl rfl rfl rfl ?_
          refine doff rfl rfl rfl rfl ?_
          refine doff rfl rfl rfl rfl ?_
          refine dv rfl (opv_pick_t rfl rfl) ?_
          refine dv rfl (opv_mv rfl) ?_
          refine doff rfl rfl rfl rfl ?_
          refine doff rfl rfl rfl rfl ?_
          refine doff rfl rfl rfl rfl ?_
          refine dv rfl (opv_pick_t rfl rfl) ?_
          refine dv rfl (opv_mv rfl) ?_
          refine doff rfl rfl rfl rfl ?_
          refine doff rfl rfl rfl rfl ?_
          refine doff rfl rfl rfl rfl ?_
          refine doff rfl rfl rfl rfl ?_
          refine doff rfl rfl rfl rfl ?_
          refine doff rfl rfl rfl rfl ?_
          refine doff rfl rfl rfl rfl ?_
          refine dv rfl (opv_pick_t rfl rfl) ?_
          refine dv rfl (opv_mv rfl) ?_
          refine doff rfl rfl rfl rfl ?_
          refine doff rfl rfl rfl rfl ?_
          refine doff rfl rfl rfl rfl ?_
          refine dv rfl (opv_pick_t rfl rfl) ?_
          refine dnil ?_
          refine then_normal ?_
          refine ccond rfl (fun _ => ?_) (fun hx => Bool.noConfusion hx)
          refine cseq ?_
          refine cregion ?_
          refine sv rfl (opv_as rfl) ?_
          refine snil ?_
          refine cret ?_
          refine then_ret ?_
          obtain rfl := Option.some.inj h
          refine ⟨Or.inr rfl, _, _, _, (resVs_cons (ResV.tmp _ _ rfl) resVs_nil), (pubA_id rfl), ?_⟩
          rfl
        · replace h := ite_f hc h
          clear hc
          refine dvg rfl rfl rfl (opv_mv rfl) ?_
          refine dvg rfl rfl rfl (opv_bs (l := v6.1) Try.underlying25 Try.underlying5 Try.underlying9 rfl rfl rfl) ?_
          refine dvg rfl rfl rfl (opv_mv rfl) ?_
          refine dvg rfl rfl rfl (opv_bs (l := v7.1) Try.underlying25 Try.underlying5 Try.underlying9 rfl rfl rfl) ?_
          refine dvg rfl rfl rfl (opv_sneq' rfl rfl) ?_
          refine dv rfl (opv_pick_f rfl rfl) ?_
          refine dv rfl (opv_mv rfl) ?_
          refine dsplit 90 rfl (fun hc => ?_) (fun hc => ?_)
          · replace h := ite_t hc h
            clear hc
            refine doff rfl rfl rfl rfl ?_
            refine doff rfl rfl rfl rfl ?_
            refine doff rfl rfl rfl rfl ?_
            refine dv rfl (opv_pick_t rfl rfl) ?_
            refine dv rfl (opv_mv rfl) ?_
            refine doff rfl rfl rfl rfl ?_
            refine doff rfl rfl rfl rfl ?_
            refine doff rfl rfl rfl rfl ?_
            refine doff rfl rfl rfl rfl ?_
            refine doff rfl rfl rfl rfl ?_
            refine doff rfl rfl rfl rfl ?_
            refine doff rfl rfl rfl rfl ?_
            refine dv rfl (opv_pick_t rfl rfl) ?_
            refine dv rfl (opv_mv rfl) ?_
            refine doff rfl rfl rfl rfl ?_
            refine doff rfl rfl rfl rfl ?_
            refine doff rfl rfl rfl rfl ?_
            refine dv rfl (opv_pick_t rfl rfl) ?_
            refine dnil ?_
            refine then_normal ?_
            refine ccond rfl (fun _ => ?_) (fun hx => Bool.noConfusion hx)
            refine cseq ?_
            refine cregion ?_
            refine sv rfl (opv_as rfl) ?_
            refine snil ?_
            refine cret ?_
            refine then_ret ?_
            obtain rfl := Option.some.inj h
            refine ⟨Or.inr rfl, _, _, _, (resVs_cons (ResV.tmp _ _ rfl) resVs_nil), (pubA_id rfl), ?_⟩
            rfl
          · replace h := ite_f hc h
            clear hc
            refine dvg rfl rfl rfl (opv_mv rfl) ?_
            refine dvg rfl rfl rfl (opv_mv rfl) ?_
            refine dvg rfl rfl rfl (opv_bneq Try.underlying4 rfl rfl) ?_
            refine dv rfl (opv_pick_f rfl rfl) ?_
            refine dv rfl (opv_mv rfl) ?_
            refine dsplit 95 rfl (fun hc => ?_) (fun hc => ?_)
            · replace h := ite_t hc h
              clear hc
              refine doff rfl rfl rfl rfl ?_
              refine doff rfl rfl rfl rfl ?_
              refine doff rfl rfl rfl rfl ?_
              refine doff rfl rfl rfl rfl ?_
              refine doff rfl rfl rfl rfl ?_
              refine doff rfl rfl rfl rfl ?_
              refine doff rfl rfl rfl rfl ?_
              refine dv rfl (opv_pick_t rfl rfl) ?_
              refine dv rfl (opv_mv rfl) ?_
              refine doff rfl rfl rfl rfl ?_
              refine doff rfl rfl rfl rfl ?_
              refine doff rfl rfl rfl rfl ?_
              refine dv rfl (opv_pick_t rfl rfl) ?_
              refine dnil ?_
              refine then_normal ?_
              refine ccond rfl (fun _ => ?_) (fun hx => Bool.noConfusion hx)
              refine cseq ?_
              refine cregion ?_
              refine sv rfl (opv_as rfl) ?_
              refine snil ?_
              refine cret ?_
              refine then_ret ?_
              obtain rfl := Option.some.inj h
              refine ⟨Or.inr rfl, _, _, _, (resVs_cons (ResV.tmp _ _ rfl) resVs_nil), (pubA_id rfl), ?_⟩
              rfl
            · replace h := ite_f hc h
              clear hc
              refine dvg rfl rfl rfl (opv_fieldAddr_lp fi32_0 rfl) ?_
              refine dvg rfl rfl rfl (opv_load1 ti30 rfl (.lp _ _ _ rfl) rfl) ?_
              obtain ⟨v28, hv28, h⟩ := bind_eq h
              refine ddg rfl rfl rfl (opD_call fn19 (opnds_cons rfl opnds_nil) rfl (m19_l07_theirs_c hv28)) ?_
              refine dvg rfl rfl rfl (opv_fieldAddr_lp fi24_0 rfl) ?_
              refine dvg rfl rfl rfl (opv_load1 ti22 rfl (.lp _ _ _ rfl) rfl) ?_
              obtain ⟨v29, hv29, h⟩ := bind_eq h
              refine ddg rfl rfl rfl (opD_call fn18 (opnds_cons rfl (opnds_cons rfl opnds_nil)) rfl (m18_r07_Same_c hv29)) ?_
              refine dvg rfl rfl rfl (opv_not rfl) ?_
              refine dv rfl (opv_pick_f rfl rfl) ?_
              refine dv rfl (opv_mv rfl) ?_
              refine dsplit 104 rfl (fun hc => ?_) (fun hc => ?_)
              · replace h := ite_t hc h
                clear hc
                refine doff rfl rfl rfl rfl ?_
                refine doff rfl rfl rfl rfl ?_
                refine doff rfl rfl rfl rfl ?_
                refine dv rfl (opv_pick_t rfl rfl) ?_
                refine dnil ?_
                refine then_normal ?_
                refine ccond rfl (fun _ => ?_) (fun hx => Bool.noConfusion hx)
                refine cseq ?_
                refine cregion ?_
                refine sv rfl (opv_as rfl) ?_
                refine snil ?_
                refine cret ?_
                refine then_ret ?_
                obtain rfl := Option.some.inj h
                refine ⟨Or.inr rfl, _, _, _, (resVs_cons (ResV.tmp _ _ rfl) resVs_nil), (pubA_id rfl), ?_⟩
                rfl
              · replace h := ite_f hc h
                clear hc
                refine dvg rfl rfl rfl (opv_mv rfl) ?_
                refine dvg rfl rfl rfl (opv_mv rfl) ?_
                refine dvg rfl rfl rfl (opv_ineq rfl rfl) ?_
                refine dv rfl (opv_pick_f rfl rfl) ?_
                refine dnil ?_
                refine then_normal ?_
                refine ccond rfl (fun hc => ?_) (fun hc => ?_)
                · replace h := ite_t hc h
                  clear hc
                  refine cseq ?_
                  refine cregion ?_
                  refine sv rfl (opv_as rfl) ?_
                  refine snil ?_
                  refine cret ?_
                  refine then_ret ?_
                  obtain rfl := Option.some.inj h
                  refine ⟨Or.inr rfl, _, _, _, (resVs_cons (ResV.tmp _ _ rfl) resVs_nil), (pubA_id rfl), ?_⟩
                  rfl
                · replace h := ite_f hc h
                  clear hc
                  refine cskip ?_
                  refine then_normal ?_
                  exact ⟨(), _, h, ⟨rfl, rfl, rfl, rfl, trivial⟩, rfl⟩
  · skip
    refine cregion ?_
    refine sv rfl (opv_loadN ti24 rfl (.lp _ _ _ rfl) (Nat.le_of_ble_eq_true rfl)) ?_
    obtain ⟨v30, hv30, h⟩ := bind_eq h
    refine scall1 rfl fn9 (opnds_cons rfl opnds_nil) (pubA_id rfl) (m9_r07_Few_c hv30) ?_
    refine sv rfl (opv_not rfl) ?_
    refine sv rfl (opv_mv rfl) ?_
    refine ssplit 25 rfl (fun hc => ?_) (fun hc => ?_)
    · replace h := ite_t hc h
      clear hc
      refine soff rfl rfl rfl rfl ?_
      refine soff rfl rfl rfl rfl ?_
      refine soff rfl rfl rfl rfl ?_
      refine soff rfl rfl rfl rfl ?_
      refine sv rfl (opv_pick_t rfl rfl) ?_
      refine snil ?_
      refine ccond rfl (fun _ => ?_) (fun hx => Bool.noConfusion hx)
      refine cseq ?_
      refine cregion ?_
      refine sv rfl (opv_mv rfl) ?_
      refine sv rfl (opv_as rfl) ?_
      refine snil ?_
      refine cret ?_
      refine then_ret ?_
      obtain rfl := Option.some.inj h
      refine ⟨Or.inr rfl, _, _, _, (resVs_cons (ResV.tmp _ _ rfl) resVs_nil), (pubA_id rfl), ?_⟩
      rfl
    · replace h := ite_f hc h
      clear hc
      refine son rfl rfl rfl ?_
      refine sv rfl (opv_fieldAddr_lp fi27_1 rfl) ?_
      refine son rfl rfl rfl ?_
      refine sv rfl (opv_load1 ti25 rfl (.lp _ _ _ rfl) rfl) ?_
      refine son rfl rfl rfl ?_
      refine sv rfl (opv_len_sl si25 rfl) ?_
      refine son rfl rfl rfl ?_
      refine sv rfl (opv_gtr rfl rfl) ?_
      refine sv rfl (opv_pick_f rfl rfl) ?_
      refine snil ?_
      refine ccond rfl (fun hc => ?_) (fun hc => ?_)
      · replace h := ite_t hc h
        clear hc
        refine cseq ?_
        refine cregion ?_
        refine sv rfl (opv_mv rfl) ?_
        refine sv rfl (opv_as rfl) ?_
        refine snil ?_
        refine cret ?_
        refine then_ret ?_
        obtain rfl := Option.some.inj h
        refine ⟨Or.inr rfl, _, _, _, (resVs_cons (ResV.tmp _ _ rfl) resVs_nil), (pubA_id rfl), ?_⟩
        rfl
      · replace h := ite_f hc h
        clear hc
        refine cskip ?_
        refine then_normal ?_
        exact ⟨(), _, h, ⟨rfl, rfl, rfl, rfl, trivial⟩, rfl⟩

def m28_l07_grown_k1 (b1 : (List GChainVer)) : Option GChainChain :=
  some (GChainChain.mk b1)

def m28_l07_grown_s2 (a0 : List GR07Ver) (s2 : Int × (List GChainVer)) : Option (LB (Int × (List GChainVer)) ((List GChainVer))) :=
  if (decide (s2.1 < (a0.length : Int))) then ((idx a0 s2.1).bind fun u3 => (m16_l07_ver u3).bind fun v4 => (m15_chain_Push (GChainChain.mk s2.2) v4).bind fun v5 => if (decide (v5.2 = 0)) then (some (.cont ((wI (s2.1 + 1)), v5.1.L))) else (some (.cont ((wI (s2.1 + 1)), s2.2)))) else (some (.brk s2.2))
def m28_l07_grown (a0 : List GR07Ver) : Option GChainChain :=
  (iterB (m28_l07_grown_s2 a0) fuel (0, ([] : List GChainVer))).bind fun e6 => m28_l07_grown_k1 e6

set_option maxRecDepth 100000 in
theorem m28_l07_grown_c {a0 : List GR07Ver} {r : GChainChain} (h : m28_l07_grown a0 = some r) : CallsA Try.prog 28 [.one (.sl a0.length (a0.flatMap eGR07Ver))] (· = .s (.agg [.sl r.L.length (r.L.flatMap eGChainVer)])) := by
  unfold m28_l07_grown at h
  refine callsA_of Try.func28 rfl (nt := 28) rfl (Nat.le_of_ble_eq_true rfl) ?_
  intro w0 S0
  refine cseq ?_
  refine cregion ?_
  refine salloc rfl zi32 ?_
  refine snil ?_
  refine cseq ?_
  refine cregion ?_
  refine sv rfl (opv_build zi32 pi32 parts_nil (.nil _)) ?_
  refine salloc rfl zi32 ?_
  refine sstore sz32 rfl rfl rfl rfl (Nat.le_of_ble_eq_true rfl) ?_
  refine smem [.box [.raw (.slice none 0 0)], .box [.raw (.slice none 0 0)]] rfl ?_
  refine snil ?_
  refine cseq ?_
  refine cseq ?_
  refine cregion ?_
  refine sv rfl (opv_as rfl) ?_
  refine snil ?_
  refine cjoin ((List GChainVer)) (fun b1 => [(2, .s (.one (.lp 0 0))), (3, .s (.one (.lp 1 0)))]) (fun b1 => [.box [.raw (.slice none 0 0)], .box [.sl b1.length (b1.flatMap eGChainVer)]]) (fun b1 => m28_l07_grown_k1 b1 = some r) (fun _ _ => inbL_of rfl) (fun _ _ => blkinb_of rfl) (fun _ _ => Nat.le_of_ble_eq_true rfl) (fun b1 h => ?_) ?_
  · unfold m28_l07_grown_k1 at h
    refine cseq ?_
    refine cregion ?_
    refine sv rfl (opv_loadN ti32 rfl (.lp _ _ _ rfl) (Nat.le_of_ble_eq_true rfl)) ?_
    refine sstore sz32 rfl rfl rfl rfl (Nat.le_of_ble_eq_true rfl) ?_
    refine smem [.box [.sl b1.length (b1.flatMap eGChainVer)], .box [.sl b1.length (b1.flatMap eGChainVer)]] rfl ?_
    refine snil ?_
    refine cret ?_
    obtain rfl := Option.some.inj h
    refine ⟨Or.inr rfl, _, _, _, (resVs_cons (ResV.agg _ _ _ _ _ ti32 rfl (.lp _ _ _ rfl) (Nat.le_of_ble_eq_true rfl)) resVs_nil), (pubA_id rfl), ?_⟩
    rfl
  · skip
    refine cblock ?_
    refine cpubbox 1 0 rfl rfl PubL.nil rfl ?_
    obtain ⟨x2, hx2, ho2⟩ := bind_eq h
    refine awc_loop (G := Nat × (Int × (List GChainVer))) (fun g => [(0, .s (.one (.sl a0.length (a0.flatMap eGR07Ver)))), (2, .s (.one (.lp 0 0))), (3, .s (.one (.lp 1 0))), (4, .s (.one (.i .i64 g.2.1)))]) (fun g => [.box [.raw (.slice none 0 0)], .box [.sl g.2.2.length (g.2.2.flatMap eGChainVer)]]) (fun g => iterB (m28_l07_grown_s2 a0) g.1 g.2 = some x2) (fun g => g.1) (fuel, (0, ([] : List GChainVer))) hx2 ⟨rfl, rfl, rfl, rfl, trivial⟩ [] rfl (fun _ _ => inbL_of rfl) (fun _ _ => blkinb_of rfl) (fun _ _ => Nat.le_of_ble_eq_true rfl) ?_
    clear hx2 h
    rintro ⟨n2, s2⟩ h
    obtain ⟨n2, y2, rfl, h, hk2⟩ := iterB_eq h
    unfold m28_l07_grown_s2 at h
    refine cseq ?_
    refine cseq ?_
    refine cregion ?_
    refine sv rfl (opv_mv rfl) ?_
    refine sv rfl (opv_mv rfl) ?_
    refine sv rfl (opv_len_sl si22 rfl) ?_
    refine sv rfl (opv_lss rfl rfl) ?_
    refine snil ?_
    refine ccond rfl (fun hc => ?_) (fun hc => ?_)
    · replace h := ite_t hc h
      clear hc
      refine cskip ?_
      refine then_normal ?_
      refine cseq ?_
      refine cblock ?_
      refine cseq ?_
      refine chole ?_
      obtain ⟨u3, hu3, h⟩ := bind_eq h
      obtain ⟨v4, hv4, h⟩ := bind_eq h
      obtain ⟨v5, hv5, h⟩ := bind_eq h
      refine cdraw_e [10, 11] [0, 0, 0, 6, 14, 30, 63, 127, 255, 255, 0, 1535, 4095] [[.box [.raw (.slice none 0 0)], .box [.sl s2.2.length (s2.2.flatMap eGChainVer)], .hole], [.box [.raw (.slice none 0 0)], .box [.sl s2.2.length (s2.2.flatMap eGChainVer)], .box [.raw (.slice none 0 0)]], [.box [.raw (.slice none 0 0)], .box [.sl s2.2.length (s2.2.flatMap eGChainVer)], .box [.sl v5.1.L.length (v5.1.L.flatMap eGChainVer)]]] (by kernel_rfl) mixed (by kernel_rfl) (by decide) rfl rfl rfl rfl ?_
      refine ev (sees_all (md := [.box [.raw (.slice none 0 0)], .box [.sl s2.2.length (s2.2.flatMap eGChainVer)], .dead]) ⟨⟨rfl, ⟨rfl, ⟨trivial, trivial⟩⟩⟩, ⟨⟨rfl, ⟨rfl, ⟨trivial, trivial⟩⟩⟩, ⟨⟨rfl, ⟨rfl, ⟨trivial, trivial⟩⟩⟩, trivial⟩⟩⟩) rfl rfl (opv_loadN ti32 rfl (.lp _ _ _ rfl) (Nat.le_of_ble_eq_true rfl)) ?_
      refine emv rfl rfl (fun _ => opv_mv rfl) ?_
      refine emv rfl rfl (fun _ => opv_mv rfl) ?_
      refine ev (sees_all (md := [.box [.raw (.slice none 0 0)], .box [.sl s2.2.length (s2.2.flatMap eGChainVer)], .dead]) ⟨⟨rfl, ⟨rfl, ⟨trivial, trivial⟩⟩⟩, ⟨⟨rfl, ⟨rfl, ⟨trivial, trivial⟩⟩⟩, ⟨⟨rfl, ⟨rfl, ⟨trivial, trivial⟩⟩⟩, trivial⟩⟩⟩) rfl rfl (opv_ix (f := eGR07Ver) si22 (fun _ => rfl) rfl rfl rfl rfl hu3) ?_
      refine ev (sees_all (md := [.box [.raw (.slice none 0 0)], .box [.sl s2.2.length (s2.2.flatMap eGChainVer)], .dead]) ⟨⟨rfl, ⟨rfl, ⟨trivial, trivial⟩⟩⟩, ⟨⟨rfl, ⟨rfl, ⟨trivial, trivial⟩⟩⟩, ⟨⟨rfl, ⟨rfl, ⟨trivial, trivial⟩⟩⟩, trivial⟩⟩⟩) rfl rfl (opv_loadNe (ys := [.i .i64 u3.Ts, .sl u3.Val.length (u3.Val.flatMap eU8), .b u3.Del]) ti27 rfl (.cp _) rfl rfl) ?_
      refine ed (sees_all (md := [.box [.raw (.slice none 0 0)], .box [.sl s2.2.length (s2.2.flatMap eGChainVer)], .dead]) ⟨⟨rfl, ⟨rfl, ⟨trivial, trivial⟩⟩⟩, ⟨⟨rfl, ⟨rfl, ⟨trivial, trivial⟩⟩⟩, ⟨⟨rfl, ⟨rfl, ⟨trivial, trivial⟩⟩⟩, trivial⟩⟩⟩) rfl rfl (opD_call fn16 (opnds_cons rfl opnds_nil) rfl (m16_l07_ver_c hv4)) ?_
      refine ed (sees_all (md := [.box [.raw (.slice none 0 0)], .box [.sl s2.2.length (s2.2.flatMap eGChainVer)], .dead]) ⟨⟨rfl, ⟨rfl, ⟨trivial, trivial⟩⟩⟩, ⟨⟨rfl, ⟨rfl, ⟨trivial, trivial⟩⟩⟩, ⟨⟨rfl, ⟨rfl, ⟨trivial, trivial⟩⟩⟩, trivial⟩⟩⟩) rfl rfl (opD_call fn15 (opnds_cons rfl (opnds_cons rfl opnds_nil)) rfl (m15_chain_Push_c hv5)) ?_
      refine emv rfl rfl (fun _ => opv_mvt rfl) ?_
      refine ev (sees_all (md := [.box [.raw (.slice none 0 0)], .box [.sl s2.2.length (s2.2.flatMap eGChainVer)], .dead]) ⟨⟨rfl, ⟨rfl, ⟨trivial, trivial⟩⟩⟩, ⟨⟨rfl, ⟨rfl, ⟨trivial, trivial⟩⟩⟩, ⟨⟨rfl, ⟨rfl, ⟨trivial, trivial⟩⟩⟩, trivial⟩⟩⟩) rfl rfl (opv_extract rfl rfl) ?_
      refine ev (sees_all (md := [.box [.raw (.slice none 0 0)], .box [.sl s2.2.length (s2.2.flatMap eGChainVer)], .dead]) ⟨⟨rfl, ⟨rfl, ⟨trivial, trivial⟩⟩⟩, ⟨⟨rfl, ⟨rfl, ⟨trivial, trivial⟩⟩⟩, ⟨⟨rfl, ⟨rfl, ⟨trivial, trivial⟩⟩⟩, trivial⟩⟩⟩) rfl rfl (opv_extract rfl rfl) ?_
      refine ee (x := .s (.one (.lp 2 0))) 0 rfl rfl rfl rfl rfl (fun ζ => ?_) ?_
      · refine salloc_at 2 rfl zi32 rfl ?_
        exact eend
      refine ee0 1 rfl rfl rfl rfl (fun ζ => ?_) ?_
      · refine sstore sz32 rfl rfl rfl rfl (Nat.le_of_ble_eq_true rfl) ?_
        refine smem [.box [.raw (.slice none 0 0)], .box [.sl s2.2.length (s2.2.flatMap eGChainVer)], .box [.sl v5.1.L.length (v5.1.L.flatMap eGChainVer)]] rfl ?_
        exact eend
      refine ev (sees_at 2 rfl rfl) rfl rfl (opv_as rfl) ?_
      refine enil ?_
      refine then_normal ?_
      refine cseq ?_
      refine cregion ?_
      refine sv rfl (opv_mv rfl) ?_
      refine sv rfl (opv_ieql rfl rfl) ?_
      refine snil ?_
      refine ccond rfl (fun hc => ?_) (fun hc => ?_)
      · replace h := ite_t hc h
        clear hc
        refine cregion ?_
        refine sv rfl (opv_loadN ti32 rfl (.lp _ _ _ rfl) (Nat.le_of_ble_eq_true rfl)) ?_
        refine sstore sz32 rfl rfl rfl rfl (Nat.le_of_ble_eq_true rfl) ?_
        refine smem [.box [.raw (.slice none 0 0)], .box [.sl v5.1.L.length (v5.1.L.flatMap eGChainVer)], .box [.sl v5.1.L.length (v5.1.L.flatMap eGChainVer)]] rfl ?_
        refine snil0 ?_
        refine block_normal ?_
        refine then_normal ?_
        refine cregion ?_
        refine sv rfl (opv_mv rfl) ?_
        refine sv rfl (opv_add rfl rfl) ?_
        refine sv rfl (opv_as rfl) ?_
        refine snil ?_
        obtain rfl := Option.some.inj h
        exact ⟨(n2, ((wI (s2.1 + 1)), v5.1.L)), _, hk2, ⟨rfl, rfl, rfl, rfl, trivial⟩, rfl, Nat.lt_succ_self _⟩
      · replace h := ite_f hc h
        clear hc
        refine cskip ?_
        refine block_normal ?_
        refine then_normal ?_
        refine cregion ?_
        refine sv rfl (opv_mv rfl) ?_
        refine sv rfl (opv_add rfl rfl) ?_
        refine sv rfl (opv_as rfl) ?_
        refine snil ?_
        obtain rfl := Option.some.inj h
        exact ⟨(n2, ((wI (s2.1 + 1)), s2.2)), _, hk2, ⟨rfl, rfl, rfl, rfl, trivial⟩, rfl, Nat.lt_succ_self _⟩
    · replace h := ite_f hc h
      clear hc
      refine cexit ?_
      refine then_exit ?_
      refine then_exit ?_
      refine block_hit ?_
      refine then_normal ?_
      obtain rfl := Option.some.inj h
      obtain rfl : _ = x2 := hk2
      exact ⟨s2.2, _, ho2, ⟨rfl, rfl, trivial⟩, rfl⟩

def m4_l07_ChainVacuum_k8 (a1 : Int) (v1 : Bool) (v3 : GChainChain) (v4 : GChainChain) (v5 : (List UInt8) × Bool) (v6 : (List UInt8) × Bool) (b7 : Int) (b8 : Bool) : Option Bool :=
  if v1 then ((m20_chain_Sane v4).bind fun v9 => if v9 then (if (v5.1 == v6.1) then (if (v5.2 == v6.2) then (if (decide (b7 ≤ 1)) then (if b8 then ((m26_chain_Since v3 a1).bind fun v10 => (m19_l07_theirs v10).bind fun v11 => (m26_chain_Since v4 a1).bind fun v12 => (m19_l07_theirs v12).bind fun v13 => (m18_r07_Same v11 v13).bind fun v14 => if v14 then (some (decide ((v4.L.length : Int) ≤ (v3.L.length : Int)))) else (some false)) else (some false)) else (some false)) else (some false)) else (some false)) else (some false)) else (some false)

def m4_l07_ChainVacuum_k7 (a1 : Int) (v1 : Bool) (v3 : GChainChain) (v4 : GChainChain) (v5 : (List UInt8) × Bool) (v6 : (List UInt8) × Bool) (b7 : Int) : Option Bool :=
  if (decide ((v4.L.length : Int) = 0)) then (m4_l07_ChainVacuum_k8 a1 v1 v3 v4 v5 v6 b7 true) else ((idx v4.L 0).bind fun u15 => if (decide (a1 < u15.Ts)) then (m4_l07_ChainVacuum_k8 a1 v1 v3 v4 v5 v6 b7 true) else ((idx v4.L 0).bind fun u16 => m4_l07_ChainVacuum_k8 a1 v1 v3 v4 v5 v6 b7 (!u16.Del)))

def m4_l07_ChainVacuum_s17 (a1 : Int) (v4 : GChainChain) (s17 : Int × Int) : Option (LB (Int × Int) (Int)) :=
  if (decide (s17.2 < (v4.L.length : Int))) then ((idx v4.L s17.2).bind fun u18 => if (decide (u18.Ts ≤ a1)) then (some (.cont ((wI (s17.1 + 1)), (wI (s17.2 + 1))))) else (some (.cont (s17.1, (wI (s17.2 + 1)))))) else (some (.brk s17.1))
end Go.Proofs.Ytfecfgbiplaolaa.Abs
