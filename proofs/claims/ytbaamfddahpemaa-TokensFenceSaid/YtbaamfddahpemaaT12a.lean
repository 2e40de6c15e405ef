/-
  t
-/
import Derived.Test.YtbaamfddahpemaaAbsC
import Derived.Test.YtbaamfddahpemaaProg
namespace Go.Proofs.Ytbaamfddahpemaa.Abs
open Go.RowKit Go.Proofs
structure GL12Act where
  What : Int
  Tok : Int
  Attempt : Int
def eGL12Act (x : GL12Act) : List Lf := [.i .i64 x.What, .i .i64 x.Tok, .i .i64 x.Attempt]

structure GTokensEntry where
  Tok : Int
  Attempt : Int
  State : Int
  Ts : Int
def eGTokensEntry (x : GTokensEntry) : List Lf := [.i .i64 x.Tok, .i .i64 x.Attempt, .i .i64 x.State, .i .i64 x.Ts]

structure GTokensTable where
  L : List GTokensEntry
def eGTokensTable (x : GTokensTable) : List Lf := [.sl x.L.length (x.L.flatMap eGTokensEntry)]

theorem zi26 : ZI Try.prog 26 ([.raw (.slice none 0 0)]) := zi_of (by kernel_rfl)
theorem pi26 : PI Try.prog 26 [(0, 1)] := pi_of Try.underlying26 (by kernel_rfl) (by kernel_rfl)
theorem ti26 : TI Try.prog 26 true 1 := ⟨⟨_, Try.underlying26, rfl⟩, by kernel_rfl⟩
theorem fi26_0 : FI Try.prog 26 0 0 := ⟨⟨_, _, 1, Try.underlying26, rfl, rfl, by kernel_rfl, by decide⟩⟩
theorem ti24 : TI Try.prog 24 false 1 := ⟨⟨_, Try.underlying24, rfl⟩, by kernel_rfl⟩
theorem si24 : SI Try.prog 24 33 4 := ⟨Try.underlying24, by kernel_rfl, by decide⟩
theorem ti33 : TI Try.prog 33 true 4 := ⟨⟨_, Try.underlying33, rfl⟩, by kernel_rfl⟩
theorem zi33 : ZI Try.prog 33 ([.i .i64 0, .i .i64 0, .i .i64 0, .i .i64 0]) := zi_of (by kernel_rfl)
theorem sz33 : (Try.prog.info? 33).map (·.size) = some 4 := by kernel_rfl
theorem fi33_2 : FI Try.prog 33 2 2 := ⟨⟨_, _, 1, Try.underlying33, rfl, rfl, by kernel_rfl, by decide⟩⟩
theorem ti3 : TI Try.prog 3 false 1 := ⟨⟨_, Try.underlying3, rfl⟩, by kernel_rfl⟩
theorem fi33_0 : FI Try.prog 33 0 0 := ⟨⟨_, _, 1, Try.underlying33, rfl, rfl, by kernel_rfl, by decide⟩⟩
theorem fi33_1 : FI Try.prog 33 1 1 := ⟨⟨_, _, 1, Try.underlying33, rfl, rfl, by kernel_rfl, by decide⟩⟩
theorem fn17 : FnI Try.prog 17 := ⟨⟨_, Try.func17, by kernel_rfl, by kernel_rfl⟩⟩
theorem fi33_3 : FI Try.prog 33 3 3 := ⟨⟨_, _, 1, Try.underlying33, rfl, rfl, by kernel_rfl, by decide⟩⟩
theorem fn20 : FnI Try.prog 20 := ⟨⟨_, Try.func20, by kernel_rfl, by kernel_rfl⟩⟩
theorem fn16 : FnI Try.prog 16 := ⟨⟨_, Try.func16, by kernel_rfl, by kernel_rfl⟩⟩
theorem fn15 : FnI Try.prog 15 := ⟨⟨_, Try.func15, by kernel_rfl, by kernel_rfl⟩⟩
theorem fn10 : FnI Try.prog 10 := ⟨⟨_, Try.func10, by kernel_rfl, by kernel_rfl⟩⟩
theorem sz26 : (Try.prog.info? 26).map (·.size) = some 1 := by kernel_rfl
theorem pi33 : PI Try.prog 33 [(0, 1), (1, 1), (2, 1), (3, 1)] := pi_of Try.underlying33 (by kernel_rfl) (by kernel_rfl)
theorem fn9 : FnI Try.prog 9 := ⟨⟨_, Try.func9, by kernel_rfl, by kernel_rfl⟩⟩
theorem ei33 : EI Try.prog 33 4 32 [.i .i64 0, .i .i64 0, .i .i64 0, .i .i64 0] := ei_of (by kernel_rfl) (by decide)
theorem ni24 : NI Try.prog 24 := ⟨.inl ⟨_, Try.underlying24⟩⟩
theorem fn23 : FnI Try.prog 23 := ⟨⟨_, Try.func23, by kernel_rfl, by kernel_rfl⟩⟩
theorem fn21 : FnI Try.prog 21 := ⟨⟨_, Try.func21, by kernel_rfl, by kernel_rfl⟩⟩
theorem fn18 : FnI Try.prog 18 := ⟨⟨_, Try.func18, by kernel_rfl, by kernel_rfl⟩⟩
theorem fn12 : FnI Try.prog 12 := ⟨⟨_, Try.func12, by kernel_rfl, by kernel_rfl⟩⟩
theorem mixed : Try.prog.follows .mixedOrders = true := by kernel_rfl
theorem fn11 : FnI Try.prog 11 := ⟨⟨_, Try.func11, by kernel_rfl, by kernel_rfl⟩⟩
theorem fn14 : FnI Try.prog 14 := ⟨⟨_, Try.func14, by kernel_rfl, by kernel_rfl⟩⟩
theorem fn7 : FnI Try.prog 7 := ⟨⟨_, Try.func7, by kernel_rfl, by kernel_rfl⟩⟩
theorem si22 : SI Try.prog 22 28 3 := ⟨Try.underlying22, by kernel_rfl, by decide⟩
theorem fi28_0 : FI Try.prog 28 0 0 := ⟨⟨_, _, 1, Try.underlying28, rfl, rfl, by kernel_rfl, by decide⟩⟩
theorem ti28 : TI Try.prog 28 true 3 := ⟨⟨_, Try.underlying28, rfl⟩, by kernel_rfl⟩
theorem fi28_1 : FI Try.prog 28 1 1 := ⟨⟨_, _, 1, Try.underlying28, rfl, rfl, by kernel_rfl, by decide⟩⟩
theorem fi28_2 : FI Try.prog 28 2 2 := ⟨⟨_, _, 1, Try.underlying28, rfl, rfl, by kernel_rfl, by decide⟩⟩
theorem ei24 : EI Try.prog 24 1 24 [.raw (.slice none 0 0)] := ei_of (by kernel_rfl) (by decide)
theorem si52 : SI Try.prog 52 24 1 := ⟨Try.underlying52, by kernel_rfl, by decide⟩
theorem fn22 : FnI Try.prog 22 := ⟨⟨_, Try.func22, by kernel_rfl, by kernel_rfl⟩⟩
theorem fn19 : FnI Try.prog 19 := ⟨⟨_, Try.func19, by kernel_rfl, by kernel_rfl⟩⟩
theorem fn13 : FnI Try.prog 13 := ⟨⟨_, Try.func13, by kernel_rfl, by kernel_rfl⟩⟩
theorem fn8 : FnI Try.prog 8 := ⟨⟨_, Try.func8, by kernel_rfl, by kernel_rfl⟩⟩
theorem et33 : EqT Try.prog 33 [0, 0, 0, 0] := ⟨by kernel_rfl, by kernel_rfl, by kernel_rfl, by kernel_rfl⟩

def m17_tokens_saneName (a0 : Int) (a1 : Int) : Option Bool :=
  if (decide (0 ≤ a0)) then (if (decide (a0 ≤ 1099511627776)) then (if (decide (0 ≤ a1)) then (some (decide (a1 ≤ 65535))) else (some false)) else (some false)) else (some false)

set_option maxRecDepth 100000 in
theorem m17_tokens_saneName_c {a0 : Int} {a1 : Int} {r : Bool} (h : m17_tokens_saneName a0 a1 = some r) : CallsA Try.prog 17 [.one (.i .i64 a0), .one (.i .i64 a1)] (· = .s (.one (.b r))) := by
  unfold m17_tokens_saneName at h
  refine callsA_of Try.func17 rfl (nt := 19) rfl (Nat.le_of_ble_eq_true rfl) ?_
  intro w0 S0
  refine cseq ?_
  refine cregion ?_
  refine sv rfl (opv_as rfl) ?_
  refine snil ?_
  refine cseq ?_
  refine cregion ?_
  refine sv rfl (opv_mv rfl) ?_
  refine sv rfl (opv_geq rfl rfl) ?_
  refine sv rfl (opv_mv rfl) ?_
  refine ssplit 7 rfl (fun hc => ?_) (fun hc => ?_)
  · replace h := ite_t hc h
    clear hc
    refine son rfl rfl rfl ?_
    refine sv rfl (opv_mv rfl) ?_
    refine son rfl rfl rfl ?_
    refine sv rfl (opv_leq rfl rfl) ?_
    refine sv rfl (opv_pick_t rfl rfl) ?_
    refine sv rfl (opv_mv rfl) ?_
    refine ssplit 11 rfl (fun hc => ?_) (fun hc => ?_)
    · replace h := ite_t hc h
      clear hc
      refine son rfl rfl rfl ?_
      refine sv rfl (opv_mv rfl) ?_
      refine son rfl rfl rfl ?_
      refine sv rfl (opv_geq rfl rfl) ?_
      refine sv rfl (opv_pick_t rfl rfl) ?_
      refine sv rfl (opv_mv rfl) ?_
      refine ssplit 15 rfl (fun hc => ?_) (fun hc => ?_)
      · replace h := ite_t hc h
        clear hc
        refine son rfl rfl rfl ?_
        refine sv rfl (opv_mv rfl) ?_
        refine son rfl rfl rfl ?_
        refine sv rfl (opv_leq rfl rfl) ?_
        refine sv rfl (opv_pick_t rfl rfl) ?_
        refine sv rfl (opv_as rfl) ?_
        refine snil ?_
        refine cret ?_
        obtain rfl := Option.some.inj h
        refine ⟨Or.inr rfl, _, _, _, (resVs_cons (ResV.tmp _ _ rfl) resVs_nil), (pubA_id rfl), ?_⟩
        rfl
      · replace h := ite_f hc h
        clear hc
        refine soff rfl rfl rfl rfl ?_
        refine soff rfl rfl rfl rfl ?_
        refine sv rfl (opv_pick_f rfl rfl) ?_
        refine sv rfl (opv_as rfl) ?_
        refine snil ?_
        refine cret ?_
        obtain rfl := Option.some.inj h
        refine ⟨Or.inr rfl, _, _, _, (resVs_cons (ResV.tmp _ _ rfl) resVs_nil), (pubA_id rfl), ?_⟩
        rfl
    · replace h := ite_f hc h
      clear hc
      refine soff rfl rfl rfl rfl ?_
      refine soff rfl rfl rfl rfl ?_
      refine sv rfl (opv_pick_f rfl rfl) ?_
      refine sv rfl (opv_mv rfl) ?_
      refine soff rfl rfl rfl rfl ?_
      refine soff rfl rfl rfl rfl ?_
      refine sv rfl (opv_pick_f rfl rfl) ?_
      refine sv rfl (opv_as rfl) ?_
      refine snil ?_
      refine cret ?_
      obtain rfl := Option.some.inj h
      refine ⟨Or.inr rfl, _, _, _, (resVs_cons (ResV.tmp _ _ rfl) resVs_nil), (pubA_id rfl), ?_⟩
      rfl
  · replace h := ite_f hc h
    clear hc
    refine soff rfl rfl rfl rfl ?_
    refine soff rfl rfl rfl rfl ?_
    refine sv rfl (opv_pick_f rfl rfl) ?_
    refine sv rfl (opv_mv rfl) ?_
    refine soff rfl rfl rfl rfl ?_
    refine soff rfl rfl rfl rfl ?_
    refine sv rfl (opv_pick_f rfl rfl) ?_
    refine sv rfl (opv_mv rfl) ?_
    refine soff rfl rfl rfl rfl ?_
    refine soff rfl rfl rfl rfl ?_
    refine sv rfl (opv_pick_f rfl rfl) ?_
    refine sv rfl (opv_as rfl) ?_
    refine snil ?_
    refine cret ?_
    obtain rfl := Option.some.inj h
    refine ⟨Or.inr rfl, _, _, _, (resVs_cons (ResV.tmp _ _ rfl) resVs_nil), (pubA_id rfl), ?_⟩
    rfl

def m20_tokens_saneTs (a0 : Int) : Option Bool :=
  if (decide (1 ≤ a0)) then (some (decide (a0 ≤ 1099511627776))) else (some false)

set_option maxRecDepth 100000 in
theorem m20_tokens_saneTs_c {a0 : Int} {r : Bool} (h : m20_tokens_saneTs a0 = some r) : CallsA Try.prog 20 [.one (.i .i64 a0)] (· = .s (.one (.b r))) := by
  unfold m20_tokens_saneTs at h
  refine callsA_of Try.func20 rfl (nt := 9) rfl (Nat.le_of_ble_eq_true rfl) ?_
  intro w0 S0
  refine cseq ?_
  refine cregion ?_
  refine sv rfl (opv_as rfl) ?_
  refine snil ?_
  refine cseq ?_
  refine cregion ?_
  refine sv rfl (opv_mv rfl) ?_
  refine sv rfl (opv_geq rfl rfl) ?_
  refine sv rfl (opv_mv rfl) ?_
  refine ssplit 5 rfl (fun hc => ?_) (fun hc => ?_)
  · replace h := ite_t hc h
    clear hc
    refine son rfl rfl rfl ?_
    refine sv rfl (opv_mv rfl) ?_
    refine son rfl rfl rfl ?_
    refine sv rfl (opv_leq rfl rfl) ?_
    refine sv rfl (opv_pick_t rfl rfl) ?_
    refine sv rfl (opv_as rfl) ?_
    refine snil ?_
    refine cret ?_
    obtain rfl := Option.some.inj h
    refine ⟨Or.inr rfl, _, _, _, (resVs_cons (ResV.tmp _ _ rfl) resVs_nil), (pubA_id rfl), ?_⟩
    rfl
  · replace h := ite_f hc h
    clear hc
    refine soff rfl rfl rfl rfl ?_
    refine soff rfl rfl rfl rfl ?_
    refine sv rfl (opv_pick_f rfl rfl) ?_
    refine sv rfl (opv_as rfl) ?_
    refine snil ?_
    refine cret ?_
    obtain rfl := Option.some.inj h
    refine ⟨Or.inr rfl, _, _, _, (resVs_cons (ResV.tmp _ _ rfl) resVs_nil), (pubA_id rfl), ?_⟩
    rfl

def m16_tokens_saneEntry_k1 (a0 : GTokensEntry) (b1 : Bool) : Option Bool :=
  if b1 then ((m17_tokens_saneName a0.Tok a0.Attempt).bind fun v2 => if v2 then (some (decide (a0.Ts = 0))) else (some false)) else (if (decide (a0.State = 2)) then ((m17_tokens_saneName a0.Tok a0.Attempt).bind fun v3 => if v3 then ((m20_tokens_saneTs a0.Ts).bind fun v4 => some v4) else (some false)) else (some false))
def m16_tokens_saneEntry (a0 : GTokensEntry) : Option Bool :=
  if (decide (a0.State = 1)) then (m16_tokens_saneEntry_k1 a0 (decide (a0.State = 1))) else (m16_tokens_saneEntry_k1 a0 (decide (a0.State = 3)))

set_option maxRecDepth 100000 in
theorem m16_tokens_saneEntry_c {a0 : GTokensEntry} {r : Bool} (h : m16_tokens_saneEntry a0 = some r) : CallsA Try.prog 16 [.agg [.i .i64 a0.Tok, .i .i64 a0.Attempt, .i .i64 a0.State, .i .i64 a0.Ts]] (· = .s (.one (.b r))) := by
  unfold m16_tokens_saneEntry at h
  refine callsA_of Try.func16 rfl (nt := 30) rfl (Nat.le_of_ble_eq_true rfl) ?_
  intro w0 S0
  refine cseq ?_
  refine cregion ?_
  refine sbox rfl rfl ?_
  refine sv rfl (opv_as rfl) ?_
  refine snil ?_
  refine cseq ?_
  refine cseq ?_
  refine cregion ?_
  refine sv rfl (opv_fieldAddr_lp fi33_2 rfl) ?_
  refine sv rfl (opv_load1 ti3 rfl (.lp _ _ _ rfl) rfl) ?_
  refine snil ?_
  refine cblock ?_
  refine cseq ?_
  refine cseq ?_
  refine cregion ?_
  refine sv rfl (opv_ieql rfl rfl) ?_
  refine sv rfl (opv_as rfl) ?_
  refine snil ?_
  refine cjoin (Bool) (fun b1 => [(1, .s (.one (.lp 0 0))), (4, .s (.one (.i .i64 a0.State))), (5, .s (.one (.b b1)))]) (fun b1 => [.box [.i .i64 a0.Tok, .i .i64 a0.Attempt, .i .i64 a0.State, .i .i64 a0.Ts]]) (fun b1 => m16_tokens_saneEntry_k1 a0 b1 = some r) (fun _ _ => inbL_of rfl) (fun _ _ => blkinb_of rfl) (fun _ _ => Nat.le_of_ble_eq_true rfl) (fun b1 h => ?_) ?_
  · unfold m16_tokens_saneEntry_k1 at h
    refine ccond rfl (fun hc => ?_) (fun hc => ?_)
    · replace h := ite_t hc h
      clear hc
      refine cseq ?_
      refine cregion ?_
      refine sv rfl (opv_fieldAddr_lp fi33_0 rfl) ?_
      refine sv rfl (opv_load1 ti3 rfl (.lp _ _ _ rfl) rfl) ?_
      refine sv rfl (opv_fieldAddr_lp fi33_1 rfl) ?_
      refine sv rfl (opv_load1 ti3 rfl (.lp _ _ _ rfl) rfl) ?_
      obtain ⟨v2, hv2, h⟩ := bind_eq h
      refine scall1 rfl fn17 (opnds_cons rfl (opnds_cons rfl opnds_nil)) (pubA_id rfl) (m17_tokens_saneName_c hv2) ?_
      refine sv rfl (opv_mv rfl) ?_
      refine ssplit 13 rfl (fun hc => ?_) (fun hc => ?_)
      · replace h := ite_t hc h
        clear hc
        refine son rfl rfl rfl ?_
        refine sv rfl (opv_fieldAddr_lp fi33_3 rfl) ?_
        refine son rfl rfl rfl ?_
        refine sv rfl (opv_load1 ti3 rfl (.lp _ _ _ rfl) rfl) ?_
        refine son rfl rfl rfl ?_
        refine sv rfl (opv_ieql rfl rfl) ?_
        refine sv rfl (opv_pick_t rfl rfl) ?_
        refine sv rfl (opv_as rfl) ?_
        refine snil ?_
        refine cret ?_
        refine block_ret ?_
        refine then_ret ?_
        obtain rfl := Option.some.inj h
        refine ⟨Or.inr rfl, _, _, _, (resVs_cons (ResV.tmp _ _ rfl) resVs_nil), (pubA_id rfl), ?_⟩
        rfl
      · replace h := ite_f hc h
        clear hc
        refine soff rfl rfl rfl rfl ?_
        refine soff rfl rfl rfl rfl ?_
        refine soff rfl rfl rfl rfl ?_
        refine sv rfl (opv_pick_f rfl rfl) ?_
        refine sv rfl (opv_as rfl) ?_
        refine snil ?_
        refine cret ?_
        refine block_ret ?_
        refine then_ret ?_
        obtain rfl := Option.some.inj h
        refine ⟨Or.inr rfl, _, _, _, (resVs_cons (ResV.tmp _ _ rfl) resVs_nil), (pubA_id rfl), ?_⟩
        rfl
    · replace h := ite_f hc h
      clear hc
      refine cseq ?_
      refine cregion ?_
      refine sv rfl (opv_ieql rfl rfl) ?_
      refine sv rfl (opv_as rfl) ?_
      refine snil ?_
      refine ccond rfl (fun hc => ?_) (fun hc => ?_)
      · replace h := ite_t hc h
        clear hc
        refine cseq ?_
        refine cregion ?_
        refine sv rfl (opv_fieldAddr_lp fi33_0 rfl) ?_
        refine sv rfl (opv_load1 ti3 rfl (.lp _ _ _ rfl) rfl) ?_
        refine sv rfl (opv_fieldAddr_lp fi33_1 rfl) ?_
        refine sv rfl (opv_load1 ti3 rfl (.lp _ _ _ rfl) rfl) ?_
        obtain ⟨v3, hv3, h⟩ := bind_eq h
        refine scall1 rfl fn17 (opnds_cons rfl (opnds_cons rfl opnds_nil)) (pubA_id rfl) (m17_tokens_saneName_c hv3) ?_
        refine sv rfl (opv_mv rfl) ?_
        refine ssplit 25 rfl (fun hc => ?_) (fun hc => ?_)
        · replace h := ite_t hc h
          clear hc
          refine son rfl rfl rfl ?_
          refine sv rfl (opv_fieldAddr_lp fi33_3 rfl) ?_
          refine son rfl rfl rfl ?_
          refine sv rfl (opv_load1 ti3 rfl (.lp _ _ _ rfl) rfl) ?_
          refine son rfl rfl rfl ?_
          obtain ⟨v4, hv4, h⟩ := bind_eq h
          refine scall1 rfl fn20 (opnds_cons rfl opnds_nil) (pubA_id rfl) (m20_tokens_saneTs_c hv4) ?_
          refine sv rfl (opv_pick_t rfl rfl) ?_
          refine sv rfl (opv_as rfl) ?_
          refine snil ?_
          refine cret ?_
          refine block_ret ?_
          refine then_ret ?_
          obtain rfl := Option.some.inj h
          refine ⟨Or.inr rfl, _, _, _, (resVs_cons (ResV.tmp _ _ rfl) resVs_nil), (pubA_id rfl), ?_⟩
          rfl
        · replace h := ite_f hc h
          clear hc
          refine soff rfl rfl rfl rfl ?_
          refine soff rfl rfl rfl rfl ?_
          refine soff rfl rfl rfl rfl ?_
          refine sv rfl (opv_pick_f rfl rfl) ?_
          refine sv rfl (opv_as rfl) ?_
          refine snil ?_
          refine cret ?_
          refine block_ret ?_
          refine then_ret ?_
          obtain rfl := Option.some.inj h
          refine ⟨Or.inr rfl, _, _, _, (resVs_cons (ResV.tmp _ _ rfl) resVs_nil), (pubA_id rfl), ?_⟩
          rfl
      · replace h := ite_f hc h
        clear hc
        refine cskip ?_
        refine block_normal ?_
        refine then_normal ?_
        refine cseq ?_
        refine cregion ?_
        refine sv rfl (opv_as rfl) ?_
        refine snil ?_
        refine cret ?_
        obtain rfl := Option.some.inj h
        refine ⟨Or.inr rfl, _, _, _, (resVs_cons (ResV.tmp _ _ rfl) resVs_nil), (pubA_id rfl), ?_⟩
        rfl
  · skip
    refine ccond rfl (fun hc => ?_) (fun hc => ?_)
    · replace h := ite_t hc h
      clear hc
      refine cskip ?_
      refine then_normal ?_
      exact ⟨(decide (a0.State = 1)), _, h, ⟨rfl, rfl, rfl, trivial⟩, rfl⟩
    · replace h := ite_f hc h
      clear hc
      refine cregion ?_
      refine sv rfl (opv_ieql rfl rfl) ?_
      refine sv rfl (opv_as rfl) ?_
      refine snil ?_
      exact ⟨(decide (a0.State = 3)), _, h, ⟨rfl, rfl, rfl, trivial⟩, rfl⟩

def m15_tokens_place_k1 (a0 : GTokensTable) (b1 : Unit) : Option Int :=
  some (a0.L.length : Int)

def m15_tokens_place_s2 (a0 : GTokensTable) (a1 : Int) (s2 : Int) : Option (LR (Int) (Unit) (Int)) :=
  if (decide (s2 < (a0.L.length : Int))) then ((idx a0.L s2).bind fun u3 => if (decide (u3.Tok = a1)) then (some (.ret s2)) else (some (.cont (wI (s2 + 1))))) else (some (.brk ()))
def m15_tokens_place (a0 : GTokensTable) (a1 : Int) : Option Int :=
  (iter (m15_tokens_place_s2 a0 a1) fuel 0).bind fun x => match x with | .inl r => some r | .inr e4 => m15_tokens_place_k1 a0 e4

set_option maxRecDepth 100000 in
theorem m15_tokens_place_c {a0 : GTokensTable} {a1 : Int} {r : Int} (h : m15_tokens_place a0 a1 = some r) : CallsA Try.prog 15 [.agg [.sl a0.L.length (a0.L.flatMap eGTokensEntry)], .one (.i .i64 a1)] (· = .s (.one (.i .i64 r))) := by
  unfold m15_tokens_place at h
  refine callsA_of Try.func15 rfl (nt := 24) rfl (Nat.le_of_ble_eq_true rfl) ?_
  intro w0 S0
  refine cseq ?_
  refine cregion ?_
  refine sbox rfl rfl ?_
  refine sv rfl (opv_as rfl) ?_
  refine snil ?_
  refine cseq ?_
  refine cseq ?_
  refine cregion ?_
  refine sv rfl (opv_fieldAddr_lp fi26_0 rfl) ?_
  refine sv rfl (opv_load1 ti24 rfl (.lp _ _ _ rfl) rfl) ?_
  refine sv rfl (opv_len_sl si24 rfl) ?_
  refine sv rfl (opv_mv rfl) ?_
  refine snil ?_
  refine cjoin (Unit) (fun b1 => [(2, .s (.one (.lp 0 0)))]) (fun b1 => [.box [.sl a0.L.length (a0.L.flatMap eGTokensEntry)]]) (fun b1 => m15_tokens_place_k1 a0 b1 = some r) (fun _ _ => inbL_of rfl) (fun _ _ => blkinb_of rfl) (fun _ _ => Nat.le_of_ble_eq_true rfl) (fun b1 h => ?_) ?_
  · unfold m15_tokens_place_k1 at h
    refine cseq ?_
    refine cregion ?_
    refine sv rfl (opv_fieldAddr_lp fi26_0 rfl) ?_
    refine sv rfl (opv_load1 ti24 rfl (.lp _ _ _ rfl) rfl) ?_
    refine sv rfl (opv_len_sl si24 rfl) ?_
    refine sv rfl (opv_as rfl) ?_
    refine snil ?_
    refine cret ?_
    obtain rfl := Option.some.inj h
    refine ⟨Or.inr rfl, _, _, _, (resVs_cons (ResV.tmp _ _ rfl) resVs_nil), (pubA_id rfl), ?_⟩
    rfl
  · skip
    refine cblock ?_
    obtain ⟨x2, hx2, ho2⟩ := bind_eq h
    refine awc_loop (G := Nat × (Int)) (fun g => [(1, .s (.one (.i .i64 a1))), (2, .s (.one (.lp 0 0))), (8, .s (.one (.sl a0.L.length (a0.L.flatMap eGTokensEntry)))), (9, .s (.one (.i .i64 (a0.L.length : Int)))), (10, .s (.one (.i .i64 g.2)))]) (fun g => [.box [.sl a0.L.length (a0.L.flatMap eGTokensEntry)]]) (fun g => iter (m15_tokens_place_s2 a0 a1) g.1 g.2 = some x2) (fun g => g.1) (fuel, 0) hx2 ⟨rfl, rfl, rfl, rfl, rfl, trivial⟩ [] rfl (fun _ _ => inbL_of rfl) (fun _ _ => blkinb_of rfl) (fun _ _ => Nat.le_of_ble_eq_true rfl) ?_
    clear hx2 h
    rintro ⟨n2, s2⟩ h
    obtain ⟨n2, y2, rfl, h, hk2⟩ := iter_eq h
    unfold m15_tokens_place_s2 at h
    refine cseq ?_
    refine cregion ?_
    refine sv rfl (opv_lss rfl rfl) ?_
    refine snil ?_
    refine cseq ?_
    refine ccond rfl (fun hc => ?_) (fun hc => ?_)
    · replace h := ite_t hc h
      clear hc
      refine cskip ?_
      refine then_normal ?_
      refine cseq ?_
      refine cblock ?_
      refine cseq ?_
      refine cregion ?_
      refine sv rfl (opv_mv rfl) ?_
      obtain ⟨u3, hu3, h⟩ := bind_eq h
      refine sv rfl (opv_ix (f := eGTokensEntry) si24 (fun _ => rfl) rfl rfl rfl rfl hu3) ?_
      refine sv rfl (opv_loadNe (ys := [.i .i64 u3.Tok, .i .i64 u3.Attempt, .i .i64 u3.State, .i .i64 u3.Ts]) ti33 rfl (.cp _) rfl rfl) ?_
      refine salloc rfl zi33 ?_
      refine sv rfl (opv_as rfl) ?_
      refine sstore sz33 rfl rfl rfl rfl (Nat.le_of_ble_eq_true rfl) ?_
      refine smem [.box [.sl a0.L.length (a0.L.flatMap eGTokensEntry)], .box [.i .i64 u3.Tok, .i .i64 u3.Attempt, .i .i64 u3.State, .i .i64 u3.Ts]] rfl ?_
      refine snil ?_
      refine cseq ?_
      refine cregion ?_
      refine sv rfl (opv_fieldAddr_lp fi33_0 rfl) ?_
      refine sv rfl (opv_load1 ti3 rfl (.lp _ _ _ rfl) rfl) ?_
      refine sv rfl (opv_mv rfl) ?_
      refine sv rfl (opv_ieql rfl rfl) ?_
      refine snil ?_
      refine ccond rfl (fun hc => ?_) (fun hc => ?_)
      · replace h := ite_t hc h
        clear hc
        refine cseq ?_
        refine cregion ?_
        refine sv rfl (opv_mv rfl) ?_
        refine sv rfl (opv_as rfl) ?_
        refine snil ?_
        refine cret ?_
        refine block_ret ?_
        refine then_ret ?_
        refine then_ret ?_
        refine block_ret ?_
        refine then_ret ?_
        obtain rfl := Option.some.inj h
        obtain rfl : Sum.inl _ = x2 := hk2
        replace ho2 : some _ = some _ := ho2
        obtain rfl := Option.some.inj ho2
        refine ⟨Or.inr rfl, _, _, _, (resVs_cons (ResV.tmp _ _ rfl) resVs_nil), (pubA_id rfl), ?_⟩
        rfl
      · replace h := ite_f hc h
        clear hc
        refine cskip ?_
        refine block_normal ?_
        refine then_normal ?_
        refine cregion ?_
        refine sv rfl (opv_add rfl rfl) ?_
        refine sv rfl (opv_mv rfl) ?_
        refine snil ?_
        obtain rfl := Option.some.inj h
        exact ⟨(n2, (wI (s2 + 1))), _, hk2, ⟨rfl, rfl, rfl, rfl, rfl, trivial⟩, rfl, Nat.lt_succ_self _⟩
    · replace h := ite_f hc h
      clear hc
      refine cexit ?_
      refine then_exit ?_
      refine then_exit ?_
      refine block_hit ?_
      refine then_normal ?_
      obtain rfl := Option.some.inj h
      obtain rfl : _ = x2 := hk2
      exact ⟨(), _, ho2, ⟨rfl, trivial⟩, rfl⟩

def m10_tokens_Sane_k1 (a0 : GTokensTable) (b1 : Unit) : Option Bool :=
  some (decide ((a0.L.length : Int) ≤ 32))

def m10_tokens_Sane_s2 (a0 : GTokensTable) (s2 : Int) : Option (LR (Int) (Unit) (Bool)) :=
  if (decide (s2 < (a0.L.length : Int))) then ((idx a0.L s2).bind fun u3 => (m16_tokens_saneEntry u3).bind fun v4 => if (!v4) then (some (.ret false)) else ((m15_tokens_place a0 u3.Tok).bind fun v5 => if (!decide (v5 = s2)) then (some (.ret false)) else (some (.cont (wI (s2 + 1)))))) else (some (.brk ()))
def m10_tokens_Sane (a0 : GTokensTable) : Option Bool :=
  (iter (m10_tokens_Sane_s2 a0) fuel 0).bind fun x => match x with | .inl r => some r | .inr e6 => m10_tokens_Sane_k1 a0 e6

set_option maxRecDepth 100000 in
theorem m10_tokens_Sane_c {a0 : GTokensTable} {r : Bool} (h : m10_tokens_Sane a0 = some r) : CallsA Try.prog 10 [.agg [.sl a0.L.length (a0.L.flatMap eGTokensEntry)]] (· = .s (.one (.b r))) := by
  unfold m10_tokens_Sane at h
  refine callsA_of Try.func10 rfl (nt := 29) rfl (Nat.le_of_ble_eq_true rfl) ?_
  intro w0 S0
  refine cseq ?_
  refine cregion ?_
  refine sbox rfl rfl ?_
  refine sv rfl (opv_as rfl) ?_
  refine snil ?_
  refine cseq ?_
  refine cseq ?_
  refine cregion ?_
  refine sv rfl (opv_fieldAddr_lp fi26_0 rfl) ?_
  refine sv rfl (opv_load1 ti24 rfl (.lp _ _ _ rfl) rfl) ?_
  refine sv rfl (opv_len_sl si24 rfl) ?_
  refine sv rfl (opv_mv rfl) ?_
  refine snil ?_
  refine cjoin (Unit) (fun b1 => [(1, .s (.one (.lp 0 0)))]) (fun b1 => [.box [.sl a0.L.length (a0.L.flatMap eGTokensEntry)]]) (fun b1 => m10_tokens_Sane_k1 a0 b1 = some r) (fun _ _ => inbL_of rfl) (fun _ _ => blkinb_of rfl) (fun _ _ => Nat.le_of_ble_eq_true rfl) (fun b1 h => ?_) ?_
  · unfold m10_tokens_Sane_k1 at h
    refine cseq ?_
    refine cregion ?_
    refine sv rfl (opv_fieldAddr_lp fi26_0 rfl) ?_
    refine sv rfl (opv_load1 ti24 rfl (.lp _ _ _ rfl) rfl) ?_
    refine sv rfl (opv_len_sl si24 rfl) ?_
    refine sv rfl (opv_leq rfl rfl) ?_
    refine sv rfl (opv_as rfl) ?_
    refine snil ?_
    refine cret ?_
    obtain rfl := Option.some.inj h
    refine ⟨Or.inr rfl, _, _, _, (resVs_cons (ResV.tmp _ _ rfl) resVs_nil), (pubA_id rfl), ?_⟩
    rfl
  · skip
    refine cblock ?_
    obtain ⟨x2, hx2, ho2⟩ := bind_eq h
    refine awc_loop (G := Nat × (Int)) (fun g => [(1, .s (.one (.lp 0 0))), (6, .s (.one (.sl a0.L.length (a0.L.flatMap eGTokensEntry)))), (7, .s (.one (.i .i64 (a0.L.length : Int)))), (8, .s (.one (.i .i64 g.2)))]) (fun g => [.box [.sl a0.L.length (a0.L.flatMap eGTokensEntry)]]) (fun g => iter (m10_tokens_Sane_s2 a0) g.1 g.2 = some x2) (fun g => g.1) (fuel, 0) hx2 ⟨rfl, rfl, rfl, rfl, trivial⟩ [] rfl (fun _ _ => inbL_of rfl) (fun _ _ => blkinb_of rfl) (fun _ _ => Nat.le_of_ble_eq_true rfl) ?_
    clear hx2 h
    rintro ⟨n2, s2⟩ h
    obtain ⟨n2, y2, rfl, h, hk2⟩ := iter_eq h
    unfold m10_tokens_Sane_s2 at h
    refine cseq ?_
    refine cregion ?_
    refine sv rfl (opv_lss rfl rfl) ?_
    refine snil ?_
    refine cseq ?_
    refine ccond rfl (fun hc => ?_) (fun hc => ?_)
    · replace h := ite_t hc h
      clear hc
      refine cskip ?_
      refine then_normal ?_
      refine cseq ?_
      refine cblock ?_
      refine cseq ?_
      refine cregion ?_
      refine sv rfl (opv_mv rfl) ?_
      obtain ⟨u3, hu3, h⟩ := bind_eq h
      refine sv rfl (opv_ix (f := eGTokensEntry) si24 (fun _ => rfl) rfl rfl rfl rfl hu3) ?_
      refine sv rfl (opv_loadNe (ys := [.i .i64 u3.Tok, .i .i64 u3.Attempt, .i .i64 u3.State, .i .i64 u3.Ts]) ti33 rfl (.cp _) rfl rfl) ?_
      refine salloc rfl zi33 ?_
      refine sv rfl (opv_as rfl) ?_
      refine sstore sz33 rfl rfl rfl rfl (Nat.le_of_ble_eq_true rfl) ?_
      refine smem [.box [.sl a0.L.length (a0.L.flatMap eGTokensEntry)], .box [.i .i64 u3.Tok, .i .i64 u3.Attempt, .i .i64 u3.State, .i .i64 u3.Ts]] rfl ?_
      refine snil ?_
      refine cseq ?_
      refine cregion ?_
      refine sv rfl (opv_loadN ti33 rfl (.lp _ _ _ rfl) (Nat.le_of_ble_eq_true rfl)) ?_
      obtain ⟨v4, hv4, h⟩ := bind_eq h
      refine scall1 rfl fn16 (opnds_cons rfl opnds_nil) (pubA_id rfl) (m16_tokens_saneEntry_c hv4) ?_
      refine sv rfl (opv_not rfl) ?_
      refine sv rfl (opv_mv rfl) ?_
      refine ssplit 16 rfl (fun hc => ?_) (fun hc => ?_)
      · replace h := ite_t hc h
        clear hc
        refine soff rfl rfl rfl rfl ?_
        refine soff rfl rfl rfl rfl ?_
        refine soff rfl rfl rfl rfl ?_
        refine soff rfl rfl rfl rfl ?_
        refine soff rfl rfl rfl rfl ?_
        refine soff rfl rfl rfl rfl ?_
        refine sv rfl (opv_pick_t rfl rfl) ?_
        refine snil ?_
        refine ccond rfl (fun _ => ?_) (fun hx => Bool.noConfusion hx)
        refine cseq ?_
        refine cregion ?_
        refine sv rfl (opv_as rfl) ?_
        refine snil ?_
        refine cret ?_
        refine block_ret ?_
        refine then_ret ?_
        refine then_ret ?_
        refine block_ret ?_
        refine then_ret ?_
        obtain rfl := Option.some.inj h
        obtain rfl : Sum.inl _ = x2 := hk2
        replace ho2 : some _ = some _ := ho2
        obtain rfl := Option.some.inj ho2
        refine ⟨Or.inr rfl, _, _, _, (resVs_cons (ResV.tmp _ _ rfl) resVs_nil), (pubA_id rfl), ?_⟩
        rfl
      · replace h := ite_f hc h
        clear hc
        refine son rfl rfl rfl ?_
        refine sv rfl (opv_loadN ti26 rfl (.lp _ _ _ rfl) (Nat.le_of_ble_eq_true rfl)) ?_
        refine son rfl rfl rfl ?_
        refine sv rfl (opv_fieldAddr_lp fi33_0 rfl) ?_
        refine son rfl rfl rfl ?_
        refine sv rfl (opv_load1 ti3 rfl (.lp _ _ _ rfl) rfl) ?_
        refine son rfl rfl rfl ?_
        obtain ⟨v5, hv5, h⟩ := bind_eq h
        refine scall1 rfl fn15 (opnds_cons rfl (opnds_cons rfl opnds_nil)) (pubA_id rfl) (m15_tokens_place_c hv5) ?_
        refine son rfl rfl rfl ?_
        refine sv rfl (opv_mv rfl) ?_
        refine son rfl rfl rfl ?_
        refine sv rfl (opv_ineq rfl rfl) ?_
        refine sv rfl (opv_pick_f rfl rfl) ?_
        refine snil ?_
        refine ccond rfl (fun hc => ?_) (fun hc => ?_)
        · replace h := ite_t hc h
          clear hc
          refine cseq ?_
          refine cregion ?_
          refine sv rfl (opv_as rfl) ?_
          refine snil ?_
          refine cret ?_
          refine block_ret ?_
          refine then_ret ?_
          refine then_ret ?_
          refine block_ret ?_
          refine then_ret ?_
          obtain rfl := Option.some.inj h
          obtain rfl : Sum.inl _ = x2 := hk2
          replace ho2 : some _ = some _ := ho2
          obtain rfl := Option.some.inj ho2
          refine ⟨Or.inr rfl, _, _, _, (resVs_cons (ResV.tmp _ _ rfl) resVs_nil), (pubA_id rfl), ?_⟩
          rfl
        · replace h := ite_f hc h
          clear hc
          refine cskip ?_
          refine block_normal ?_
          refine then_normal ?_
          refine cregion ?_
          refine sv rfl (opv_add rfl rfl) ?_
          refine sv rfl (opv_mv rfl) ?_
          refine snil ?_
          obtain rfl := Option.some.inj h
          exact ⟨(n2, (wI (s2 + 1))), _, hk2, ⟨rfl, rfl, rfl, rfl, trivial⟩, rfl, Nat.lt_succ_self _⟩
    · replace h := ite_f hc h
      clear hc
      refine cexit ?_
      refine then_exit ?_
      refine then_exit ?_
      refine block_hit ?_
      refine then_normal ?_
      obtain rfl := Option.some.inj h
      obtain rfl : _ = x2 := hk2
      exact ⟨(), _, ho2, ⟨rfl, trivial⟩, rfl⟩

def m9_tokens_Find (a0 : GTokensTable) (a1 : Int) : Option (GTokensEntry × Bool) :=
  (m15_tokens_place a0 a1).bind fun v1 => if (decide (v1 = (a0.L.length : Int))) then (some ((GTokensEntry.mk 0 0 0 0), false)) else ((idx a0.L v1).bind fun u2 => some (u2, true))

set_option maxRecDepth 100000 in
theorem m9_tokens_Find_c {a0 : GTokensTable} {a1 : Int} {r : GTokensEntry × Bool} (h : m9_tokens_Find a0 a1 = some r) : CallsA Try.prog 9 [.agg [.sl a0.L.length (a0.L.flatMap eGTokensEntry)], .one (.i .i64 a1)] (· = .tup [.agg [.i .i64 r.1.Tok, .i .i64 r.1.Attempt, .i .i64 r.1.State, .i .i64 r.1.Ts], .one (.b r.2)]) := by
  unfold m9_tokens_Find at h
  refine callsA_of Try.func9 rfl (nt := 21) rfl (Nat.le_of_ble_eq_true rfl) ?_
  intro w0 S0
  refine cseq ?_
  refine cregion ?_
  refine sbox rfl rfl ?_
  refine salloc rfl zi33 ?_
  refine sv rfl (opv_as rfl) ?_
  refine snil ?_
  refine cseq ?_
  refine cregion ?_
  refine sv rfl (opv_loadN ti26 rfl (.lp _ _ _ rfl) (Nat.le_of_ble_eq_true rfl)) ?_
  refine sv rfl (opv_mv rfl) ?_
  obtain ⟨v1, hv1, h⟩ := bind_eq h
  refine scall1 rfl fn15 (opnds_cons rfl (opnds_cons rfl opnds_nil)) (pubA_id rfl) (m15_tokens_place_c hv1) ?_
  refine sv rfl (opv_as rfl) ?_
  refine snil ?_
  refine cseq ?_
  refine cseq ?_
  refine cregion ?_
  refine sv rfl (opv_mv rfl) ?_
  refine sv rfl (opv_fieldAddr_lp fi26_0 rfl) ?_
  refine sv rfl (opv_load1 ti24 rfl (.lp _ _ _ rfl) rfl) ?_
  refine sv rfl (opv_len_sl si24 rfl) ?_
  refine sv rfl (opv_ieql rfl rfl) ?_
  refine snil ?_
  refine ccond rfl (fun hc => ?_) (fun hc => ?_)
  · replace h := ite_t hc h
    clear hc
    refine cseq ?_
    refine cregion ?_
    refine sv rfl (opv_build zi33 pi33 parts_nil (.nil _)) ?_
    refine sstore sz33 rfl rfl rfl rfl (Nat.le_of_ble_eq_true rfl) ?_
    refine smem [.box [.sl a0.L.length (a0.L.flatMap eGTokensEntry)], .box [.i .i64 0, .i .i64 0, .i .i64 0, .i .i64 0]] rfl ?_
    refine sv rfl (opv_as rfl) ?_
    refine snil ?_
    refine cret ?_
    refine then_ret ?_
    obtain rfl := Option.some.inj h
    refine ⟨Or.inr rfl, _, _, _, (resVs_cons (ResV.agg _ _ _ _ _ ti33 rfl (.lp _ _ _ rfl) (Nat.le_of_ble_eq_true rfl)) (resVs_cons (ResV.tmp _ _ rfl) resVs_nil)), (pubA_id rfl), ?_⟩
    rfl
  · replace h := ite_f hc h
    clear hc
    refine cskip ?_
    refine then_normal ?_
    refine cseq ?_
    refine cregion ?_
    refine sv rfl (opv_fieldAddr_lp fi26_0 rfl) ?_
    refine sv rfl (opv_load1 ti24 rfl (.lp _ _ _ rfl) rfl) ?_
    refine sv rfl (opv_mv rfl) ?_
    obtain ⟨u2, hu2, h⟩ := bind_eq h
    refine sv rfl (opv_ix (f := eGTokensEntry) si24 (fun _ => rfl) rfl rfl rfl rfl hu2) ?_
    refine sv rfl (opv_loadNe (ys := [.i .i64 u2.Tok, .i .i64 u2.Attempt, .i .i64 u2.State, .i .i64 u2.Ts]) ti33 rfl (.cp _) rfl rfl) ?_
    refine sstore sz33 rfl rfl rfl rfl (Nat.le_of_ble_eq_true rfl) ?_
    refine smem [.box [.sl a0.L.length (a0.L.flatMap eGTokensEntry)], .box [.i .i64 u2.Tok, .i .i64 u2.Attempt, .i .i64 u2.State, .i .i64 u2.Ts]] rfl ?_
    refine sv rfl (opv_as rfl) ?_
    refine snil ?_
    refine cret ?_
    obtain rfl := Option.some.inj h
    refine ⟨Or.inr rfl, _, _, _, (resVs_cons (ResV.agg _ _ _ _ _ ti33 rfl (.lp _ _ _ rfl) (Nat.le_of_ble_eq_true rfl)) (resVs_cons (ResV.tmp _ _ rfl) resVs_nil)), (pubA_id rfl), ?_⟩
    rfl

def m23_slices_Cloneo (a0 : List GTokensEntry) : Option (List GTokensEntry) :=
  if (([] : List GTokensEntry).length + a0.length) * 32 ≤ 140737488355328 then (some (([] : List GTokensEntry) ++ a0)) else none

set_option maxRecDepth 100000 in
theorem m23_slices_Cloneo_c {a0 : List GTokensEntry} {r : (List GTokensEntry)} (h : m23_slices_Cloneo a0 = some r) : CallsB Try.prog 23 [] [.one (.sl a0.length (a0.flatMap eGTokensEntry))] (fun y m' => y = .s (.one (.ls 0 r.length)) ∧ m' = [.arr 33 4 0 (r.flatMap eGTokensEntry)]) := by
  unfold m23_slices_Cloneo at h
  refine callsB_of Try.func23 rfl (nt := 8) rfl (Nat.le_of_ble_eq_true rfl) ?_
  intro w0 S0 X0 H0
  refine cseq ?_
  refine cregion ?_
  refine sv rfl (opv_as rfl) ?_
  refine snil ?_
  refine cseq ?_
  refine cseq ?_
  refine cregion ?_
  refine sv rfl (opv_mv rfl) ?_
  refine snilq rfl Try.underlying24 rfl (fun nq hnq => ?_)
  cases nq
  · skip
    refine snil ?_
    refine ccond rfl (fun hx => Bool.noConfusion hx) (fun _ => ?_)
    refine cskip ?_
    refine then_normal ?_
    refine cseq ?_
    refine cregion ?_
    refine sbuild0 rfl Try.underlying24 ei33 ?_
    refine sv rfl (opv_mv rfl) ?_
    obtain ⟨hb1, h⟩ := chk_eq h
    refine sapp (f := eGTokensEntry) (xs := ([] : List GTokensEntry)) (us := a0) rfl Try.underlying24 ei33 ni24 (fun _ => rfl) rfl rfl (.one _ _ _ _ (.id _ rfl)) rfl rfl rfl (.sl _ _ _ (flat_len (f := eGTokensEntry) (fun _ => rfl) _)) rfl rfl hb1 (by decide) ?_
    refine sv rfl (opv_as rfl) ?_
    refine snil ?_
    refine cret ?_
    obtain rfl := Option.some.inj h
    exact ⟨Or.inr rfl, _, [0], [.one (.ls 0 (([] : List GTokensEntry) ++ a0).length)], [.arr 33 4 0 ((([] : List GTokensEntry) ++ a0).flatMap eGTokensEntry)], (resVs_cons (ResV.tmp _ _ rfl) resVs_nil), rfl, rfl, ⟨by decide, rfl⟩, rfl, rfl, ⟨rfl, rfl⟩⟩
  · obtain rfl := List.eq_nil_of_length_eq_zero (hnq rfl)
    replace h : (some ([] : List GTokensEntry)) = some r := by first | exact h | (rw [if_pos (by decide)] at h; exact h)
    refine snil ?_
    refine ccond rfl (fun _ => ?_) (fun hx => Bool.noConfusion hx)
    refine cseq ?_
    refine cregion ?_
    refine sv rfl (opv_as rfl) ?_
    refine snil ?_
    refine sadopt_c 33 4 2 (by decide) rfl ?_
    refine cret ?_
    refine then_ret ?_
    obtain rfl := Option.some.inj h
    exact ⟨Or.inr rfl, _, [0], [.one (.ls 0 ([] : List GTokensEntry).length)], [.arr 33 4 0 (([] : List GTokensEntry).flatMap eGTokensEntry)], (resVs_cons (ResV.tmp _ _ rfl) resVs_nil), rfl, rfl, ⟨by decide, rfl⟩, rfl, rfl, ⟨rfl, rfl⟩⟩

def m21_tokens_put (a0 : List GTokensEntry) (a1 : Int) (a2 : GTokensEntry) : Option (List GTokensEntry) :=
  (m23_slices_Cloneo a0).bind fun v1 => if (decide ((v1.length : Int) ≤ a1)) then (if (v1.length + [a2].length) * 32 ≤ 140737488355328 then (some (v1 ++ [a2])) else none) else ((idx v1 a1).bind fun u3 => some (v1.set a1.toNat a2))

set_option maxRecDepth 100000 in
theorem m21_tokens_put_c {a0 : List GTokensEntry} {a1 : Int} {a2 : GTokensEntry} {r : (List GTokensEntry)} (h : m21_tokens_put a0 a1 a2 = some r) : CallsA Try.prog 21 [.one (.sl a0.length (a0.flatMap eGTokensEntry)), .one (.i .i64 a1), .agg [.i .i64 a2.Tok, .i .i64 a2.Attempt, .i .i64 a2.State, .i .i64 a2.Ts]] (· = .s (.one (.sl r.length (r.flatMap eGTokensEntry)))) := by
  unfold m21_tokens_put at h
  refine callsA_of Try.func21 rfl (nt := 23) rfl (Nat.le_of_ble_eq_true rfl) ?_
  intro w0 S0
  refine cseq ?_
  refine cregion ?_
  refine sbox rfl rfl ?_
  refine sv rfl (opv_as rfl) ?_
  refine snil ?_
  refine cseq ?_
  refine cregion ?_
  refine sv rfl (opv_mv rfl) ?_
  obtain ⟨v1, hv1, h⟩ := bind_eq h
  refine scallB (x' := .s (.one (.ls 1 v1.length))) (M' := [.box [.i .i64 a2.Tok, .i .i64 a2.Attempt, .i .i64 a2.State, .i .i64 a2.Ts], .arr 33 4 0 (v1.flatMap eGTokensEntry)]) [] rfl fn23 (.func _) (opnds_cons rfl opnds_nil) (m23_slices_Cloneo_c hv1) rfl rfl (by decide) rfl rfl rfl ?_
  refine sv rfl (opv_as rfl) ?_
  refine snil ?_
  refine cseq ?_
  refine cseq ?_
  refine cregion ?_
  refine sv rfl (opv_mv rfl) ?_
  refine sv rfl (opv_mv rfl) ?_
  refine sv rfl (opv_len_ls si24 rfl rfl (flat_len (f := eGTokensEntry) (fun _ => rfl) _).symm) ?_
  refine sv rfl (opv_geq rfl rfl) ?_
  refine snil ?_
  refine ccond rfl (fun hc => ?_) (fun hc => ?_)
  · replace h := ite_t hc h
    clear hc
    refine cseq ?_
    refine cregion ?_
    refine sv rfl (opv_mv rfl) ?_
    refine sv rfl (opv_loadN ti33 rfl (.lp _ _ _ rfl) (Nat.le_of_ble_eq_true rfl)) ?_
    refine sbuild1 rfl Try.underlying24 ei33 rfl rfl (List.all_eq_true.1 rfl) (by decide) ?_
    refine smem [.box [.i .i64 a2.Tok, .i .i64 a2.Attempt, .i .i64 a2.State, .i .i64 a2.Ts], .arr 33 4 0 (v1.flatMap eGTokensEntry), .arr 33 4 0 ([a2].flatMap eGTokensEntry)] rfl ?_
    obtain ⟨hb2, h⟩ := chk_eq h
    refine sapp (f := eGTokensEntry) (xs := v1) (us := [a2]) rfl Try.underlying24 ei33 ni24 (fun _ => rfl) rfl rfl (.one _ _ _ _ (.ls _ _ _ _ _ _ rfl (flat_len (f := eGTokensEntry) (fun _ => rfl) [a2]).symm)) rfl rfl rfl (.sl _ _ _ (flat_len (f := eGTokensEntry) (fun _ => rfl) _)) rfl rfl hb2 (by decide) ?_
    refine sv rfl (opv_as rfl) ?_
    refine snil ?_
    refine cret ?_
    refine then_ret ?_
    obtain rfl := Option.some.inj h
    refine ⟨Or.inr rfl, _, _, _, (resVs_cons (ResV.tmp _ _ rfl) resVs_nil), (by (repeat' first | exact PubA.nil _ | apply PubA.cons | apply PubV.one | apply PubV.agg | exact PubL.nil | exact PubL.ls _ _ _ _ _ _ rfl (flat_len (f := eGTokensEntry) (fun _ => rfl) _).symm | exact PubL.id _ rfl | exact PubLs.nil _ | apply PubLs.cons)), ?_⟩
    rfl
  · replace h := ite_f hc h
    clear hc
    refine cskip ?_
    refine then_normal ?_
    refine cseq ?_
    refine cregion ?_
    refine sv rfl (opv_mv rfl) ?_
    refine sv rfl (opv_mv rfl) ?_
    refine sv rfl (opv_loadN ti33 rfl (.lp _ _ _ rfl) (Nat.le_of_ble_eq_true rfl)) ?_
    obtain ⟨u3, hu3, h⟩ := bind_eq h
    refine sv rfl (opv_ixo (f := eGTokensEntry) si24 (fun _ => rfl) rfl rfl rfl rfl rfl hu3) ?_
    refine sseto (f := eGTokensEntry) (u' := a2) (sz := 4) 0 sz33 (fun _ => rfl) rfl rfl rfl rfl rfl rfl rfl (List.all_eq_true.1 rfl) (idx_eq hu3).2 (Nat.le_of_ble_eq_true rfl) rfl ?_
    refine stell 9 (y := .s (.one (.ls 1 v1.length))) (.s (.one (.ls 1 (v1.set a1.toNat a2).length))) rfl (congrArg (fun n => AV.s (.one (.ls 1 n))) List.length_set.symm) ?_
    refine stell 7 (y := .s (.one (.ls 1 v1.length))) (.s (.one (.ls 1 (v1.set a1.toNat a2).length))) rfl (congrArg (fun n => AV.s (.one (.ls 1 n))) List.length_set.symm) ?_
    refine stell 11 (y := .s (.one (.ls 1 v1.length))) (.s (.one (.ls 1 (v1.set a1.toNat a2).length))) rfl (congrArg (fun n => AV.s (.one (.ls 1 n))) List.length_set.symm) ?_
    refine stell 18 (y := .s (.one (.ls 1 v1.length))) (.s (.one (.ls 1 (v1.set a1.toNat a2).length))) rfl (congrArg (fun n => AV.s (.one (.ls 1 n))) List.length_set.symm) ?_
    refine snil ?_
    refine cseq ?_
    refine cregion ?_
    refine sv rfl (opv_mv rfl) ?_
    refine sv rfl (opv_as rfl) ?_
    refine snil ?_
    refine cret ?_
    obtain rfl := Option.some.inj h
    refine ⟨Or.inr rfl, _, _, _, (resVs_cons (ResV.tmp _ _ rfl) resVs_nil), (by (repeat' first | exact PubA.nil _ | apply PubA.cons | apply PubV.one | apply PubV.agg | exact PubL.nil | exact PubL.ls _ _ _ _ _ _ rfl (flat_len (f := eGTokensEntry) (fun _ => rfl) _).symm | exact PubL.id _ rfl | exact PubLs.nil _ | apply PubLs.cons)), ?_⟩
    rfl

def m18_tokens_set (a0 : GTokensTable) (a1 : GTokensEntry) : Option (GTokensTable × Int) :=
  (m15_tokens_place a0 a1.Tok).bind fun v1 => if (decide (32 ≤ v1)) then (some ((GTokensTable.mk ([] : List GTokensEntry)), 8)) else ((m21_tokens_put a0.L v1 (GTokensEntry.mk a1.Tok a1.Attempt a1.State a1.Ts)).bind fun v2 => some ((GTokensTable.mk v2), 0))

set_option maxRecDepth 100000 in
theorem m18_tokens_set_c {a0 : GTokensTable} {a1 : GTokensEntry} {r : GTokensTable × Int} (h : m18_tokens_set a0 a1 = some r) : CallsA Try.prog 18 [.agg [.sl a0.L.length (a0.L.flatMap eGTokensEntry)], .agg [.i .i64 a1.Tok, .i .i64 a1.Attempt, .i .i64 a1.State, .i .i64 a1.Ts]] (· = .tup [.agg [.sl r.1.L.length (r.1.L.flatMap eGTokensEntry)], .one (.i .i64 r.2)]) := by
  unfold m18_tokens_set at h
  refine callsA_of Try.func18 rfl (nt := 20) rfl (Nat.le_of_ble_eq_true rfl) ?_
  intro w0 S0
  refine cseq ?_
  refine cregion ?_
  refine sbox rfl rfl ?_
  refine sbox rfl rfl ?_
  refine salloc rfl zi26 ?_
  refine sv rfl (opv_as rfl) ?_
  refine snil ?_
  refine cseq ?_
  refine cregion ?_
  refine sv rfl (opv_loadN ti26 rfl (.lp _ _ _ rfl) (Nat.le_of_ble_eq_true rfl)) ?_
  refine sv rfl (opv_fieldAddr_lp fi33_0 rfl) ?_
  refine sv rfl (opv_load1 ti3 rfl (.lp _ _ _ rfl) rfl) ?_
  obtain ⟨v1, hv1, h⟩ := bind_eq h
  refine scall1 rfl fn15 (opnds_cons rfl (opnds_cons rfl opnds_nil)) (pubA_id rfl) (m15_tokens_place_c hv1) ?_
  refine sv rfl (opv_as rfl) ?_
  refine snil ?_
  refine cseq ?_
  refine cseq ?_
  refine cregion ?_
  refine sv rfl (opv_mv rfl) ?_
  refine sv rfl (opv_geq rfl rfl) ?_
  refine snil ?_
  refine ccond rfl (fun hc => ?_) (fun hc => ?_)
  · replace h := ite_t hc h
    clear hc
    refine cseq ?_
    refine cregion ?_
    refine sv rfl (opv_build zi26 pi26 parts_nil (.nil _)) ?_
    refine sstore sz26 rfl rfl rfl rfl (Nat.le_of_ble_eq_true rfl) ?_
    refine smem [.box [.sl a0.L.length (a0.L.flatMap eGTokensEntry)], .box [.i .i64 a1.Tok, .i .i64 a1.Attempt, .i .i64 a1.State, .i .i64 a1.Ts], .box [.raw (.slice none 0 0)]] rfl ?_
    refine sv rfl (opv_as rfl) ?_
    refine snil ?_
    refine cret ?_
    refine then_ret ?_
    obtain rfl := Option.some.inj h
    refine ⟨Or.inr rfl, _, _, _, (resVs_cons (ResV.agg _ _ _ _ _ ti26 rfl (.lp _ _ _ rfl) (Nat.le_of_ble_eq_true rfl)) (resVs_cons (ResV.tmp _ _ rfl) resVs_nil)), (pubC rfl), ?_⟩
    rfl
  · replace h := ite_f hc h
    clear hc
    refine cskip ?_
    refine then_normal ?_
    refine cseq ?_
    refine cregion ?_
    refine sv rfl (opv_fieldAddr_lp fi26_0 rfl) ?_
    refine sv rfl (opv_load1 ti24 rfl (.lp _ _ _ rfl) rfl) ?_
    refine sv rfl (opv_mv rfl) ?_
    refine sv rfl (opv_loadN ti33 rfl (.lp _ _ _ rfl) (Nat.le_of_ble_eq_true rfl)) ?_
    obtain ⟨v2, hv2, h⟩ := bind_eq h
    refine scall1 rfl fn21 (opnds_cons rfl (opnds_cons rfl (opnds_cons rfl opnds_nil))) (pubA_id rfl) (m21_tokens_put_c hv2) ?_
    refine sv rfl (opv_build zi26 pi26 (parts_cons rfl parts_nil) (.cons _ _ _ _ _ _ _ rfl rfl (Nat.le_of_ble_eq_true rfl) (.nil _))) ?_
    refine sstore sz26 rfl rfl rfl rfl (Nat.le_of_ble_eq_true rfl) ?_
    refine smem [.box [.sl a0.L.length (a0.L.flatMap eGTokensEntry)], .box [.i .i64 a1.Tok, .i .i64 a1.Attempt, .i .i64 a1.State, .i .i64 a1.Ts], .box [.sl v2.length (v2.flatMap eGTokensEntry)]] rfl ?_
    refine sv rfl (opv_as rfl) ?_
    refine snil ?_
    refine cret ?_
    obtain rfl := Option.some.inj h
    refine ⟨Or.inr rfl, _, _, _, (resVs_cons (ResV.agg _ _ _ _ _ ti26 rfl (.lp _ _ _ rfl) (Nat.le_of_ble_eq_true rfl)) (resVs_cons (ResV.tmp _ _ rfl) resVs_nil)), (pubA_id rfl), ?_⟩
    rfl

def m12_tokens_Start_k1 (a0 : GTokensTable) (a1 : Int) (a2 : Int) (b1 : Unit) : Option (GTokensTable × Int) :=
  (m9_tokens_Find a0 a1).bind fun v2 => if v2.2 then (if (decide (v2.1.State = 2)) then (some ((GTokensTable.mk ([] : List GTokensEntry)), 7)) else (if v2.2 then (if (decide (a2 ≤ v2.1.Attempt)) then (some ((GTokensTable.mk ([] : List GTokensEntry)), 14)) else ((m18_tokens_set (GTokensTable.mk a0.L) (GTokensEntry.mk a1 a2 1 0)).bind fun v3 => some (v3.1, v3.2))) else ((m18_tokens_set (GTokensTable.mk a0.L) (GTokensEntry.mk a1 a2 1 0)).bind fun v4 => some (v4.1, v4.2)))) else (if v2.2 then (if (decide (a2 ≤ v2.1.Attempt)) then (some ((GTokensTable.mk ([] : List GTokensEntry)), 14)) else ((m18_tokens_set (GTokensTable.mk a0.L) (GTokensEntry.mk a1 a2 1 0)).bind fun v5 => some (v5.1, v5.2))) else ((m18_tokens_set (GTokensTable.mk a0.L) (GTokensEntry.mk a1 a2 1 0)).bind fun v6 => some (v6.1, v6.2)))
def m12_tokens_Start (a0 : GTokensTable) (a1 : Int) (a2 : Int) : Option (GTokensTable × Int) :=
  (m10_tokens_Sane (GTokensTable.mk a0.L)).bind fun v7 => if (!v7) then (some ((GTokensTable.mk ([] : List GTokensEntry)), 1)) else ((m17_tokens_saneName a1 a2).bind fun v8 => if (!v8) then (some ((GTokensTable.mk ([] : List GTokensEntry)), 1)) else (m12_tokens_Start_k1 a0 a1 a2 ()))

set_option maxRecDepth 100000 in
theorem m12_tokens_Start_c {a0 : GTokensTable} {a1 : Int} {a2 : Int} {r : GTokensTable × Int} (h : m12_tokens_Start a0 a1 a2 = some r) : CallsA Try.prog 12 [.agg [.sl a0.L.length (a0.L.flatMap eGTokensEntry)], .one (.i .i64 a1), .one (.i .i64 a2)] (· = .tup [.agg [.sl r.1.L.length (r.1.L.flatMap eGTokensEntry)], .one (.i .i64 r.2)]) := by
  unfold m12_tokens_Start at h
  refine callsA_of Try.func12 rfl (nt := 50) rfl (Nat.le_of_ble_eq_true rfl) ?_
  intro w0 S0
  refine cseq ?_
  refine cregion ?_
  refine sbox rfl rfl ?_
  refine salloc rfl zi26 ?_
  refine sv rfl (opv_as rfl) ?_
  refine snil ?_
  refine cseq ?_
  refine cseq ?_
  refine cjoin3 (Unit) (fun b1 => [(1, .s (.one (.i .i64 a1))), (2, .s (.one (.i .i64 a2))), (3, .s (.one (.lp 0 0))), (6, .s (.one (.lp 1 0)))]) (fun b1 => [.box [.sl a0.L.length (a0.L.flatMap eGTokensEntry)], .box [.raw (.slice none 0 0)]]) (fun b1 => m12_tokens_Start_k1 a0 a1 a2 b1 = some r) (fun _ _ => inbL_of rfl) (fun _ _ => blkinb_of rfl) (fun _ _ => Nat.le_of_ble_eq_true rfl) (fun b1 h => ?_) ?_
  · unfold m12_tokens_Start_k1 at h
    refine cseq ?_
    refine cregion ?_
    refine sv rfl (opv_loadN ti26 rfl (.lp _ _ _ rfl) (Nat.le_of_ble_eq_true rfl)) ?_
    refine sv rfl (opv_mv rfl) ?_
    obtain ⟨v2, hv2, h⟩ := bind_eq h
    refine scall1 rfl fn9 (opnds_cons rfl (opnds_cons rfl opnds_nil)) (pubA_id rfl) (m9_tokens_Find_c hv2) ?_
    refine sv rfl (opv_mvt rfl) ?_
    refine sv rfl (opv_extract rfl rfl) ?_
    refine sv rfl (opv_extract rfl rfl) ?_
    refine salloc rfl zi33 ?_
    refine sstore sz33 rfl rfl rfl rfl (Nat.le_of_ble_eq_true rfl) ?_
    refine smem [.box [.sl a0.L.length (a0.L.flatMap eGTokensEntry)], .box [.raw (.slice none 0 0)], .box [.i .i64 v2.1.Tok, .i .i64 v2.1.Attempt, .i .i64 v2.1.State, .i .i64 v2.1.Ts]] rfl ?_
    refine sv rfl (opv_as rfl) ?_
    refine snil ?_
    refine cseq ?_
    refine cblock ?_
    refine cseq ?_
    refine cregion ?_
    refine sv rfl (opv_mv rfl) ?_
    refine sv rfl (opv_mv rfl) ?_
    refine ssplit 28 rfl (fun hc => ?_) (fun hc => ?_)
    · replace h := ite_t hc h
      clear hc
      refine son rfl rfl rfl ?_
      refine sv rfl (opv_fieldAddr_lp fi33_2 rfl) ?_
      refine son rfl rfl rfl ?_
      refine sv rfl (opv_load1 ti3 rfl (.lp _ _ _ rfl) rfl) ?_
      refine son rfl rfl rfl ?_
      refine sv rfl (opv_ieql rfl rfl) ?_
      refine sv rfl (opv_pick_t rfl rfl) ?_
      refine sv rfl (opv_as rfl) ?_
      refine snil ?_
      refine ccond rfl (fun hc => ?_) (fun hc => ?_)
      · replace h := ite_t hc h
        clear hc
        refine cseq ?_
        refine cregion ?_
        refine sv rfl (opv_build zi26 pi26 parts_nil (.nil _)) ?_
        refine sstore sz26 rfl rfl rfl rfl (Nat.le_of_ble_eq_true rfl) ?_
        refine smem [.box [.sl a0.L.length (a0.L.flatMap eGTokensEntry)], .box [.raw (.slice none 0 0)], .box [.i .i64 v2.1.Tok, .i .i64 v2.1.Attempt, .i .i64 v2.1.State, .i .i64 v2.1.Ts]] rfl ?_
        refine sv rfl (opv_as rfl) ?_
        refine snil ?_
        refine cret ?_
        refine block_ret ?_
        refine then_ret ?_
        obtain rfl := Option.some.inj h
        refine ⟨Or.inr rfl, _, _, _, (resVs_cons (ResV.agg _ _ _ _ _ ti26 rfl (.lp _ _ _ rfl) (Nat.le_of_ble_eq_true rfl)) (resVs_cons (ResV.tmp _ _ rfl) resVs_nil)), (pubC rfl), ?_⟩
        rfl
      · replace h := ite_f hc h
        clear hc
        refine cseq ?_
        refine cregion ?_
        refine sv rfl (opv_mv rfl) ?_
        refine sv rfl (opv_mv rfl) ?_
        refine ssplit 36 rfl (fun hc => ?_) (fun hc => ?_)
        · replace h := ite_t hc h
          clear hc
          refine son rfl rfl rfl ?_
          refine sv rfl (opv_mv rfl) ?_
          refine son rfl rfl rfl ?_
          refine sv rfl (opv_fieldAddr_lp fi33_1 rfl) ?_
          refine son rfl rfl rfl ?_
          refine sv rfl (opv_load1 ti3 rfl (.lp _ _ _ rfl) rfl) ?_
          refine son rfl rfl rfl ?_
          refine sv rfl (opv_leq rfl rfl) ?_
          refine sv rfl (opv_pick_t rfl rfl) ?_
          refine sv rfl (opv_as rfl) ?_
          refine snil ?_
          refine ccond rfl (fun hc => ?_) (fun hc => ?_)
          · replace h := ite_t hc h
            clear hc
            refine cseq ?_
            refine cregion ?_
            refine sv rfl (opv_build zi26 pi26 parts_nil (.nil _)) ?_
            refine sstore sz26 rfl rfl rfl rfl (Nat.le_of_ble_eq_true rfl) ?_
            refine smem [.box [.sl a0.L.length (a0.L.flatMap eGTokensEntry)], .box [.raw (.slice none 0 0)], .box [.i .i64 v2.1.Tok, .i .i64 v2.1.Attempt, .i .i64 v2.1.State, .i .i64 v2.1.Ts]] rfl ?_
            refine sv rfl (opv_as rfl) ?_
            refine snil ?_
            refine cret ?_
            refine block_ret ?_
            refine then_ret ?_
            obtain rfl := Option.some.inj h
            refine ⟨Or.inr rfl, _, _, _, (resVs_cons (ResV.agg _ _ _ _ _ ti26 rfl (.lp _ _ _ rfl) (Nat.le_of_ble_eq_true rfl)) (resVs_cons (ResV.tmp _ _ rfl) resVs_nil)), (pubC rfl), ?_⟩
            rfl
          · replace h := ite_f hc h
            clear hc
            refine cskip ?_
            refine block_normal ?_
            refine then_normal ?_
            refine cseq ?_
            refine cregion ?_
            refine sv rfl (opv_loadN ti26 rfl (.lp _ _ _ rfl) (Nat.le_of_ble_eq_true rfl)) ?_
            refine sv rfl (opv_mv rfl) ?_
            refine sv rfl (opv_mv rfl) ?_
            refine sv rfl (opv_build zi33 pi33 (parts_cons rfl (parts_cons rfl (parts_cons rfl parts_nil))) (.cons _ _ _ _ _ _ _ rfl rfl (Nat.le_of_ble_eq_true rfl) (.cons _ _ _ _ _ _ _ rfl rfl (Nat.le_of_ble_eq_true rfl) (.cons _ _ _ _ _ _ _ rfl rfl (Nat.le_of_ble_eq_true rfl) (.nil _))))) ?_
            obtain ⟨v3, hv3, h⟩ := bind_eq h
            refine scall1 rfl fn18 (opnds_cons rfl (opnds_cons rfl opnds_nil)) (pubA_id rfl) (m18_tokens_set_c hv3) ?_
            refine sv rfl (opv_extract rfl rfl) ?_
            refine sv rfl (opv_extract rfl rfl) ?_
            refine sstore sz26 rfl rfl rfl rfl (Nat.le_of_ble_eq_true rfl) ?_
            refine smem [.box [.sl a0.L.length (a0.L.flatMap eGTokensEntry)], .box [.sl v3.1.L.length (v3.1.L.flatMap eGTokensEntry)], .box [.i .i64 v2.1.Tok, .i .i64 v2.1.Attempt, .i .i64 v2.1.State, .i .i64 v2.1.Ts]] rfl ?_
            refine sv rfl (opv_as rfl) ?_
            refine snil ?_
            refine cret ?_
            obtain rfl := Option.some.inj h
            refine ⟨Or.inr rfl, _, _, _, (resVs_cons (ResV.agg _ _ _ _ _ ti26 rfl (.lp _ _ _ rfl) (Nat.le_of_ble_eq_true rfl)) (resVs_cons (ResV.tmp _ _ rfl) resVs_nil)), (pubA_id rfl), ?_⟩
            rfl
        · replace h := ite_f hc h
          clear hc
          refine soff rfl rfl rfl rfl ?_
          refine soff rfl rfl rfl rfl ?_
          refine soff rfl rfl rfl rfl ?_
          refine soff rfl rfl rfl rfl ?_
          refine sv rfl (opv_pick_f rfl rfl) ?_
          refine sv rfl (opv_as rfl) ?_
          refine snil ?_
          refine ccond rfl (fun hx => Bool.noConfusion hx) (fun _ => ?_)
          refine cskip ?_
          refine block_normal ?_
          refine then_normal ?_
          refine cseq ?_
          refine cregion ?_
          refine sv rfl (opv_loadN ti26 rfl (.lp _ _ _ rfl) (Nat.le_of_ble_eq_true rfl)) ?_
          refine sv rfl (opv_mv rfl) ?_
          refine sv rfl (opv_mv rfl) ?_
          refine sv rfl (opv_build zi33 pi33 (parts_cons rfl (parts_cons rfl (parts_cons rfl parts_nil))) (.cons _ _ _ _ _ _ _ rfl rfl (Nat.le_of_ble_eq_true rfl) (.cons _ _ _ _ _ _ _ rfl rfl (Nat.le_of_ble_eq_true rfl) (.cons _ _ _ _ _ _ _ rfl rfl (Nat.le_of_ble_eq_true rfl) (.nil _))))) ?_
          obtain ⟨v4, hv4, h⟩ := bind_eq h
          refine scall1 rfl fn18 (opnds_cons rfl (opnds_cons rfl opnds_nil)) (pubA_id rfl) (m18_tokens_set_c hv4) ?_
          refine sv rfl (opv_extract rfl rfl) ?_
          refine sv rfl (opv_extract rfl rfl) ?_
          refine sstore sz26 rfl rfl rfl rfl (Nat.le_of_ble_eq_true rfl) ?_
          refine smem [.box [.sl a0.L.length (a0.L.flatMap eGTokensEntry)], .box [.sl v4.1.L.length (v4.1.L.flatMap eGTokensEntry)], .box [.i .i64 v2.1.Tok, .i .i64 v2.1.Attempt, .i .i64 v2.1.State, .i .i64 v2.1.Ts]] rfl ?_
          refine sv rfl (opv_as rfl) ?_
          refine snil ?_
          refine cret ?_
          obtain rfl := Option.some.inj h
          refine ⟨Or.inr rfl, _, _, _, (resVs_cons (ResV.agg _ _ _ _ _ ti26 rfl (.lp _ _ _ rfl) (Nat.le_of_ble_eq_true rfl)) (resVs_cons (ResV.tmp _ _ rfl) resVs_nil)), (pubA_id rfl), ?_⟩
          rfl
    · replace h := ite_f hc h
      clear hc
      refine soff rfl rfl rfl rfl ?_
      refine soff rfl rfl rfl rfl ?_
      refine soff rfl rfl rfl rfl ?_
      refine sv rfl (opv_pick_f rfl rfl) ?_
      refine sv rfl (opv_as rfl) ?_
      refine snil ?_
      refine ccond rfl (fun hx => Bool.noConfusion hx) (fun _ => ?_)
      refine cseq ?_
      refine cregion ?_
      refine sv rfl (opv_mv rfl) ?_
      refine sv rfl (opv_mv rfl) ?_
      refine ssplit 36 rfl (fun hc => ?_) (fun hc => ?_)
      · replace h := ite_t hc h
        clear hc
        refine son rfl rfl rfl ?_
        refine sv rfl (opv_mv rfl) ?_
        refine son rfl rfl rfl ?_
        refine sv rfl (opv_fieldAddr_lp fi33_1 rfl) ?_
        refine son rfl rfl rfl ?_
        refine sv rfl (opv_load1 ti3 rfl (.lp _ _ _ rfl) rfl) ?_
        refine son rfl rfl rfl ?_
        refine sv rfl (opv_leq rfl rfl) ?_
        refine sv rfl (opv_pick_t rfl rfl) ?_
        refine sv rfl (opv_as rfl) ?_
        refine snil ?_
        refine ccond rfl (fun hc => ?_) (fun hc => ?_)
        · replace h := ite_t hc h
          clear hc
          refine cseq ?_
          refine cregion ?_
          refine sv rfl (opv_build zi26 pi26 parts_nil (.nil _)) ?_
          refine sstore sz26 rfl rfl rfl rfl (Nat.le_of_ble_eq_true rfl) ?_
          refine smem [.box [.sl a0.L.length (a0.L.flatMap eGTokensEntry)], .box [.raw (.slice none 0 0)], .box [.i .i64 v2.1.Tok, .i .i64 v2.1.Attempt, .i .i64 v2.1.State, .i .i64 v2.1.Ts]] rfl ?_
          refine sv rfl (opv_as rfl) ?_
          refine snil ?_
          refine cret ?_
          refine block_ret ?_
          refine then_ret ?_
          obtain rfl := Option.some.inj h
          refine ⟨Or.inr rfl, _, _, _, (resVs_cons (ResV.agg _ _ _ _ _ ti26 rfl (.lp _ _ _ rfl) (Nat.le_of_ble_eq_true rfl)) (resVs_cons (ResV.tmp _ _ rfl) resVs_nil)), (pubC rfl), ?_⟩
          rfl
        · replace h := ite_f hc h
          clear hc
          refine cskip ?_
          refine block_normal ?_
          refine then_normal ?_
          refine cseq ?_
          refine cregion ?_
          refine sv rfl (opv_loadN ti26 rfl (.lp _ _ _ rfl) (Nat.le_of_ble_eq_true rfl)) ?_
          refine sv rfl (opv_mv rfl) ?_
          refine sv rfl (opv_mv rfl) ?_
          refine sv rfl (opv_build zi33 pi33 (parts_cons rfl (parts_cons rfl (parts_cons rfl parts_nil))) (.cons _ _ _ _ _ _ _ rfl rfl (Nat.le_of_ble_eq_true rfl) (.cons _ _ _ _ _ _ _ rfl rfl (Nat.le_of_ble_eq_true rfl) (.cons _ _ _ _ _ _ _ rfl rfl (Nat.le_of_ble_eq_true rfl) (.nil _))))) ?_
          obtain ⟨v5, hv5, h⟩ := bind_eq h
          refine scall1 rfl fn18 (opnds_cons rfl (opnds_cons rfl opnds_nil)) (pubA_id rfl) (m18_tokens_set_c hv5) ?_
          refine sv rfl (opv_extract rfl rfl) ?_
          refine sv rfl (opv_extract rfl rfl) ?_
          refine sstore sz26 rfl rfl rfl rfl (Nat.le_of_ble_eq_true rfl) ?_
          refine smem [.box [.sl a0.L.length (a0.L.flatMap eGTokensEntry)], .box [.sl v5.1.L.length (v5.1.L.flatMap eGTokensEntry)], .box [.i .i64 v2.1.Tok, .i .i64 v2.1.Attempt, .i .i64 v2.1.State, .i .i64 v2.1.Ts]] rfl ?_
          refine sv rfl (opv_as rfl) ?_
          refine snil ?_
          refine cret ?_
          obtain rfl := Option.some.inj h
          refine ⟨Or.inr rfl, _, _, _, (resVs_cons (ResV.agg _ _ _ _ _ ti26 rfl (.lp _ _ _ rfl) (Nat.le_of_ble_eq_true rfl)) (resVs_cons (ResV.tmp _ _ rfl) resVs_nil)), (pubA_id rfl), ?_⟩
          rfl
      · replace h := ite_f hc h
        clear hc
        refine soff rfl rfl rfl rfl ?_
        refine soff rfl rfl rfl rfl ?_
        refine soff rfl rfl rfl rfl ?_
        refine soff rfl rfl rfl rfl ?_
        refine sv rfl (opv_pick_f rfl rfl) ?_
        refine sv rfl (opv_as rfl) ?_
        refine snil ?_
        refine ccond rfl (fun hx => Bool.noConfusion hx) (fun _ => ?_)
        refine cskip ?_
        refine block_normal ?_
        refine then_normal ?_
        refine cseq ?_
        refine cregion ?_
        refine sv rfl (opv_loadN ti26 rfl (.lp _ _ _ rfl) (Nat.le_of_ble_eq_true rfl)) ?_
        refine sv rfl (opv_mv rfl) ?_
        refine sv rfl (opv_mv rfl) ?_
        refine sv rfl (opv_build zi33 pi33 (parts_cons rfl (parts_cons rfl (parts_cons rfl parts_nil))) (.cons _ _ _ _ _ _ _ rfl rfl (Nat.le_of_ble_eq_true rfl) (.cons _ _ _ _ _ _ _ rfl rfl (Nat.le_of_ble_eq_true rfl) (.cons _ _ _ _ _ _ _ rfl rfl (Nat.le_of_ble_eq_true rfl) (.nil _))))) ?_
        obtain ⟨v6, hv6, h⟩ := bind_eq h
        refine scall1 rfl fn18 (opnds_cons rfl (opnds_cons rfl opnds_nil)) (pubA_id rfl) (m18_tokens_set_c hv6) ?_
        refine sv rfl (opv_extract rfl rfl) ?_
        refine sv rfl (opv_extract rfl rfl) ?_
        refine sstore sz26 rfl rfl rfl rfl (Nat.le_of_ble_eq_true rfl) ?_
        refine smem [.box [.sl a0.L.length (a0.L.flatMap eGTokensEntry)], .box [.sl v6.1.L.length (v6.1.L.flatMap eGTokensEntry)], .box [.i .i64 v2.1.Tok, .i .i64 v2.1.Attempt, .i .i64 v2.1.State, .i .i64 v2.1.Ts]] rfl ?_
        refine sv rfl (opv_as rfl) ?_
        refine snil ?_
        refine cret ?_
        obtain rfl := Option.some.inj h
        refine ⟨Or.inr rfl, _, _, _, (resVs_cons (ResV.agg _ _ _ _ _ ti26 rfl (.lp _ _ _ rfl) (Nat.le_of_ble_eq_true rfl)) (resVs_cons (ResV.tmp _ _ rfl) resVs_nil)), (pubA_id rfl), ?_⟩
        rfl
  · skip
    refine cregion ?_
    refine sv rfl (opv_loadN ti26 rfl (.lp _ _ _ rfl) (Nat.le_of_ble_eq_true rfl)) ?_
    obtain ⟨v7, hv7, h⟩ := bind_eq h
    refine scall1 rfl fn10 (opnds_cons rfl opnds_nil) (pubA_id rfl) (m10_tokens_Sane_c hv7) ?_
    refine sv rfl (opv_not rfl) ?_
    refine sv rfl (opv_mv rfl) ?_
    refine ssplit 13 rfl (fun hc => ?_) (fun hc => ?_)
    · replace h := ite_t hc h
      clear hc
      refine soff rfl rfl rfl rfl ?_
      refine soff rfl rfl rfl rfl ?_
      refine soff rfl rfl rfl rfl ?_
      refine soff rfl rfl rfl rfl ?_
      refine sv rfl (opv_pick_t rfl rfl) ?_
      refine snil ?_
      refine ccond rfl (fun _ => ?_) (fun hx => Bool.noConfusion hx)
      refine cseq ?_
      refine cregion ?_
      refine sv rfl (opv_build zi26 pi26 parts_nil (.nil _)) ?_
      refine sstore sz26 rfl rfl rfl rfl (Nat.le_of_ble_eq_true rfl) ?_
      refine smem [.box [.sl a0.L.length (a0.L.flatMap eGTokensEntry)], .box [.raw (.slice none 0 0)]] rfl ?_
      refine sv rfl (opv_as rfl) ?_
      refine snil ?_
      refine cret ?_
      refine then_ret ?_
      obtain rfl := Option.some.inj h
      refine ⟨Or.inr rfl, _, _, _, (resVs_cons (ResV.agg _ _ _ _ _ ti26 rfl (.lp _ _ _ rfl) (Nat.le_of_ble_eq_true rfl)) (resVs_cons (ResV.tmp _ _ rfl) resVs_nil)), (pubC rfl), ?_⟩
      rfl
    · replace h := ite_f hc h
      clear hc
      refine son rfl rfl rfl ?_
      refine sv rfl (opv_mv rfl) ?_
      refine son rfl rfl rfl ?_
      refine sv rfl (opv_mv rfl) ?_
      refine son rfl rfl rfl ?_
      obtain ⟨v8, hv8, h⟩ := bind_eq h
      refine scall1 rfl fn17 (opnds_cons rfl (opnds_cons rfl opnds_nil)) (pubA_id rfl) (m17_tokens_saneName_c hv8) ?_
      refine son rfl rfl rfl ?_
      refine sv rfl (opv_not rfl) ?_
      refine sv rfl (opv_pick_f rfl rfl) ?_
      refine snil ?_
      refine ccond rfl (fun hc => ?_) (fun hc => ?_)
      · replace h := ite_t hc h
        clear hc
        refine cseq ?_
        refine cregion ?_
        refine sv rfl (opv_build zi26 pi26 parts_nil (.nil _)) ?_
        refine sstore sz26 rfl rfl rfl rfl (Nat.le_of_ble_eq_true rfl) ?_
        refine smem [.box [.sl a0.L.length (a0.L.flatMap eGTokensEntry)], .box [.raw (.slice none 0 0)]] rfl ?_
        refine sv rfl (opv_as rfl) ?_
        refine snil ?_
        refine cret ?_
        refine then_ret ?_
        obtain rfl := Option.some.inj h
        refine ⟨Or.inr rfl, _, _, _, (resVs_cons (ResV.agg _ _ _ _ _ ti26 rfl (.lp _ _ _ rfl) (Nat.le_of_ble_eq_true rfl)) (resVs_cons (ResV.tmp _ _ rfl) resVs_nil)), (pubC rfl), ?_⟩
        rfl
      · replace h := ite_f hc h
        clear hc
        refine cskip ?_
        refine then_normal ?_
        exact ⟨(), _, h, ⟨rfl, rfl, rfl, rfl, trivial⟩, rfl⟩

def m11_tokens_Fence_k1 (a0 : GTokensTable) (a1 : Int) (a2 : Int) (b1 : Unit) : Option (GTokensTable × Int × Int) :=
  (m9_tokens_Find a0 a1).bind fun v2 => if (decide (v2.1.State = 2)) then (some (a0, v2.1.Ts, 0)) else ((m18_tokens_set a0 (GTokensEntry.mk a1 (if a2 > v2.1.Attempt then a2 else v2.1.Attempt) 3 0)).bind fun v3 => some (v3.1, 0, v3.2))
def m11_tokens_Fence (a0 : GTokensTable) (a1 : Int) (a2 : Int) : Option (GTokensTable × Int × Int) :=
  (m10_tokens_Sane a0).bind fun v4 => if (!v4) then (some ((GTokensTable.mk ([] : List GTokensEntry)), 0, 1)) else ((m17_tokens_saneName a1 a2).bind fun v5 => if (!v5) then (some ((GTokensTable.mk ([] : List GTokensEntry)), 0, 1)) else (m11_tokens_Fence_k1 a0 a1 a2 ()))

set_option maxRecDepth 100000 in
theorem m11_tokens_Fence_c {a0 : GTokensTable} {a1 : Int} {a2 : Int} {r : GTokensTable × Int × Int} (h : m11_tokens_Fence a0 a1 a2 = some r) : CallsA Try.prog 11 [.agg [.sl a0.L.length (a0.L.flatMap eGTokensEntry)], .one (.i .i64 a1), .one (.i .i64 a2)] (· = .tup [.agg [.sl r.1.L.length (r.1.L.flatMap eGTokensEntry)], .one (.i .i64 r.2.1), .one (.i .i64 r.2.2)]) := by
  unfold m11_tokens_Fence at h
  refine callsA_of Try.func11 rfl (nt := 48) rfl (Nat.le_of_ble_eq_true rfl) ?_
  intro w0 S0
  refine cseq ?_
  refine cregion ?_
  refine sbox rfl rfl ?_
  refine salloc rfl zi26 ?_
  refine sv rfl (opv_as rfl) ?_
  refine sv rfl (opv_as rfl) ?_
  refine snil ?_
  refine cseq ?_
  refine cseq ?_
  refine cjoin3 (Unit) (fun b1 => [(1, .s (.one (.i .i64 a1))), (2, .s (.one (.i .i64 a2))), (3, .s (.one (.lp 0 0))), (6, .s (.one (.lp 1 0)))]) (fun b1 => [.box [.sl a0.L.length (a0.L.flatMap eGTokensEntry)], .box [.raw (.slice none 0 0)]]) (fun b1 => m11_tokens_Fence_k1 a0 a1 a2 b1 = some r) (fun _ _ => inbL_of rfl) (fun _ _ => blkinb_of rfl) (fun _ _ => Nat.le_of_ble_eq_true rfl) (fun b1 h => ?_) ?_
  · unfold m11_tokens_Fence_k1 at h
    refine cseq ?_
    refine cregion ?_
    refine sv rfl (opv_loadN ti26 rfl (.lp _ _ _ rfl) (Nat.le_of_ble_eq_true rfl)) ?_
    refine sv rfl (opv_mv rfl) ?_
    obtain ⟨v2, hv2, h⟩ := bind_eq h
    refine scall1 rfl fn9 (opnds_cons rfl (opnds_cons rfl opnds_nil)) (pubA_id rfl) (m9_tokens_Find_c hv2) ?_
    refine sv rfl (opv_mvt rfl) ?_
    refine sv rfl (opv_extract rfl rfl) ?_
    refine sv rfl (opv_extract rfl rfl) ?_
    refine salloc rfl zi33 ?_
    refine sstore sz33 rfl rfl rfl rfl (Nat.le_of_ble_eq_true rfl) ?_
    refine smem [.box [.sl a0.L.length (a0.L.flatMap eGTokensEntry)], .box [.raw (.slice none 0 0)], .box [.i .i64 v2.1.Tok, .i .i64 v2.1.Attempt, .i .i64 v2.1.State, .i .i64 v2.1.Ts]] rfl ?_
    refine sv rfl (opv_as rfl) ?_
    refine snil ?_
    refine cseq ?_
    refine cseq ?_
    refine cregion ?_
    refine sv rfl (opv_fieldAddr_lp fi33_2 rfl) ?_
    refine sv rfl (opv_load1 ti3 rfl (.lp _ _ _ rfl) rfl) ?_
    refine sv rfl (opv_ieql rfl rfl) ?_
    refine snil ?_
    refine ccond rfl (fun hc => ?_) (fun hc => ?_)
    · replace h := ite_t hc h
      clear hc
      refine cseq ?_
      refine cdraw_e [3] [0, 0, 2, 1, 15, 31] [[.box [.sl a0.L.length (a0.L.flatMap eGTokensEntry)], .box [.raw (.slice none 0 0)], .box [.i .i64 v2.1.Tok, .i .i64 v2.1.Attempt, .i .i64 v2.1.State, .i .i64 v2.1.Ts]], [.box [.sl a0.L.length (a0.L.flatMap eGTokensEntry)], .box [.sl a0.L.length (a0.L.flatMap eGTokensEntry)], .box [.i .i64 v2.1.Tok, .i .i64 v2.1.Attempt, .i .i64 v2.1.State, .i .i64 v2.1.Ts]]] (by kernel_rfl) mixed (by kernel_rfl) (by decide) rfl rfl rfl rfl ?_
      refine ev (sees_at 0 rfl rfl) rfl rfl (opv_loadN ti26 rfl (.lp _ _ _ rfl) (Nat.le_of_ble_eq_true rfl)) ?_
      refine ev (sees_all (md := [.box [.sl a0.L.length (a0.L.flatMap eGTokensEntry)], .dead, .box [.i .i64 v2.1.Tok, .i .i64 v2.1.Attempt, .i .i64 v2.1.State, .i .i64 v2.1.Ts]]) ⟨⟨rfl, ⟨trivial, ⟨rfl, trivial⟩⟩⟩, ⟨⟨rfl, ⟨trivial, ⟨rfl, trivial⟩⟩⟩, trivial⟩⟩) rfl rfl (opv_fieldAddr_lp fi33_3 rfl) ?_
      refine ev (sees_all (md := [.box [.sl a0.L.length (a0.L.flatMap eGTokensEntry)], .dead, .box [.i .i64 v2.1.Tok, .i .i64 v2.1.Attempt, .i .i64 v2.1.State, .i .i64 v2.1.Ts]]) ⟨⟨rfl, ⟨trivial, ⟨rfl, trivial⟩⟩⟩, ⟨⟨rfl, ⟨trivial, ⟨rfl, trivial⟩⟩⟩, trivial⟩⟩) rfl rfl (opv_load1 ti3 rfl (.lp _ _ _ rfl) rfl) ?_
      refine ee0 0 rfl rfl rfl rfl (fun ζ => ?_) ?_
      · refine sstore sz26 rfl rfl rfl rfl (Nat.le_of_ble_eq_true rfl) ?_
        refine smem [.box [.sl a0.L.length (a0.L.flatMap eGTokensEntry)], .box [.sl a0.L.length (a0.L.flatMap eGTokensEntry)], .box [.i .i64 v2.1.Tok, .i .i64 v2.1.Attempt, .i .i64 v2.1.State, .i .i64 v2.1.Ts]] rfl ?_
        exact eend
      refine ev (sees_at 1 rfl rfl) rfl rfl (opv_as rfl) ?_
      refine ev (sees_at 1 rfl rfl) rfl rfl (opv_as rfl) ?_
      refine enil ?_
      refine then_normal ?_
      refine cret ?_
      refine then_ret ?_
      obtain rfl := Option.some.inj h
      refine ⟨Or.inr rfl, _, _, _, (resVs_cons (ResV.agg _ _ _ _ _ ti26 rfl (.lp _ _ _ rfl) (Nat.le_of_ble_eq_true rfl)) (resVs_cons (ResV.tmp _ _ rfl) (resVs_cons (ResV.tmp _ _ rfl) resVs_nil))), (pubA_id rfl), ?_⟩
      rfl
    · replace h := ite_f hc h
      clear hc
      refine cskip ?_
      refine then_normal ?_
      refine cseq ?_
      refine cregion ?_
      refine sv rfl (opv_loadN ti26 rfl (.lp _ _ _ rfl) (Nat.le_of_ble_eq_true rfl)) ?_
      refine sv rfl (opv_mv rfl) ?_
      refine sv rfl (opv_fieldAddr_lp fi33_1 rfl) ?_
      refine sv rfl (opv_load1 ti3 rfl (.lp _ _ _ rfl) rfl) ?_
      refine sv rfl (opv_mv rfl) ?_
      refine sv rfl (opv_max rfl rfl) ?_
      refine sv rfl (opv_build zi33 pi33 (parts_cons rfl (parts_cons rfl (parts_cons rfl parts_nil))) (.cons _ _ _ _ _ _ _ rfl rfl (Nat.le_of_ble_eq_true rfl) (.cons _ _ _ _ _ _ _ rfl rfl (Nat.le_of_ble_eq_true rfl) (.cons _ _ _ _ _ _ _ rfl rfl (Nat.le_of_ble_eq_true rfl) (.nil _))))) ?_
      obtain ⟨v3, hv3, h⟩ := bind_eq h
      refine scall1 rfl fn18 (opnds_cons rfl (opnds_cons rfl opnds_nil)) (pubA_id rfl) (m18_tokens_set_c hv3) ?_
      refine sv rfl (opv_mvt rfl) ?_
      refine sv rfl (opv_extract rfl rfl) ?_
      refine sv rfl (opv_extract rfl rfl) ?_
      refine salloc rfl zi26 ?_
      refine sstore sz26 rfl rfl rfl rfl (Nat.le_of_ble_eq_true rfl) ?_
      refine smem [.box [.sl a0.L.length (a0.L.flatMap eGTokensEntry)], .box [.raw (.slice none 0 0)], .box [.i .i64 v2.1.Tok, .i .i64 v2.1.Attempt, .i .i64 v2.1.State, .i .i64 v2.1.Ts], .box [.sl v3.1.L.length (v3.1.L.flatMap eGTokensEntry)]] rfl ?_
      refine sv rfl (opv_as rfl) ?_
      refine snil ?_
      refine cseq ?_
      refine cregion ?_
      refine sv rfl (opv_loadN ti26 rfl (.lp _ _ _ rfl) (Nat.le_of_ble_eq_true rfl)) ?_
      refine sv rfl (opv_mv rfl) ?_
      refine sstore sz26 rfl rfl rfl rfl (Nat.le_of_ble_eq_true rfl) ?_
      refine smem [.box [.sl a0.L.length (a0.L.flatMap eGTokensEntry)], .box [.sl v3.1.L.length (v3.1.L.flatMap eGTokensEntry)], .box [.i .i64 v2.1.Tok, .i .i64 v2.1.Attempt, .i .i64 v2.1.State, .i .i64 v2.1.Ts], .box [.sl v3.1.L.length (v3.1.L.flatMap eGTokensEntry)]] rfl ?_
      refine sv rfl (opv_as rfl) ?_
      refine sv rfl (opv_as rfl) ?_
      refine snil ?_
      refine cret ?_
      obtain rfl := Option.some.inj h
      refine ⟨Or.inr rfl, _, _, _, (resVs_cons (ResV.agg _ _ _ _ _ ti26 rfl (.lp _ _ _ rfl) (Nat.le_of_ble_eq_true rfl)) (resVs_cons (ResV.tmp _ _ rfl) (resVs_cons (ResV.tmp _ _ rfl) resVs_nil))), (pubA_id rfl), ?_⟩
      rfl
  · skip
    refine cregion ?_
    refine sv rfl (opv_loadN ti26 rfl (.lp _ _ _ rfl) (Nat.le_of_ble_eq_true rfl)) ?_
    obtain ⟨v4, hv4, h⟩ := bind_eq h
    refine scall1 rfl fn10 (opnds_cons rfl opnds_nil) (pubA_id rfl) (m10_tokens_Sane_c hv4) ?_
    refine sv rfl (opv_not rfl) ?_
    refine sv rfl (opv_mv rfl) ?_
    refine ssplit 16 rfl (fun hc => ?_) (fun hc => ?_)
    · replace h := ite_t hc h
      clear hc
      refine soff rfl rfl rfl rfl ?_
      refine soff rfl rfl rfl rfl ?_
      refine soff rfl rfl rfl rfl ?_
      refine soff rfl rfl rfl rfl ?_
      refine sv rfl (opv_pick_t rfl rfl) ?_
      refine snil ?_
      refine ccond rfl (fun _ => ?_) (fun hx => Bool.noConfusion hx)
      refine cseq ?_
      refine cregion ?_
      refine sv rfl (opv_build zi26 pi26 parts_nil (.nil _)) ?_
      refine sstore sz26 rfl rfl rfl rfl (Nat.le_of_ble_eq_true rfl) ?_
      refine smem [.box [.sl a0.L.length (a0.L.flatMap eGTokensEntry)], .box [.raw (.slice none 0 0)]] rfl ?_
      refine sv rfl (opv_as rfl) ?_
      refine sv rfl (opv_as rfl) ?_
      refine snil ?_
      refine cret ?_
      refine then_ret ?_
      obtain rfl := Option.some.inj h
      refine ⟨Or.inr rfl, _, _, _, (resVs_cons (ResV.agg _ _ _ _ _ ti26 rfl (.lp _ _ _ rfl) (Nat.le_of_ble_eq_true rfl)) (resVs_cons (ResV.tmp _ _ rfl) (resVs_cons (ResV.tmp _ _ rfl) resVs_nil))), (pubC rfl), ?_⟩
      rfl
    · replace h := ite_f hc h
      clear hc
      refine son rfl rfl rfl ?_
      refine sv rfl (opv_mv rfl) ?_
      refine son rfl rfl rfl ?_
      refine sv rfl (opv_mv rfl) ?_
      refine son rfl rfl rfl ?_
      obtain ⟨v5, hv5, h⟩ := bind_eq h
      refine scall1 rfl fn17 (opnds_cons rfl (opnds_cons rfl opnds_nil)) (pubA_id rfl) (m17_tokens_saneName_c hv5) ?_
      refine son rfl rfl rfl ?_
      refine sv rfl (opv_not rfl) ?_
      refine sv rfl (opv_pick_f rfl rfl) ?_
      refine snil ?_
      refine ccond rfl (fun hc => ?_) (fun hc => ?_)
      · replace h := ite_t hc h
        clear hc
        refine cseq ?_
        refine cregion ?_
        refine sv rfl (opv_build zi26 pi26 parts_nil (.nil _)) ?_
        refine sstore sz26 rfl rfl rfl rfl (Nat.le_of_ble_eq_true rfl) ?_
        refine smem [.box [.sl a0.L.length (a0.L.flatMap eGTokensEntry)], .box [.raw (.slice none 0 0)]] rfl ?_
        refine sv rfl (opv_as rfl) ?_
        refine sv rfl (opv_as rfl) ?_
        refine snil ?_
        refine cret ?_
        refine then_ret ?_
        obtain rfl := Option.some.inj h
        refine ⟨Or.inr rfl, _, _, _, (resVs_cons (ResV.agg _ _ _ _ _ ti26 rfl (.lp _ _ _ rfl) (Nat.le_of_ble_eq_true rfl)) (resVs_cons (ResV.tmp _ _ rfl) (resVs_cons (ResV.tmp _ _ rfl) resVs_nil))), (pubC rfl), ?_⟩
        rfl
      · replace h := ite_f hc h
        clear hc
        refine cskip ?_
        refine then_normal ?_
        exact ⟨(), _, h, ⟨rfl, rfl, rfl, rfl, trivial⟩, rfl⟩

def m14_tokens_Finish_k1 (a0 : GTokensTable) (a1 : Int) (a2 : Int) (a3 : Int) (b1 : Unit) : Option (GTokensTable × Int) :=
  (m9_tokens_Find a0 a1).bind fun v2 => if (decide (v2.1.State = 2)) then (some ((GTokensTable.mk ([] : List GTokensEntry)), 7)) else (if (!decide (v2.1.State = 1)) then (some ((GTokensTable.mk ([] : List GTokensEntry)), 14)) else (if (!decide (v2.1.Attempt = a2)) then (some ((GTokensTable.mk ([] : List GTokensEntry)), 14)) else ((m18_tokens_set a0 (GTokensEntry.mk a1 a2 2 a3)).bind fun v3 => some (v3.1, v3.2))))
def m14_tokens_Finish (a0 : GTokensTable) (a1 : Int) (a2 : Int) (a3 : Int) : Option (GTokensTable × Int) :=
  (m10_tokens_Sane a0).bind fun v4 => if (!v4) then (some ((GTokensTable.mk ([] : List GTokensEntry)), 1)) else ((m17_tokens_saneName a1 a2).bind fun v5 => if (!v5) then (some ((GTokensTable.mk ([] : List GTokensEntry)), 1)) else ((m20_tokens_saneTs a3).bind fun v6 => if (!v6) then (some ((GTokensTable.mk ([] : List GTokensEntry)), 1)) else (m14_tokens_Finish_k1 a0 a1 a2 a3 ())))

set_option maxRecDepth 100000 in
theorem m14_tokens_Finish_c {a0 : GTokensTable} {a1 : Int} {a2 : Int} {a3 : Int} {r : GTokensTable × Int} (h : m14_tokens_Finish a0 a1 a2 a3 = some r) : CallsA Try.prog 14 [.agg [.sl a0.L.length (a0.L.flatMap eGTokensEntry)], .one (.i .i64 a1), .one (.i .i64 a2), .one (.i .i64 a3)] (· = .tup [.agg [.sl r.1.L.length (r.1.L.flatMap eGTokensEntry)], .one (.i .i64 r.2)]) := by
  unfold m14_tokens_Finish at h
  refine callsA_of Try.func14 rfl (nt := 57) rfl (Nat.le_of_ble_eq_true rfl) ?_
  intro w0 S0
  refine cseq ?_
  refine cregion ?_
  refine sbox rfl rfl ?_
  refine salloc rfl zi26 ?_
  refine sv rfl (opv_as rfl) ?_
  refine snil ?_
  refine cseq ?_
  refine cseq ?_
  refine cjoin3 (Unit) (fun b1 => [(1, .s (.one (.i .i64 a1))), (2, .s (.one (.i .i64 a2))), (3, .s (.one (.i .i64 a3))), (4, .s (.one (.lp 0 0))), (8, .s (.one (.lp 1 0)))]) (fun b1 => [.box [.sl a0.L.length (a0.L.flatMap eGTokensEntry)], .box [.raw (.slice none 0 0)]]) (fun b1 => m14_tokens_Finish_k1 a0 a1 a2 a3 b1 = some r) (fun _ _ => inbL_of rfl) (fun _ _ => blkinb_of rfl) (fun _ _ => Nat.le_of_ble_eq_true rfl) (fun b1 h => ?_) ?_
  · unfold m14_tokens_Finish_k1 at h
    refine cseq ?_
    refine cregion ?_
    refine sv rfl (opv_loadN ti26 rfl (.lp _ _ _ rfl) (Nat.le_of_ble_eq_true rfl)) ?_
    refine sv rfl (opv_mv rfl) ?_
    obtain ⟨v2, hv2, h⟩ := bind_eq h
    refine scall1 rfl fn9 (opnds_cons rfl (opnds_cons rfl opnds_nil)) (pubA_id rfl) (m9_tokens_Find_c hv2) ?_
    refine sv rfl (opv_mvt rfl) ?_
    refine sv rfl (opv_extract rfl rfl) ?_
    refine sv rfl (opv_extract rfl rfl) ?_
    refine salloc rfl zi33 ?_
    refine sstore sz33 rfl rfl rfl rfl (Nat.le_of_ble_eq_true rfl) ?_
    refine smem [.box [.sl a0.L.length (a0.L.flatMap eGTokensEntry)], .box [.raw (.slice none 0 0)], .box [.i .i64 v2.1.Tok, .i .i64 v2.1.Attempt, .i .i64 v2.1.State, .i .i64 v2.1.Ts]] rfl ?_
    refine sv rfl (opv_as rfl) ?_
    refine snil ?_
    refine cseq ?_
    refine cblock ?_
    refine cseq ?_
    refine cregion ?_
    refine sv rfl (opv_fieldAddr_lp fi33_2 rfl) ?_
    refine sv rfl (opv_load1 ti3 rfl (.lp _ _ _ rfl) rfl) ?_
    refine sv rfl (opv_ieql rfl rfl) ?_
    refine sv rfl (opv_as rfl) ?_
    refine snil ?_
    refine ccond rfl (fun hc => ?_) (fun hc => ?_)
    · replace h := ite_t hc h
      clear hc
      refine cseq ?_
      refine cregion ?_
      refine sv rfl (opv_build zi26 pi26 parts_nil (.nil _)) ?_
      refine sstore sz26 rfl rfl rfl rfl (Nat.le_of_ble_eq_true rfl) ?_
      refine smem [.box [.sl a0.L.length (a0.L.flatMap eGTokensEntry)], .box [.raw (.slice none 0 0)], .box [.i .i64 v2.1.Tok, .i .i64 v2.1.Attempt, .i .i64 v2.1.State, .i .i64 v2.1.Ts]] rfl ?_
      refine sv rfl (opv_as rfl) ?_
      refine snil ?_
      refine cret ?_
      refine block_ret ?_
      refine then_ret ?_
      obtain rfl := Option.some.inj h
      refine ⟨Or.inr rfl, _, _, _, (resVs_cons (ResV.agg _ _ _ _ _ ti26 rfl (.lp _ _ _ rfl) (Nat.le_of_ble_eq_true rfl)) (resVs_cons (ResV.tmp _ _ rfl) resVs_nil)), (pubC rfl), ?_⟩
      rfl
    · replace h := ite_f hc h
      clear hc
      refine cseq ?_
      refine cregion ?_
      refine sv rfl (opv_fieldAddr_lp fi33_2 rfl) ?_
      refine sv rfl (opv_load1 ti3 rfl (.lp _ _ _ rfl) rfl) ?_
      refine sv rfl (opv_ineq rfl rfl) ?_
      refine sv rfl (opv_mv rfl) ?_
      refine ssplit 42 rfl (fun hc => ?_) (fun hc => ?_)
      · replace h := ite_t hc h
        clear hc
        refine soff rfl rfl rfl rfl ?_
        refine soff rfl rfl rfl rfl ?_
        refine soff rfl rfl rfl rfl ?_
        refine soff rfl rfl rfl rfl ?_
        refine sv rfl (opv_pick_t rfl rfl) ?_
        refine sv rfl (opv_as rfl) ?_
        refine snil ?_
        refine ccond rfl (fun _ => ?_) (fun hx => Bool.noConfusion hx)
        refine cseq ?_
        refine cregion ?_
        refine sv rfl (opv_build zi26 pi26 parts_nil (.nil _)) ?_
        refine sstore sz26 rfl rfl rfl rfl (Nat.le_of_ble_eq_true rfl) ?_
        refine smem [.box [.sl a0.L.length (a0.L.flatMap eGTokensEntry)], .box [.raw (.slice none 0 0)], .box [.i .i64 v2.1.Tok, .i .i64 v2.1.Attempt, .i .i64 v2.1.State, .i .i64 v2.1.Ts]] rfl ?_
        refine sv rfl (opv_as rfl) ?_
        refine snil ?_
        refine cret ?_
        refine block_ret ?_
        refine then_ret ?_
        obtain rfl := Option.some.inj h
        refine ⟨Or.inr rfl, _, _, _, (resVs_cons (ResV.agg _ _ _ _ _ ti26 rfl (.lp _ _ _ rfl) (Nat.le_of_ble_eq_true rfl)) (resVs_cons (ResV.tmp _ _ rfl) resVs_nil)), (pubC rfl), ?_⟩
        rfl
      · replace h := ite_f hc h
        clear hc
        refine son rfl rfl rfl ?_
        refine sv rfl (opv_fieldAddr_lp fi33_1 rfl) ?_
        refine son rfl rfl rfl ?_
        refine sv rfl (opv_load1 ti3 rfl (.lp _ _ _ rfl) rfl) ?_
        refine son rfl rfl rfl ?_
        refine sv rfl (opv_mv rfl) ?_
        refine son rfl rfl rfl ?_
        refine sv rfl (opv_ineq rfl rfl) ?_
        refine sv rfl (opv_pick_f rfl rfl) ?_
        refine sv rfl (opv_as rfl) ?_
        refine snil ?_
        refine ccond rfl (fun hc => ?_) (fun hc => ?_)
        · replace h := ite_t hc h
          clear hc
          refine cseq ?_
          refine cregion ?_
          refine sv rfl (opv_build zi26 pi26 parts_nil (.nil _)) ?_
          refine sstore sz26 rfl rfl rfl rfl (Nat.le_of_ble_eq_true rfl) ?_
          refine smem [.box [.sl a0.L.length (a0.L.flatMap eGTokensEntry)], .box [.raw (.slice none 0 0)], .box [.i .i64 v2.1.Tok, .i .i64 v2.1.Attempt, .i .i64 v2.1.State, .i .i64 v2.1.Ts]] rfl ?_
          refine sv rfl (opv_as rfl) ?_
          refine snil ?_
          refine cret ?_
          refine block_ret ?_
          refine then_ret ?_
          obtain rfl := Option.some.inj h
          refine ⟨Or.inr rfl, _, _, _, (resVs_cons (ResV.agg _ _ _ _ _ ti26 rfl (.lp _ _ _ rfl) (Nat.le_of_ble_eq_true rfl)) (resVs_cons (ResV.tmp _ _ rfl) resVs_nil)), (pubC rfl), ?_⟩
          rfl
        · replace h := ite_f hc h
          clear hc
          refine cskip ?_
          refine block_normal ?_
          refine then_normal ?_
          refine cseq ?_
          refine cregion ?_
          refine sv rfl (opv_loadN ti26 rfl (.lp _ _ _ rfl) (Nat.le_of_ble_eq_true rfl)) ?_
          refine sv rfl (opv_mv rfl) ?_
          refine sv rfl (opv_mv rfl) ?_
          refine sv rfl (opv_mv rfl) ?_
          refine sv rfl (opv_build zi33 pi33 (parts_cons rfl (parts_cons rfl (parts_cons rfl (parts_cons rfl parts_nil)))) (.cons _ _ _ _ _ _ _ rfl rfl (Nat.le_of_ble_eq_true rfl) (.cons _ _ _ _ _ _ _ rfl rfl (Nat.le_of_ble_eq_true rfl) (.cons _ _ _ _ _ _ _ rfl rfl (Nat.le_of_ble_eq_true rfl) (.cons _ _ _ _ _ _ _ rfl rfl (Nat.le_of_ble_eq_true rfl) (.nil _)))))) ?_
          obtain ⟨v3, hv3, h⟩ := bind_eq h
          refine scall1 rfl fn18 (opnds_cons rfl (opnds_cons rfl opnds_nil)) (pubA_id rfl) (m18_tokens_set_c hv3) ?_
          refine sv rfl (opv_extract rfl rfl) ?_
          refine sv rfl (opv_extract rfl rfl) ?_
          refine sstore sz26 rfl rfl rfl rfl (Nat.le_of_ble_eq_true rfl) ?_
          refine smem [.box [.sl a0.L.length (a0.L.flatMap eGTokensEntry)], .box [.sl v3.1.L.length (v3.1.L.flatMap eGTokensEntry)], .box [.i .i64 v2.1.Tok, .i .i64 v2.1.Attempt, .i .i64 v2.1.State, .i .i64 v2.1.Ts]] rfl ?_
          refine sv rfl (opv_as rfl) ?_
          refine snil ?_
          refine cret ?_
          obtain rfl := Option.some.inj h
          refine ⟨Or.inr rfl, _, _, _, (resVs_cons (ResV.agg _ _ _ _ _ ti26 rfl (.lp _ _ _ rfl) (Nat.le_of_ble_eq_true rfl)) (resVs_cons (ResV.tmp _ _ rfl) resVs_nil)), (pubA_id rfl), ?_⟩
          rfl
  · skip
    refine cregion ?_
    refine sv rfl (opv_loadN ti26 rfl (.lp _ _ _ rfl) (Nat.le_of_ble_eq_true rfl)) ?_
    obtain ⟨v4, hv4, h⟩ := bind_eq h
    refine scall1 rfl fn10 (opnds_cons rfl opnds_nil) (pubA_id rfl) (m10_tokens_Sane_c hv4) ?_
    refine sv rfl (opv_not rfl) ?_
    refine sv rfl (opv_mv rfl) ?_
    refine ssplit 15 rfl (fun hc => ?_) (fun hc => ?_)
    · replace h := ite_t hc h
      clear hc
      refine soff rfl rfl rfl rfl ?_
      refine soff rfl rfl rfl rfl ?_
      refine soff rfl rfl rfl rfl ?_
      refine soff rfl rfl rfl rfl ?_
      refine sv rfl (opv_pick_t rfl rfl) ?_
      refine sv rfl (opv_mv rfl) ?_
      refine soff rfl rfl rfl rfl ?_
      refine soff rfl rfl rfl rfl ?_
      refine soff rfl rfl rfl rfl ?_
      refine sv rfl (opv_pick_t rfl rfl) ?_
      refine snil ?_
      refine ccond rfl (fun _ => ?_) (fun hx => Bool.noConfusion hx)
      refine cseq ?_
      refine cregion ?_
      refine sv rfl (opv_build zi26 pi26 parts_nil (.nil _)) ?_
      refine sstore sz26 rfl rfl rfl rfl (Nat.le_of_ble_eq_true rfl) ?_
      refine smem [.box [.sl a0.L.length (a0.L.flatMap eGTokensEntry)], .box [.raw (.slice none 0 0)]] rfl ?_
      refine sv rfl (opv_as rfl) ?_
      refine snil ?_
      refine cret ?_
      refine then_ret ?_
      obtain rfl := Option.some.inj h
      refine ⟨Or.inr rfl, _, _, _, (resVs_cons (ResV.agg _ _ _ _ _ ti26 rfl (.lp _ _ _ rfl) (Nat.le_of_ble_eq_true rfl)) (resVs_cons (ResV.tmp _ _ rfl) resVs_nil)), (pubC rfl), ?_⟩
      rfl
    · replace h := ite_f hc h
      clear hc
      refine son rfl rfl rfl ?_
      refine sv rfl (opv_mv rfl) ?_
      refine son rfl rfl rfl ?_
      refine sv rfl (opv_mv rfl) ?_
      refine son rfl rfl rfl ?_
      obtain ⟨v5, hv5, h⟩ := bind_eq h
      refine scall1 rfl fn17 (opnds_cons rfl (opnds_cons rfl opnds_nil)) (pubA_id rfl) (m17_tokens_saneName_c hv5) ?_
      refine son rfl rfl rfl ?_
      refine sv rfl (opv_not rfl) ?_
      refine sv rfl (opv_pick_f rfl rfl) ?_
      refine sv rfl (opv_mv rfl) ?_
      refine ssplit 21 rfl (fun hc => ?_) (fun hc => ?_)
      · replace h := ite_t hc h
        clear hc
        refine soff rfl rfl rfl rfl ?_
        refine soff rfl rfl rfl rfl ?_
        refine soff rfl rfl rfl rfl ?_
        refine sv rfl (opv_pick_t rfl rfl) ?_
        refine snil ?_
        refine ccond rfl (fun _ => ?_) (fun hx => Bool.noConfusion hx)
        refine cseq ?_
        refine cregion ?_
        refine sv rfl (opv_build zi26 pi26 parts_nil (.nil _)) ?_
        refine sstore sz26 rfl rfl rfl rfl (Nat.le_of_ble_eq_true rfl) ?_
        refine smem [.box [.sl a0.L.length (a0.L.flatMap eGTokensEntry)], .box [.raw (.slice none 0 0)]] rfl ?_
        refine sv rfl (opv_as rfl) ?_
        refine snil ?_
        refine cret ?_
        refine then_ret ?_
        obtain rfl := Option.some.inj h
        refine ⟨Or.inr rfl, _, _, _, (resVs_cons (ResV.agg _ _ _ _ _ ti26 rfl (.lp _ _ _ rfl) (Nat.le_of_ble_eq_true rfl)) (resVs_cons (ResV.tmp _ _ rfl) resVs_nil)), (pubC rfl), ?_⟩
        rfl
      · replace h := ite_f hc h
        clear hc
        refine son rfl rfl rfl ?_
        refine sv rfl (opv_mv rfl) ?_
        refine son rfl rfl rfl ?_
        obtain ⟨v6, hv6, h⟩ := bind_eq h
        refine scall1 rfl fn20 (opnds_cons rfl opnds_nil) (pubA_id rfl) (m20_tokens_saneTs_c hv6) ?_
        refine son rfl rfl rfl ?_
        refine sv rfl (opv_not rfl) ?_
        refine sv rfl (opv_pick_f rfl rfl) ?_
        refine snil ?_
        refine ccond rfl (fun hc => ?_) (fun hc => ?_)
        · replace h := ite_t hc h
          clear hc
          refine cseq ?_
          refine cregion ?_
          refine sv rfl (opv_build zi26 pi26 parts_nil (.nil _)) ?_
          refine sstore sz26 rfl rfl rfl rfl (Nat.le_of_ble_eq_true rfl) ?_
          refine smem [.box [.sl a0.L.length (a0.L.flatMap eGTokensEntry)], .box [.raw (.slice none 0 0)]] rfl ?_
          refine sv rfl (opv_as rfl) ?_
          refine snil ?_
          refine cret ?_
          refine then_ret ?_
          obtain rfl := Option.some.inj h
          refine ⟨Or.inr rfl, _, _, _, (resVs_cons (ResV.agg _ _ _ _ _ ti26 rfl (.lp _ _ _ rfl) (Nat.le_of_ble_eq_true rfl)) (resVs_cons (ResV.tmp _ _ rfl) resVs_nil)), (pubC rfl), ?_⟩
          rfl
        · replace h := ite_f hc h
          clear hc
          refine cskip ?_
          refine then_normal ?_
          exact ⟨(), _, h, ⟨rfl, rfl, rfl, rfl, rfl, trivial⟩, rfl⟩

def m7_l12_awake  : Option Bool :=
  (m12_tokens_Start (GTokensTable.mk ([] : List GTokensEntry)) 7 1).bind fun v1 => (m11_tokens_Fence v1.1 7 1).bind fun v2 => (m14_tokens_Finish (GTokensTable.mk v2.1.L) 7 1 9).bind fun v3 => (m12_tokens_Start (GTokensTable.mk v2.1.L) 7 2).bind fun v4 => (m14_tokens_Finish v4.1 7 2 9).bind fun v5 => (m9_tokens_Find v5.1 7).bind fun v6 => if (decide (v1.2 = 0)) then (if (decide (v2.2.1 = 0)) then (if (decide (v2.2.2 = 0)) then (if (decide (v3.2 = 14)) then (if (decide (v4.2 = 0)) then (if (decide (v5.2 = 0)) then (if v6.2 then (if (decide (v6.1.State = 2)) then (some (decide (v6.1.Ts = 9))) else (some false)) else (some false)) else (some false)) else (some false)) else (some false)) else (some false)) else (some false)) else (some false)

set_option maxRecDepth 100000 in
theorem m7_l12_awake_c  {r : Bool} (h : m7_l12_awake = some r) : CallsA Try.prog 7 [] (· = .s (.one (.b r))) := by
  unfold m7_l12_awake at h
  refine callsA_of Try.func7 rfl (nt := 77) rfl (Nat.le_of_ble_eq_true rfl) ?_
  intro w0 S0
  refine cseq ?_
  refine cregion ?_
  refine sv rfl (opv_as rfl) ?_
  refine snil ?_
  refine cseq ?_
  refine cregion ?_
  refine sv rfl (opv_build zi26 pi26 parts_nil (.nil _)) ?_
  obtain ⟨v1, hv1, h⟩ := bind_eq h
  refine scall1 rfl fn12 (opnds_cons rfl (opnds_cons rfl (opnds_cons rfl opnds_nil))) (pubC rfl) (m12_tokens_Start_c hv1) ?_
  refine sv rfl (opv_mvt rfl) ?_
  refine sv rfl (opv_extract rfl rfl) ?_
  refine sv rfl (opv_extract rfl rfl) ?_
  refine salloc rfl zi26 ?_
  refine sstore sz26 rfl rfl rfl rfl (Nat.le_of_ble_eq_true rfl) ?_
  refine smem [.box [.sl v1.1.L.length (v1.1.L.flatMap eGTokensEntry)]] rfl ?_
  refine sv rfl (opv_as rfl) ?_
  refine snil ?_
  refine cseq ?_
  refine cregion ?_
  refine sv rfl (opv_loadN ti26 rfl (.lp _ _ _ rfl) (Nat.le_of_ble_eq_true rfl)) ?_
  obtain ⟨v2, hv2, h⟩ := bind_eq h
  refine scall1 rfl fn11 (opnds_cons rfl (opnds_cons rfl (opnds_cons rfl opnds_nil))) (pubA_id rfl) (m11_tokens_Fence_c hv2) ?_
  refine sv rfl (opv_mvt rfl) ?_
  refine sv rfl (opv_extract rfl rfl) ?_
  refine sv rfl (opv_extract rfl rfl) ?_
  refine sv rfl (opv_extract rfl rfl) ?_
  refine sstore sz26 rfl rfl rfl rfl (Nat.le_of_ble_eq_true rfl) ?_
  refine smem [.box [.sl v2.1.L.length (v2.1.L.flatMap eGTokensEntry)]] rfl ?_
  refine sv rfl (opv_as rfl) ?_
  refine sv rfl (opv_as rfl) ?_
  refine snil ?_
  refine cseq ?_
  refine cregion ?_
  refine sv rfl (opv_loadN ti26 rfl (.lp _ _ _ rfl) (Nat.le_of_ble_eq_true rfl)) ?_
  obtain ⟨v3, hv3, h⟩ := bind_eq h
  refine scall1 rfl fn14 (opnds_cons rfl (opnds_cons rfl (opnds_cons rfl (opnds_cons rfl opnds_nil)))) (pubA_id rfl) (m14_tokens_Finish_c hv3) ?_
  refine sv rfl (opv_mvt rfl) ?_
  refine sv rfl (opv_extract rfl rfl) ?_
  refine sv rfl (opv_extract rfl rfl) ?_
  refine salloc rfl zi26 ?_
  refine sstore sz26 rfl rfl rfl rfl (Nat.le_of_ble_eq_true rfl) ?_
  refine smem [.box [.sl v2.1.L.length (v2.1.L.flatMap eGTokensEntry)], .box [.sl v3.1.L.length (v3.1.L.flatMap eGTokensEntry)]] rfl ?_
  refine sv rfl (opv_as rfl) ?_
  refine snil ?_
  refine cseq ?_
  refine cregion ?_
  refine sv rfl (opv_loadN ti26 rfl (.lp _ _ _ rfl) (Nat.le_of_ble_eq_true rfl)) ?_
  obtain ⟨v4, hv4, h⟩ := bind_eq h
  refine scall1 rfl fn12 (opnds_cons rfl (opnds_cons rfl (opnds_cons rfl opnds_nil))) (pubA_id rfl) (m12_tokens_Start_c hv4) ?_
  refine sv rfl (opv_mvt rfl) ?_
  refine sv rfl (opv_extract rfl rfl) ?_
  refine sv rfl (opv_extract rfl rfl) ?_
  refine sstore sz26 rfl rfl rfl rfl (Nat.le_of_ble_eq_true rfl) ?_
  refine smem [.box [.sl v4.1.L.length (v4.1.L.flatMap eGTokensEntry)], .box [.sl v3.1.L.length (v3.1.L.flatMap eGTokensEntry)]] rfl ?_
  refine sv rfl (opv_as rfl) ?_
  refine snil ?_
  refine cseq ?_
  refine cregion ?_
  refine sv rfl (opv_loadN ti26 rfl (.lp _ _ _ rfl) (Nat.le_of_ble_eq_true rfl)) ?_
  obtain ⟨v5, hv5, h⟩ := bind_eq h
  refine scall1 rfl fn14 (opnds_cons rfl (opnds_cons rfl (opnds_cons rfl (opnds_cons rfl opnds_nil)))) (pubA_id rfl) (m14_tokens_Finish_c hv5) ?_
  refine sv rfl (opv_mvt rfl) ?_
  refine sv rfl (opv_extract rfl rfl) ?_
  refine sv rfl (opv_extract rfl rfl) ?_
  refine sstore sz26 rfl rfl rfl rfl (Nat.le_of_ble_eq_true rfl) ?_
  refine smem [.box [.sl v5.1.L.length (v5.1.L.flatMap eGTokensEntry)], .box [.sl v3.1.L.length (v3.1.L.flatMap eGTokensEntry)]] rfl ?_
  refine sv rfl (opv_as rfl) ?_
  refine snil ?_
  refine cseq ?_
  refine cregion ?_
  refine sv rfl (opv_loadN ti26 rfl (.lp _ _ _ rfl) (Nat.le_of_ble_eq_true rfl)) ?_
  obtain ⟨v6, hv6, h⟩ := bind_eq h
  refine scall1 rfl fn9 (opnds_cons rfl (opnds_cons rfl opnds_nil)) (pubA_id rfl) (m9_tokens_Find_c hv6) ?_
  refine sv rfl (opv_mvt rfl) ?_
  refine sv rfl (opv_extract rfl rfl) ?_
  refine sv rfl (opv_extract rfl rfl) ?_
  refine salloc rfl zi33 ?_
  refine sstore sz33 rfl rfl rfl rfl (Nat.le_of_ble_eq_true rfl) ?_
  refine smem [.box [.sl v5.1.L.length (v5.1.L.flatMap eGTokensEntry)], .box [.sl v3.1.L.length (v3.1.L.flatMap eGTokensEntry)], .box [.i .i64 v6.1.Tok, .i .i64 v6.1.Attempt, .i .i64 v6.1.State, .i .i64 v6.1.Ts]] rfl ?_
  refine sv rfl (opv_as rfl) ?_
  refine snil ?_
  refine cseq ?_
  refine cregion ?_
  refine sv rfl (opv_mv rfl) ?_
  refine sv rfl (opv_ieql rfl rfl) ?_
  refine sv rfl (opv_mv rfl) ?_
  refine ssplit 44 rfl (fun hc => ?_) (fun hc => ?_)
  · replace h := ite_t hc h
    clear hc
    refine son rfl rfl rfl ?_
    refine sv rfl (opv_mv rfl) ?_
    refine son rfl rfl rfl ?_
    refine sv rfl (opv_ieql rfl rfl) ?_
    refine sv rfl (opv_pick_t rfl rfl) ?_
    refine sv rfl (opv_mv rfl) ?_
    refine ssplit 48 rfl (fun hc => ?_) (fun hc => ?_)
    · replace h := ite_t hc h
      clear hc
      refine son rfl rfl rfl ?_
      refine sv rfl (opv_mv rfl) ?_
      refine son rfl rfl rfl ?_
      refine sv rfl (opv_ieql rfl rfl) ?_
      refine sv rfl (opv_pick_t rfl rfl) ?_
      refine sv rfl (opv_mv rfl) ?_
      refine ssplit 52 rfl (fun hc => ?_) (fun hc => ?_)
      · replace h := ite_t hc h
        clear hc
        refine son rfl rfl rfl ?_
        refine sv rfl (opv_mv rfl) ?_
        refine son rfl rfl rfl ?_
        refine sv rfl (opv_ieql rfl rfl) ?_
        refine sv rfl (opv_pick_t rfl rfl) ?_
        refine sv rfl (opv_mv rfl) ?_
        refine ssplit 56 rfl (fun hc => ?_) (fun hc => ?_)
        · replace h := ite_t hc h
          clear hc
          refine son rfl rfl rfl ?_
          refine sv rfl (opv_mv rfl) ?_
          refine son rfl rfl rfl ?_
          refine sv rfl (opv_ieql rfl rfl) ?_
          refine sv rfl (opv_pick_t rfl rfl) ?_
          refine sv rfl (opv_mv rfl) ?_
          refine ssplit 60 rfl (fun hc => ?_) (fun hc => ?_)
          · replace h := ite_t hc h
            clear hc
            refine son rfl rfl rfl ?_
            refine sv rfl (opv_mv rfl) ?_
            refine son rfl rfl rfl ?_
            refine sv rfl (opv_ieql rfl rfl) ?_
            refine sv rfl (opv_pick_t rfl rfl) ?_
            refine sv rfl (opv_mv rfl) ?_
            refine ssplit 64 rfl (fun hc => ?_) (fun hc => ?_)
            · replace h := ite_t hc h
              clear hc
              refine son rfl rfl rfl ?_
              refine sv rfl (opv_mv rfl) ?_
              refine sv rfl (opv_pick_t rfl rfl) ?_
              refine sv rfl (opv_mv rfl) ?_
              refine ssplit 67 rfl (fun hc => ?_) (fun hc => ?_)
              · replace h := ite_t hc h
                clear hc
                refine son rfl rfl rfl ?_
                refine sv rfl (opv_fieldAddr_lp fi33_2 rfl) ?_
                refine son rfl rfl rfl ?_
                refine sv rfl (opv_load1 ti3 rfl (.lp _ _ _ rfl) rfl) ?_
                refine son rfl rfl rfl ?_
                refine sv rfl (opv_ieql rfl rfl) ?_
                refine sv rfl (opv_pick_t rfl rfl) ?_
                refine sv rfl (opv_mv rfl) ?_
                refine ssplit 72 rfl (fun hc => ?_) (fun hc => ?_)
                · replace h := ite_t hc h
                  clear hc
                  refine son rfl rfl rfl ?_
                  refine sv rfl (opv_fieldAddr_lp fi33_3 rfl) ?_
                  refine son rfl rfl rfl ?_
                  refine sv rfl (opv_load1 ti3 rfl (.lp _ _ _ rfl) rfl) ?_
                  refine son rfl rfl rfl ?_
                  refine sv rfl (opv_ieql rfl rfl) ?_
                  refine sv rfl (opv_pick_t rfl rfl) ?_
                  refine sv rfl (opv_as rfl) ?_
                  refine snil ?_
                  refine cret ?_
                  obtain rfl := Option.some.inj h
                  refine ⟨Or.inr rfl, _, _, _, (resVs_cons (ResV.tmp _ _ rfl) resVs_nil), (pubA_id rfl), ?_⟩
                  rfl
                · replace h := ite_f hc h
                  clear hc
                  refine soff rfl rfl rfl rfl ?_
                  refine soff rfl rfl rfl rfl ?_
                  refine soff rfl rfl rfl rfl ?_
                  refine sv rfl (opv_pick_f rfl rfl) ?_
                  refine sv rfl (opv_as rfl) ?_
                  refine snil ?_
                  refine cret ?_
                  obtain rfl := Option.some.inj h
                  refine ⟨Or.inr rfl, _, _, _, (resVs_cons (ResV.tmp _ _ rfl) resVs_nil), (pubA_id rfl), ?_⟩
                  rfl
              · replace h := ite_f hc h
                clear hc
                refine soff rfl rfl rfl rfl ?_
                refine soff rfl rfl rfl rfl ?_
                refine soff rfl rfl rfl rfl ?_
                refine sv rfl (opv_pick_f rfl rfl) ?_
                refine sv rfl (opv_mv rfl) ?_
                refine soff rfl rfl rfl rfl ?_
                refine soff rfl rfl rfl rfl ?_
                refine soff rfl rfl rfl rfl ?_
                refine sv rfl (opv_pick_f rfl rfl) ?_
                refine sv rfl (opv_as rfl) ?_
                refine snil ?_
                refine cret ?_
                obtain rfl := Option.some.inj h
                refine ⟨Or.inr rfl, _, _, _, (resVs_cons (ResV.tmp _ _ rfl) resVs_nil), (pubA_id rfl), ?_⟩
                rfl
            · replace h := ite_f hc h
              clear hc
              refine soff rfl rfl rfl rfl ?_
              refine sv rfl (opv_pick_f rfl rfl) ?_
              refine sv rfl (opv_mv rfl) ?_
              refine soff rfl rfl rfl rfl ?_
              refine soff rfl rfl rfl rfl ?_
              refine soff rfl rfl rfl rfl ?_
              refine sv rfl (opv_pick_f rfl rfl) ?_
              refine sv rfl (opv_mv rfl) ?_
              refine soff rfl rfl rfl rfl ?_
              refine soff rfl rfl rfl rfl ?_
              refine soff rfl rfl rfl rfl ?_
              refine sv rfl (opv_pick_f rfl rfl) ?_
              refine sv rfl (opv_as rfl) ?_
              refine snil ?_
              refine cret ?_
              obtain rfl := Option.some.inj h
              refine ⟨Or.inr rfl, _, _, _, (resVs_cons (ResV.tmp _ _ rfl) resVs_nil), (pubA_id rfl), ?_⟩
              rfl
          · replace h := ite_f hc h
            clear hc
            refine soff rfl rfl rfl rfl ?_
            refine soff rfl rfl rfl rfl ?_
            refine sv rfl (opv_pick_f rfl rfl) ?_
            refine sv rfl (opv_mv rfl) ?_
            refine soff rfl rfl rfl rfl ?_
            refine sv rfl (opv_pick_f rfl rfl) ?_
            refine sv rfl (opv_mv rfl) ?_
            refine soff rfl rfl rfl rfl ?_
            refine soff rfl rfl rfl rfl ?_
            refine soff rfl rfl rfl rfl ?_
            refine sv rfl (opv_pick_f rfl rfl) ?_
            refine sv rfl (opv_mv rfl) ?_
            refine soff rfl rfl rfl rfl ?_
            refine soff rfl rfl rfl rfl ?_
            refine soff rfl rfl rfl rfl ?_
            refine sv rfl (opv_pick_f rfl rfl) ?_
            refine sv rfl (opv_as rfl) ?_
            refine snil ?_
            refine cret ?_
            obtain rfl := Option.some.inj h
            refine ⟨Or.inr rfl, _, _, _, (resVs_cons (ResV.tmp _ _ rfl) resVs_nil), (pubA_id rfl), ?_⟩
            rfl
        · replace h := ite_f hc h
          clear hc
          refine soff rfl rfl rfl rfl ?_
          refine soff rfl rfl rfl rfl ?_
          refine sv rfl (opv_pick_f rfl rfl) ?_
          refine sv rfl (opv_mv rfl) ?_
          refine soff rfl rfl rfl rfl ?_
          refine soff rfl rfl rfl rfl ?_
          refine sv rfl (opv_pick_f rfl rfl) ?_
          refine sv rfl (opv_mv rfl) ?_
          refine soff rfl rfl rfl rfl ?_
          refine sv rfl (opv_pick_f rfl rfl) ?_
          refine sv rfl (opv_mv rfl) ?_
          refine soff rfl rfl rfl rfl ?_
          refine soff rfl rfl rfl rfl ?_
          refine soff rfl rfl rfl rfl ?_
          refine sv rfl (opv_pick_f rfl rfl) ?_
          refine sv rfl (opv_mv rfl) ?_
          refine soff rfl rfl rfl rfl ?_
          refine soff rfl rfl rfl rfl ?_
          refine soff rfl rfl rfl rfl ?_
          refine sv rfl (opv_pick_f rfl rfl) ?_
          refine sv rfl (opv_as rfl) ?_
          refine snil ?_
          refine cret ?_
          obtain rfl := Option.some.inj h
          refine ⟨Or.inr rfl, _, _, _, (resVs_cons (ResV.tmp _ _ rfl) resVs_nil), (pubA_id rfl), ?_⟩
          rfl
      · replace h := ite_f hc h
        clear hc
        refine soff rfl rfl rfl rfl ?_
        refine soff rfl rfl rfl rfl ?_
        refine sv rfl (opv_pick_f rfl rfl) ?_
        refine sv rfl (opv_mv rfl) ?_
        refine soff rfl rfl rfl rfl ?_
        refine soff rfl rfl rfl rfl ?_
        refine sv rfl (opv_pick_f rfl rfl) ?_
        refine sv rfl (opv_mv rfl) ?_
        refine soff rfl rfl rfl rfl ?_
        refine soff rfl rfl rfl rfl ?_
        refine sv rfl (opv_pick_f rfl rfl) ?_
        refine sv rfl (opv_mv rfl) ?_
        refine soff rfl rfl rfl rfl ?_
        refine sv rfl (opv_pick_f rfl rfl) ?_
        refine sv rfl (opv_mv rfl) ?_
        refine soff rfl rfl rfl rfl ?_
        refine soff rfl rfl rfl rfl ?_
        refine soff rfl rfl rfl rfl ?_
        refine sv rfl (opv_pick_f rfl rfl) ?_
        refine sv rfl (opv_mv rfl) ?_
        refine soff rfl rfl rfl rfl ?_
        refine soff rfl rfl rfl rfl ?_
        refine soff rfl rfl rfl rfl ?_
        refine sv rfl (opv_pick_f rfl rfl) ?_
        refine sv rfl (opv_as rfl) ?_
        refine snil ?_
        refine cret ?_
        obtain rfl := Option.some.inj h
        refine ⟨Or.inr rfl, _, _, _, (resVs_cons (ResV.tmp _ _ rfl) resVs_nil), (pubA_id rfl), ?_⟩
        rfl
    · replace h := ite_f hc h
      clear hc
      refine soff rfl rfl rfl rfl ?_
      refine soff rfl rfl rfl rfl ?_
      refine sv rfl (opv_pick_f rfl rfl) ?_
      refine sv rfl (opv_mv rfl) ?_
      refine soff rfl rfl rfl rfl ?_
      refine soff rfl rfl rfl rfl ?_
      refine sv rfl (opv_pick_f rfl rfl) ?_
      refine sv rfl (opv_mv rfl) ?_
      refine soff rfl rfl rfl rfl ?_
      refine soff rfl rfl rfl rfl ?_
      refine sv rfl (opv_pick_f rfl rfl) ?_
      refine sv rfl (opv_mv rfl) ?_
      refine soff rfl rfl rfl rfl ?_
      refine soff rfl rfl rfl rfl ?_
      refine sv rfl (opv_pick_f rfl rfl) ?_
      refine sv rfl (opv_mv rfl) ?_
      refine soff rfl rfl rfl rfl ?_
      refine sv rfl (opv_pick_f rfl rfl) ?_
      refine sv rfl (opv_mv rfl) ?_
      refine soff rfl rfl rfl rfl ?_
      refine soff rfl rfl rfl rfl ?_
      refine soff rfl rfl rfl rfl ?_
      refine sv rfl (opv_pick_f rfl rfl) ?_
      refine sv rfl (opv_mv rfl) ?_
      refine soff rfl rfl rfl rfl ?_
      refine soff rfl rfl rfl rfl ?_
      refine soff rfl rfl rfl rfl ?_
      refine sv rfl (opv_pick_f rfl rfl) ?_
      refine sv rfl (opv_as rfl) ?_
      refine snil ?_
      refine cret ?_
      obtain rfl := Option.some.inj h
      refine ⟨Or.inr rfl, _, _, _, (resVs_cons (ResV.tmp _ _ rfl) resVs_nil), (pubA_id rfl), ?_⟩
      rfl
  · replace h := ite_f hc h
    clear hc
    refine soff rfl rfl rfl rfl ?_
    refine soff rfl rfl rfl rfl ?_
    refine sv rfl (opv_pick_f rfl rfl) ?_
    refine sv rfl (opv_mv rfl) ?_
    refine soff rfl rfl rfl rfl ?_
    refine soff rfl rfl rfl rfl ?_
    refine sv rfl (opv_pick_f rfl rfl) ?_
    refine sv rfl (opv_mv rfl) ?_
    refine soff rfl rfl rfl rfl ?_
    refine soff rfl rfl rfl rfl ?_
    refine sv rfl (opv_pick_f rfl rfl) ?_
    refine sv rfl (opv_mv rfl) ?_
    refine soff rfl rfl rfl rfl ?_
    refine soff rfl rfl rfl rfl ?_
    refine sv rfl (opv_pick_f rfl rfl) ?_
    refine sv rfl (opv_mv rfl) ?_
    refine soff rfl rfl rfl rfl ?_
    refine soff rfl rfl rfl rfl ?_
    refine sv rfl (opv_pick_f rfl rfl) ?_
    refine sv rfl (opv_mv rfl) ?_
    refine soff rfl rfl rfl rfl ?_
    refine sv rfl (opv_pick_f rfl rfl) ?_
    refine sv rfl (opv_mv rfl) ?_
    refine soff rfl rfl rfl rfl ?_
    refine soff rfl rfl rfl rfl ?_
    refine soff rfl rfl rfl rfl ?_
    refine sv rfl (opv_pick_f rfl rfl) ?_
    refine sv rfl (opv_mv rfl) ?_
    refine soff rfl rfl rfl rfl ?_
    refine soff rfl rfl rfl rfl ?_
    refine soff rfl rfl rfl rfl ?_
    refine sv rfl (opv_pick_f rfl rfl) ?_
    refine sv rfl (opv_as rfl) ?_
    refine snil ?_
    refine cret ?_
    obtain rfl := Option.some.inj h
    refine ⟨Or.inr rfl, _, _, _, (resVs_cons (ResV.tmp _ _ rfl) resVs_nil), (pubA_id rfl), ?_⟩
    rfl

def m22_slices_Growo_k1 (a0 : Int) (b1 : Unit) : Option (List GTokensEntry) :=
  if (decide (0 < (wI (a0 - (wI (0 - 0)))))) then (if 0 < (wI (a0 - (wI (0 - 0)))) ∧ (wI (a0 - (wI (0 - 0)))) * ((32 : Nat) : Int) ≤ 281474976710656 then (if (0 : Int) ≤ 0 ∧ 0 ≤ ((List.replicate (wI (a0 - (wI (0 - 0)))).toNat (GTokensEntry.mk 0 0 0 0)).length : Int) then (some ((List.replicate (wI (a0 - (wI (0 - 0)))).toNat (GTokensEntry.mk 0 0 0 0)).take (0 : Int).toNat)) else none) else none) else (some ([] : List GTokensEntry))
def m22_slices_Growo (a0 : Int) : Option (List GTokensEntry) :=
  if (decide (a0 < 0)) then none else (m22_slices_Growo_k1 a0 ())

set_option maxRecDepth 100000 in
theorem m22_slices_Growo_c {a0 : Int} {r : (List GTokensEntry)} (h : m22_slices_Growo a0 = some r) : CallsB Try.prog 22 [] [.one (.raw (.slice none 0 0)), .one (.i .i64 a0)] (fun y m' => y = .s (.one (.ls 0 r.length)) ∧ m' = [.arr 33 4 0 (r.flatMap eGTokensEntry)]) := by
  unfold m22_slices_Growo at h
  refine callsB_of Try.func22 rfl (nt := 27) rfl (Nat.le_of_ble_eq_true rfl) ?_
  intro w0 S0 X0 H0
  refine cseq ?_
  refine cregion ?_
  refine sv rfl (opv_as rfl) ?_
  refine snil ?_
  refine cseq ?_
  refine cseq ?_
  refine cregion ?_
  refine sv rfl (opv_mv rfl) ?_
  refine sv rfl (opv_lss rfl rfl) ?_
  refine snil ?_
  refine cjoin (Unit) (fun b1 => [(0, .s (.one (.raw (.slice none 0 0)))), (1, .s (.one (.i .i64 a0)))]) (fun b1 => []) (fun b1 => m22_slices_Growo_k1 a0 b1 = some r) (fun _ _ => inbL_of rfl) (fun _ _ => blkinb_of rfl) (fun _ _ => Nat.le_of_ble_eq_true rfl) (fun b1 h => ?_) ?_
  · unfold m22_slices_Growo_k1 at h
    refine cseq ?_
    refine cseq ?_
    refine cregion ?_
    refine sv rfl (opv_mv rfl) ?_
    refine sv rfl (opv_mv rfl) ?_
    refine sv rfl (opv_cap_nil si24 rfl) ?_
    refine sv rfl (opv_mv rfl) ?_
    refine sv rfl (opv_len_nil si24 rfl) ?_
    refine sv rfl (opv_sub rfl rfl) ?_
    refine sv rfl (opv_sub rfl rfl) ?_
    refine sv rfl (opv_as rfl) ?_
    refine snil ?_
    refine cseq ?_
    refine cregion ?_
    refine sv rfl (opv_mv rfl) ?_
    refine sv rfl (opv_gtr rfl rfl) ?_
    refine snil ?_
    refine ccond rfl (fun hc => ?_) (fun hc => ?_)
    · replace h := ite_t hc h
      clear hc
      refine cregion ?_
      refine sv rfl (opv_mv rfl) ?_
      refine sv rfl (opv_mv rfl) ?_
      refine sv rfl (opv_cap_nil si24 rfl) ?_
      refine sv rfl (opv_slice_nil si24 rfl rfl) ?_
      refine sv rfl (opv_mv rfl) ?_
      obtain ⟨hm2, h⟩ := chk_eq h
      refine sappz (f := eGTokensEntry) (z := (GTokensEntry.mk 0 0 0 0)) rfl Try.underlying24 ei33 Try.underlying3 (fun _ => rfl) rfl rfl rfl hm2 (by decide) ?_
      refine sv rfl (opv_mv rfl) ?_
      refine sv rfl (opv_len_nil si24 rfl) ?_
      obtain ⟨hs3, h⟩ := chk_eq h
      refine strunc (f := eGTokensEntry) rfl si24 (fun _ => rfl) rfl rfl rfl rfl rfl hs3 ?_
      refine sv rfl (opv_as rfl) ?_
      refine snil ?_
      refine cseq ?_
      refine cregion ?_
      refine sv rfl (opv_mv rfl) ?_
      refine sv rfl (opv_as rfl) ?_
      refine snil ?_
      refine cret ?_
      obtain rfl := Option.some.inj h
      exact ⟨Or.inr rfl, _, [1], [.one (.ls 0 ((List.replicate (wI (a0 - (wI (0 - 0)))).toNat (GTokensEntry.mk 0 0 0 0)).take (0 : Int).toNat).length)], [.arr 33 4 0 (((List.replicate (wI (a0 - (wI (0 - 0)))).toNat (GTokensEntry.mk 0 0 0 0)).take (0 : Int).toNat).flatMap eGTokensEntry)], (resVs_cons (ResV.tmp _ _ rfl) resVs_nil), rfl, rfl, ⟨by decide, rfl⟩, rfl, rfl, ⟨rfl, rfl⟩⟩
    · replace h := ite_f hc h
      clear hc
      refine cskip ?_
      refine then_normal ?_
      refine cseq ?_
      refine cregion ?_
      refine sv rfl (opv_mv rfl) ?_
      refine sv rfl (opv_as rfl) ?_
      refine snil ?_
      refine sadopt_c 33 4 4 (by decide) rfl ?_
      refine cret ?_
      obtain rfl := Option.some.inj h
      exact ⟨Or.inr rfl, _, [0], [.one (.ls 0 ([] : List GTokensEntry).length)], [.arr 33 4 0 (([] : List GTokensEntry).flatMap eGTokensEntry)], (resVs_cons (ResV.tmp _ _ rfl) resVs_nil), rfl, rfl, ⟨by decide, rfl⟩, rfl, rfl, ⟨rfl, rfl⟩⟩
  · skip
    refine ccond rfl (fun hc => ?_) (fun hc => ?_)
    · replace h := ite_t hc h
      clear hc
      cases h
    · replace h := ite_f hc h
      clear hc
      refine cskip ?_
      refine then_normal ?_
      exact ⟨(), _, h, ⟨rfl, rfl, trivial⟩, rfl⟩

def m19_slices_Concat_k3 (b3 : (List GTokensEntry)) : Option (List GTokensEntry) :=
  some b3

def m19_slices_Concat_s4 (a0 : List (List GTokensEntry)) (s4 : Int × (List GTokensEntry)) : Option (LB (Int × (List GTokensEntry)) ((List GTokensEntry))) :=
  if (decide (s4.1 < (a0.length : Int))) then ((idx a0 s4.1).bind fun u5 => if (s4.2.length + u5.length) * 32 ≤ 140737488355328 then (some (.cont ((wI (s4.1 + 1)), (s4.2 ++ u5)))) else none) else (some (.brk s4.2))

def m19_slices_Concat_k1 (a0 : List (List GTokensEntry)) (b1 : Int) : Option (List GTokensEntry) :=
  (m22_slices_Growo b1).bind fun v2 => (iterB (m19_slices_Concat_s4 a0) fuel (0, v2)).bind fun e7 => m19_slices_Concat_k3 e7

def m19_slices_Concat_s8 (a0 : List (List GTokensEntry)) (s8 : Int × Int) : Option (LB (Int × Int) (Int)) :=
  if (decide (s8.2 < (a0.length : Int))) then ((idx a0 s8.2).bind fun u9 => if (decide ((wI (s8.1 + (u9.length : Int))) < 0)) then none else (some (.cont ((wI (s8.1 + (u9.length : Int))), (wI (s8.2 + 1)))))) else (some (.brk s8.1))
def m19_slices_Concat (a0 : List (List GTokensEntry)) : Option (List GTokensEntry) :=
  (iterB (m19_slices_Concat_s8 a0) fuel (0, 0)).bind fun e10 => m19_slices_Concat_k1 a0 e10

set_option maxRecDepth 100000 in
theorem m19_slices_Concat_c {a0 : List (List GTokensEntry)} {r : (List GTokensEntry)} (h : m19_slices_Concat a0 = some r) : CallsA Try.prog 19 [.one (.sl a0.length (a0.flatMap (eL eGTokensEntry)))] (· = .s (.one (.sl r.length (r.flatMap eGTokensEntry)))) := by
  unfold m19_slices_Concat at h
  refine callsA_of Try.func19 rfl (nt := 36) rfl (Nat.le_of_ble_eq_true rfl) ?_
  intro w0 S0
  refine cseq ?_
  refine cregion ?_
  refine sv rfl (opv_as rfl) ?_
  refine snil ?_
  refine cseq ?_
  refine cregion ?_
  refine sv rfl (opv_as rfl) ?_
  refine snil ?_
  refine cseq ?_
  refine cseq ?_
  refine cregion ?_
  refine sv rfl (opv_mv rfl) ?_
  refine sv rfl (opv_len_sl si52 rfl) ?_
  refine sv rfl (opv_mv rfl) ?_
  refine snil ?_
  refine cjoin (Int) (fun b1 => [(0, .s (.one (.sl a0.length (a0.flatMap (eL eGTokensEntry))))), (3, .s (.one (.i .i64 b1)))]) (fun b1 => []) (fun b1 => m19_slices_Concat_k1 a0 b1 = some r) (fun _ _ => inbL_of rfl) (fun _ _ => blkinb_of rfl) (fun _ _ => Nat.le_of_ble_eq_true rfl) (fun b1 h => ?_) ?_
  · unfold m19_slices_Concat_k1 at h
    refine cseq ?_
    refine cregion ?_
    refine sv rfl (opv_mv rfl) ?_
    obtain ⟨v2, hv2, h⟩ := bind_eq h
    refine scallB (x' := .s (.one (.ls 0 v2.length))) (M' := [.arr 33 4 0 (v2.flatMap eGTokensEntry)]) [] rfl fn22 (.func _) (opnds_cons rfl (opnds_cons rfl opnds_nil)) (m22_slices_Growo_c hv2) rfl rfl (by decide) rfl rfl rfl ?_
    refine sv rfl (opv_as rfl) ?_
    refine snil ?_
    refine cseq ?_
    refine cseq ?_
    refine cregion ?_
    refine sv rfl (opv_mv rfl) ?_
    refine sv rfl (opv_len_sl si52 rfl) ?_
    refine sv rfl (opv_mv rfl) ?_
    refine snil ?_
    refine cjoin ((List GTokensEntry)) (fun b3 => [(6, .s (.one (.ls 0 b3.length)))]) (fun b3 => [.arr 33 4 0 (b3.flatMap eGTokensEntry)]) (fun b3 => m19_slices_Concat_k3 b3 = some r) (fun _ _ => inbL_of rfl) (fun _ _ => blkinb_of rfl) (fun _ _ => Nat.le_of_ble_eq_true rfl) (fun b3 h => ?_) ?_
    · unfold m19_slices_Concat_k3 at h
      refine cseq ?_
      refine cregion ?_
      refine sv rfl (opv_mv rfl) ?_
      refine sv rfl (opv_as rfl) ?_
      refine snil ?_
      refine cret ?_
      obtain rfl := Option.some.inj h
      refine ⟨Or.inr rfl, _, _, _, (resVs_cons (ResV.tmp _ _ rfl) resVs_nil), (by (repeat' first | exact PubA.nil _ | apply PubA.cons | apply PubV.one | apply PubV.agg | exact PubL.nil | exact PubL.ls _ _ _ _ _ _ rfl (flat_len (f := eGTokensEntry) (fun _ => rfl) _).symm | exact PubL.id _ rfl | exact PubLs.nil _ | apply PubLs.cons)), ?_⟩
      rfl
    · skip
      refine cblock ?_
      obtain ⟨x4, hx4, ho4⟩ := bind_eq h
      refine awc_loop (G := Nat × (Int × (List GTokensEntry))) (fun g => [(6, .s (.one (.ls 0 g.2.2.length))), (25, .s (.one (.sl a0.length (a0.flatMap (eL eGTokensEntry))))), (26, .s (.one (.i .i64 (a0.length : Int)))), (27, .s (.one (.i .i64 g.2.1)))]) (fun g => [.arr 33 4 0 (g.2.2.flatMap eGTokensEntry)]) (fun g => iterB (m19_slices_Concat_s4 a0) g.1 g.2 = some x4) (fun g => g.1) (fuel, (0, v2)) hx4 ⟨rfl, rfl, rfl, rfl, trivial⟩ [] rfl (fun _ _ => inbL_of rfl) (fun _ _ => blkinb_of rfl) (fun _ _ => Nat.le_of_ble_eq_true rfl) ?_
      clear hx4 h
      rintro ⟨n4, s4⟩ h
      obtain ⟨n4, y4, rfl, h, hk4⟩ := iterB_eq h
      unfold m19_slices_Concat_s4 at h
      refine cseq ?_
      refine cregion ?_
      refine sv rfl (opv_lss rfl rfl) ?_
      refine snil ?_
      refine cseq ?_
      refine ccond rfl (fun hc => ?_) (fun hc => ?_)
      · replace h := ite_t hc h
        clear hc
        refine cskip ?_
        refine then_normal ?_
        refine cseq ?_
        refine cblock ?_
        refine cseq ?_
        refine cregion ?_
        obtain ⟨u5, hu5, h⟩ := bind_eq h
        refine sv rfl (opv_ix (f := (eL eGTokensEntry)) si52 (fun _ => rfl) rfl rfl rfl rfl hu5) ?_
        refine sv rfl (opv_load1 ti24 rfl (.cp _) rfl) ?_
        refine sv rfl (opv_as rfl) ?_
        refine snil ?_
        refine cregion ?_
        refine sv rfl (opv_mv rfl) ?_
        refine sv rfl (opv_mv rfl) ?_
        obtain ⟨hb6, h⟩ := chk_eq h
        refine sapp (f := eGTokensEntry) (xs := s4.2) (us := u5) rfl Try.underlying24 ei33 ni24 (fun _ => rfl) rfl rfl (.one _ _ _ _ (.id _ rfl)) rfl rfl rfl (.sl _ _ _ (flat_len (f := eGTokensEntry) (fun _ => rfl) _)) rfl rfl hb6 (by decide) ?_
        refine sv rfl (opv_as rfl) ?_
        refine snil0 ?_
        refine block_normal ?_
        refine then_normal ?_
        refine cregion ?_
        refine sv rfl (opv_add rfl rfl) ?_
        refine sv rfl (opv_mv rfl) ?_
        refine snil ?_
        obtain rfl := Option.some.inj h
        exact ⟨(n4, ((wI (s4.1 + 1)), (s4.2 ++ u5))), _, hk4, ⟨rfl, rfl, rfl, rfl, trivial⟩, rfl, Nat.lt_succ_self _⟩
      · replace h := ite_f hc h
        clear hc
        refine cexit ?_
        refine then_exit ?_
        refine then_exit ?_
        refine block_hit ?_
        refine then_normal ?_
        obtain rfl := Option.some.inj h
        obtain rfl : _ = x4 := hk4
        exact ⟨s4.2, _, ho4, ⟨rfl, trivial⟩, rfl⟩
  · skip
    refine cblock ?_
    obtain ⟨x8, hx8, ho8⟩ := bind_eq h
    refine awc_loop (G := Nat × (Int × Int)) (fun g => [(0, .s (.one (.sl a0.length (a0.flatMap (eL eGTokensEntry))))), (3, .s (.one (.i .i64 g.2.1))), (9, .s (.one (.sl a0.length (a0.flatMap (eL eGTokensEntry))))), (10, .s (.one (.i .i64 (a0.length : Int)))), (11, .s (.one (.i .i64 g.2.2)))]) (fun g => []) (fun g => iterB (m19_slices_Concat_s8 a0) g.1 g.2 = some x8) (fun g => g.1) (fuel, (0, 0)) hx8 ⟨rfl, rfl, rfl, rfl, rfl, trivial⟩ [] rfl (fun _ _ => inbL_of rfl) (fun _ _ => blkinb_of rfl) (fun _ _ => Nat.le_of_ble_eq_true rfl) ?_
    clear hx8 h
    rintro ⟨n8, s8⟩ h
    obtain ⟨n8, y8, rfl, h, hk8⟩ := iterB_eq h
    unfold m19_slices_Concat_s8 at h
    refine cseq ?_
    refine cregion ?_
    refine sv rfl (opv_lss rfl rfl) ?_
    refine snil ?_
    refine cseq ?_
    refine ccond rfl (fun hc => ?_) (fun hc => ?_)
    · replace h := ite_t hc h
      clear hc
      refine cskip ?_
      refine then_normal ?_
      refine cseq ?_
      refine cblock ?_
      refine cseq ?_
      refine cregion ?_
      obtain ⟨u9, hu9, h⟩ := bind_eq h
      refine sv rfl (opv_ix (f := (eL eGTokensEntry)) si52 (fun _ => rfl) rfl rfl rfl rfl hu9) ?_
      refine sv rfl (opv_load1 ti24 rfl (.cp _) rfl) ?_
      refine sv rfl (opv_as rfl) ?_
      refine snil ?_
      refine cseq ?_
      refine cregion ?_
      refine sv rfl (opv_mv rfl) ?_
      refine sv rfl (opv_mv rfl) ?_
      refine sv rfl (opv_len_sl si24 rfl) ?_
      refine sv rfl (opv_add rfl rfl) ?_
      refine sv rfl (opv_as rfl) ?_
      refine snil ?_
      refine cseq ?_
      refine cregion ?_
      refine sv rfl (opv_mv rfl) ?_
      refine sv rfl (opv_lss rfl rfl) ?_
      refine snil ?_
      refine ccond rfl (fun hc => ?_) (fun hc => ?_)
      · replace h := ite_t hc h
        clear hc
        cases h
      · replace h := ite_f hc h
        clear hc
        refine cskip ?_
        refine block_normal ?_
        refine then_normal ?_
        refine cregion ?_
        refine sv rfl (opv_add rfl rfl) ?_
        refine sv rfl (opv_mv rfl) ?_
        refine snil ?_
        obtain rfl := Option.some.inj h
        exact ⟨(n8, ((wI (s8.1 + (u9.length : Int))), (wI (s8.2 + 1)))), _, hk8, ⟨rfl, rfl, rfl, rfl, rfl, trivial⟩, rfl, Nat.lt_succ_self _⟩
    · replace h := ite_f hc h
      clear hc
      refine cexit ?_
      refine then_exit ?_
      refine then_exit ?_
      refine block_hit ?_
      refine then_normal ?_
      obtain rfl := Option.some.inj h
      obtain rfl : _ = x8 := hk8
      exact ⟨s8.1, _, ho8, ⟨rfl, rfl, trivial⟩, rfl⟩

def m13_tokens_Release_k1 (a0 : GTokensTable) (a1 : Int) (b1 : Unit) : Option (GTokensTable × Int) :=
  (m9_tokens_Find a0 a1).bind fun v2 => if (!v2.2) then (some ((GTokensTable.mk ([] : List GTokensEntry)), 6)) else (if (decide (v2.1.State = 1)) then (some ((GTokensTable.mk ([] : List GTokensEntry)), 7)) else ((m15_tokens_place a0 a1).bind fun v3 => (cut a0.L 0 v3).bind fun c4 => (cut a0.L (wI (v3 + 1)) (a0.L.length : Int)).bind fun c5 => (m19_slices_Concat ([c4, c5] : List (List GTokensEntry))).bind fun v6 => some ((GTokensTable.mk v6), 0)))
def m13_tokens_Release (a0 : GTokensTable) (a1 : Int) : Option (GTokensTable × Int) :=
  (m10_tokens_Sane (GTokensTable.mk a0.L)).bind fun v7 => if (!v7) then (some ((GTokensTable.mk ([] : List GTokensEntry)), 1)) else ((m17_tokens_saneName a1 0).bind fun v8 => if (!v8) then (some ((GTokensTable.mk ([] : List GTokensEntry)), 1)) else (m13_tokens_Release_k1 a0 a1 ()))

set_option maxRecDepth 100000 in
theorem m13_tokens_Release_c {a0 : GTokensTable} {a1 : Int} {r : GTokensTable × Int} (h : m13_tokens_Release a0 a1 = some r) : CallsA Try.prog 13 [.agg [.sl a0.L.length (a0.L.flatMap eGTokensEntry)], .one (.i .i64 a1)] (· = .tup [.agg [.sl r.1.L.length (r.1.L.flatMap eGTokensEntry)], .one (.i .i64 r.2)]) := by
  unfold m13_tokens_Release at h
  refine callsA_of Try.func13 rfl (nt := 48) rfl (Nat.le_of_ble_eq_true rfl) ?_
  intro w0 S0
  refine cseq ?_
  refine cregion ?_
  refine sbox rfl rfl ?_
  refine salloc rfl zi26 ?_
  refine sv rfl (opv_as rfl) ?_
  refine snil ?_
  refine cseq ?_
  refine cseq ?_
  refine cjoin3 (Unit) (fun b1 => [(1, .s (.one (.i .i64 a1))), (2, .s (.one (.lp 0 0))), (4, .s (.one (.lp 1 0)))]) (fun b1 => [.box [.sl a0.L.length (a0.L.flatMap eGTokensEntry)], .box [.raw (.slice none 0 0)]]) (fun b1 => m13_tokens_Release_k1 a0 a1 b1 = some r) (fun _ _ => inbL_of rfl) (fun _ _ => blkinb_of rfl) (fun _ _ => Nat.le_of_ble_eq_true rfl) (fun b1 h => ?_) ?_
  · unfold m13_tokens_Release_k1 at h
    refine cseq ?_
    refine cregion ?_
    refine sv rfl (opv_loadN ti26 rfl (.lp _ _ _ rfl) (Nat.le_of_ble_eq_true rfl)) ?_
    refine sv rfl (opv_mv rfl) ?_
    obtain ⟨v2, hv2, h⟩ := bind_eq h
    refine scall1 rfl fn9 (opnds_cons rfl (opnds_cons rfl opnds_nil)) (pubA_id rfl) (m9_tokens_Find_c hv2) ?_
    refine sv rfl (opv_mvt rfl) ?_
    refine sv rfl (opv_extract rfl rfl) ?_
    refine sv rfl (opv_extract rfl rfl) ?_
    refine salloc rfl zi33 ?_
    refine sstore sz33 rfl rfl rfl rfl (Nat.le_of_ble_eq_true rfl) ?_
    refine smem [.box [.sl a0.L.length (a0.L.flatMap eGTokensEntry)], .box [.raw (.slice none 0 0)], .box [.i .i64 v2.1.Tok, .i .i64 v2.1.Attempt, .i .i64 v2.1.State, .i .i64 v2.1.Ts]] rfl ?_
    refine sv rfl (opv_as rfl) ?_
    refine snil ?_
    refine cseq ?_
    refine cblock ?_
    refine cseq ?_
    refine cregion ?_
    refine sv rfl (opv_mv rfl) ?_
    refine sv rfl (opv_not rfl) ?_
    refine sv rfl (opv_as rfl) ?_
    refine snil ?_
    refine ccond rfl (fun hc => ?_) (fun hc => ?_)
    · replace h := ite_t hc h
      clear hc
      refine cseq ?_
      refine cregion ?_
      refine sv rfl (opv_build zi26 pi26 parts_nil (.nil _)) ?_
      refine sstore sz26 rfl rfl rfl rfl (Nat.le_of_ble_eq_true rfl) ?_
      refine smem [.box [.sl a0.L.length (a0.L.flatMap eGTokensEntry)], .box [.raw (.slice none 0 0)], .box [.i .i64 v2.1.Tok, .i .i64 v2.1.Attempt, .i .i64 v2.1.State, .i .i64 v2.1.Ts]] rfl ?_
      refine sv rfl (opv_as rfl) ?_
      refine snil ?_
      refine cret ?_
      refine block_ret ?_
      refine then_ret ?_
      obtain rfl := Option.some.inj h
      refine ⟨Or.inr rfl, _, _, _, (resVs_cons (ResV.agg _ _ _ _ _ ti26 rfl (.lp _ _ _ rfl) (Nat.le_of_ble_eq_true rfl)) (resVs_cons (ResV.tmp _ _ rfl) resVs_nil)), (pubC rfl), ?_⟩
      rfl
    · replace h := ite_f hc h
      clear hc
      refine cseq ?_
      refine cregion ?_
      refine sv rfl (opv_fieldAddr_lp fi33_2 rfl) ?_
      refine sv rfl (opv_load1 ti3 rfl (.lp _ _ _ rfl) rfl) ?_
      refine sv rfl (opv_ieql rfl rfl) ?_
      refine sv rfl (opv_as rfl) ?_
      refine snil ?_
      refine ccond rfl (fun hc => ?_) (fun hc => ?_)
      · replace h := ite_t hc h
        clear hc
        refine cseq ?_
        refine cregion ?_
        refine sv rfl (opv_build zi26 pi26 parts_nil (.nil _)) ?_
        refine sstore sz26 rfl rfl rfl rfl (Nat.le_of_ble_eq_true rfl) ?_
        refine smem [.box [.sl a0.L.length (a0.L.flatMap eGTokensEntry)], .box [.raw (.slice none 0 0)], .box [.i .i64 v2.1.Tok, .i .i64 v2.1.Attempt, .i .i64 v2.1.State, .i .i64 v2.1.Ts]] rfl ?_
        refine sv rfl (opv_as rfl) ?_
        refine snil ?_
        refine cret ?_
        refine block_ret ?_
        refine then_ret ?_
        obtain rfl := Option.some.inj h
        refine ⟨Or.inr rfl, _, _, _, (resVs_cons (ResV.agg _ _ _ _ _ ti26 rfl (.lp _ _ _ rfl) (Nat.le_of_ble_eq_true rfl)) (resVs_cons (ResV.tmp _ _ rfl) resVs_nil)), (pubC rfl), ?_⟩
        rfl
      · replace h := ite_f hc h
        clear hc
        refine cskip ?_
        refine block_normal ?_
        refine then_normal ?_
        refine cseq ?_
        refine cregion ?_
        refine sv rfl (opv_loadN ti26 rfl (.lp _ _ _ rfl) (Nat.le_of_ble_eq_true rfl)) ?_
        refine sv rfl (opv_mv rfl) ?_
        obtain ⟨v3, hv3, h⟩ := bind_eq h
        refine scall1 rfl fn15 (opnds_cons rfl (opnds_cons rfl opnds_nil)) (pubA_id rfl) (m15_tokens_place_c hv3) ?_
        refine sv rfl (opv_as rfl) ?_
        refine snil ?_
        refine cseq ?_
        obtain ⟨c4, hc4, h⟩ := bind_eq h
        obtain ⟨c5, hc5, h⟩ := bind_eq h
        obtain ⟨v6, hv6, h⟩ := bind_eq h
        refine cdraw_e [12] [0, 1, 0, 7, 0, 16, 0, 64, 240, 511, 1023, 2047, 4095, 8191] [[.box [.sl a0.L.length (a0.L.flatMap eGTokensEntry)], .box [.raw (.slice none 0 0)], .box [.i .i64 v2.1.Tok, .i .i64 v2.1.Attempt, .i .i64 v2.1.State, .i .i64 v2.1.Ts]], [.box [.sl a0.L.length (a0.L.flatMap eGTokensEntry)], .box [.sl v6.length (v6.flatMap eGTokensEntry)], .box [.i .i64 v2.1.Tok, .i .i64 v2.1.Attempt, .i .i64 v2.1.State, .i .i64 v2.1.Ts]]] (by kernel_rfl) mixed (by kernel_rfl) (by decide) rfl rfl rfl rfl ?_
        refine ev (sees_at 0 rfl rfl) rfl rfl (opv_fieldAddr_lp fi26_0 rfl) ?_
        refine ev (sees_at 0 rfl rfl) rfl rfl (opv_load1 ti24 rfl (.lp _ _ _ rfl) rfl) ?_
        refine ev (sees_at 0 rfl rfl) rfl rfl (opv_mv rfl) ?_
        refine ev (sees_at 0 rfl rfl) rfl rfl (opv_cut (f := eGTokensEntry) (lo := 0) (hi := v3) si24 (fun _ => rfl) rfl rfl rfl bound_none (bound_some rfl (Int.le_trans (cut_eq hc4).1.1 (cut_eq hc4).1.2.1)) hc4) ?_
        refine ev (sees_at 0 rfl rfl) rfl rfl (opv_fieldAddr_lp fi26_0 rfl) ?_
        refine ev (sees_at 0 rfl rfl) rfl rfl (opv_load1 ti24 rfl (.lp _ _ _ rfl) rfl) ?_
        refine ev (sees_at 0 rfl rfl) rfl rfl (opv_mv rfl) ?_
        refine ev (sees_at 0 rfl rfl) rfl rfl (opv_add rfl rfl) ?_
        refine ev (sees_at 0 rfl rfl) rfl rfl (opv_cut (f := eGTokensEntry) (lo := (wI (v3 + 1))) (hi := (a0.L.length : Int)) si24 (fun _ => rfl) rfl rfl rfl (bound_some rfl (cut_eq hc5).1.1) (by exact rfl) hc5) ?_
        refine ed (sees_at 0 rfl rfl) rfl rfl (opD_bld (out := ([c4, c5] : List (List GTokensEntry)).flatMap (eL eGTokensEntry)) Try.underlying52 ei24 (parts_cons rfl (parts_cons rfl parts_nil)) (.cons _ _ _ _ _ _ _ rfl rfl (Nat.le_of_ble_eq_true rfl) (.cons _ _ _ _ _ _ _ rfl rfl (Nat.le_of_ble_eq_true rfl) (.nil _))) rfl (by decide)) ?_
        refine ed (sees_at 0 rfl rfl) rfl rfl (opD_call fn19 (opnds_cons rfl opnds_nil) rfl (m19_slices_Concat_c hv6)) ?_
        refine ev (sees_at 0 rfl rfl) rfl rfl (opv_build zi26 pi26 (parts_cons rfl parts_nil) (.cons _ _ _ _ _ _ _ rfl rfl (Nat.le_of_ble_eq_true rfl) (.nil _))) ?_
        refine ee0 0 rfl rfl rfl rfl (fun ζ => ?_) ?_
        · refine sstore sz26 rfl rfl rfl rfl (Nat.le_of_ble_eq_true rfl) ?_
          refine smem [.box [.sl a0.L.length (a0.L.flatMap eGTokensEntry)], .box [.sl v6.length (v6.flatMap eGTokensEntry)], .box [.i .i64 v2.1.Tok, .i .i64 v2.1.Attempt, .i .i64 v2.1.State, .i .i64 v2.1.Ts]] rfl ?_
          exact eend
        refine ev (sees_at 1 rfl rfl) rfl rfl (opv_as rfl) ?_
        refine enil ?_
        refine then_normal ?_
        refine cret ?_
        obtain rfl := Option.some.inj h
        refine ⟨Or.inr rfl, _, _, _, (resVs_cons (ResV.agg _ _ _ _ _ ti26 rfl (.lp _ _ _ rfl) (Nat.le_of_ble_eq_true rfl)) (resVs_cons (ResV.tmp _ _ rfl) resVs_nil)), (pubA_id rfl), ?_⟩
        rfl
  · skip
    refine cregion ?_
    refine sv rfl (opv_loadN ti26 rfl (.lp _ _ _ rfl) (Nat.le_of_ble_eq_true rfl)) ?_
    obtain ⟨v7, hv7, h⟩ := bind_eq h
    refine scall1 rfl fn10 (opnds_cons rfl opnds_nil) (pubA_id rfl) (m10_tokens_Sane_c hv7) ?_
    refine sv rfl (opv_not rfl) ?_
    refine sv rfl (opv_mv rfl) ?_
    refine ssplit 12 rfl (fun hc => ?_) (fun hc => ?_)
    · replace h := ite_t hc h
      clear hc
      refine soff rfl rfl rfl rfl ?_
      refine soff rfl rfl rfl rfl ?_
      refine soff rfl rfl rfl rfl ?_
      refine sv rfl (opv_pick_t rfl rfl) ?_
      refine snil ?_
      refine ccond rfl (fun _ => ?_) (fun hx => Bool.noConfusion hx)
      refine cseq ?_
      refine cregion ?_
      refine sv rfl (opv_build zi26 pi26 parts_nil (.nil _)) ?_
      refine sstore sz26 rfl rfl rfl rfl (Nat.le_of_ble_eq_true rfl) ?_
      refine smem [.box [.sl a0.L.length (a0.L.flatMap eGTokensEntry)], .box [.raw (.slice none 0 0)]] rfl ?_
      refine sv rfl (opv_as rfl) ?_
      refine snil ?_
      refine cret ?_
      refine then_ret ?_
      obtain rfl := Option.some.inj h
      refine ⟨Or.inr rfl, _, _, _, (resVs_cons (ResV.agg _ _ _ _ _ ti26 rfl (.lp _ _ _ rfl) (Nat.le_of_ble_eq_true rfl)) (resVs_cons (ResV.tmp _ _ rfl) resVs_nil)), (pubC rfl), ?_⟩
      rfl
    · replace h := ite_f hc h
      clear hc
      refine son rfl rfl rfl ?_
      refine sv rfl (opv_mv rfl) ?_
      refine son rfl rfl rfl ?_
      obtain ⟨v8, hv8, h⟩ := bind_eq h
      refine scall1 rfl fn17 (opnds_cons rfl (opnds_cons rfl opnds_nil)) (pubA_id rfl) (m17_tokens_saneName_c hv8) ?_
      refine son rfl rfl rfl ?_
      refine sv rfl (opv_not rfl) ?_
      refine sv rfl (opv_pick_f rfl rfl) ?_
      refine snil ?_
      refine ccond rfl (fun hc => ?_) (fun hc => ?_)
      · replace h := ite_t hc h
        clear hc
        refine cseq ?_
        refine cregion ?_
        refine sv rfl (opv_build zi26 pi26 parts_nil (.nil _)) ?_
        refine sstore sz26 rfl rfl rfl rfl (Nat.le_of_ble_eq_true rfl) ?_
        refine smem [.box [.sl a0.L.length (a0.L.flatMap eGTokensEntry)], .box [.raw (.slice none 0 0)]] rfl ?_
        refine sv rfl (opv_as rfl) ?_
        refine snil ?_
        refine cret ?_
        refine then_ret ?_
        obtain rfl := Option.some.inj h
        refine ⟨Or.inr rfl, _, _, _, (resVs_cons (ResV.agg _ _ _ _ _ ti26 rfl (.lp _ _ _ rfl) (Nat.le_of_ble_eq_true rfl)) (resVs_cons (ResV.tmp _ _ rfl) resVs_nil)), (pubC rfl), ?_⟩
        rfl
      · replace h := ite_f hc h
        clear hc
        refine cskip ?_
        refine then_normal ?_
        exact ⟨(), _, h, ⟨rfl, rfl, rfl, trivial⟩, rfl⟩

def m8_l12_did_k1 (a0 : GTokensTable) (a1 : GL12Act) (b1 : Unit) : Option (GTokensTable × Int) :=
  (m13_tokens_Release (GTokensTable.mk a0.L) a1.Tok).bind fun v2 => some (v2.1, v2.2)

def m8_l12_did_k5 (a0 : GTokensTable) (a1 : GL12Act) (a2 : Int) (b5 : Bool) : Option (GTokensTable × Int) :=
  if b5 then ((m14_tokens_Finish (GTokensTable.mk a0.L) a1.Tok a1.Attempt a2).bind fun v6 => some (v6.1, v6.2)) else (if (decide (a1.What = 4)) then ((m11_tokens_Fence (GTokensTable.mk a0.L) a1.Tok a1.Attempt).bind fun v7 => some (v7.1, v7.2.2)) else (m8_l12_did_k1 a0 a1 ()))

def m8_l12_did_k3 (a0 : GTokensTable) (a1 : GL12Act) (a2 : Int) (b3 : Bool) : Option (GTokensTable × Int) :=
  if b3 then ((m12_tokens_Start (GTokensTable.mk a0.L) a1.Tok a1.Attempt).bind fun v4 => some (v4.1, v4.2)) else (if (decide (a1.What = 2)) then (m8_l12_did_k5 a0 a1 a2 (decide (a1.What = 2))) else (m8_l12_did_k5 a0 a1 a2 (decide (a1.What = 3))))
def m8_l12_did (a0 : GTokensTable) (a1 : GL12Act) (a2 : Int) : Option (GTokensTable × Int) :=
  if (decide (a1.What = 0)) then (m8_l12_did_k3 a0 a1 a2 (decide (a1.What = 0))) else (m8_l12_did_k3 a0 a1 a2 (decide (a1.What = 1)))

set_option maxRecDepth 100000 in
theorem m8_l12_did_c {a0 : GTokensTable} {a1 : GL12Act} {a2 : Int} {r : GTokensTable × Int} (h : m8_l12_did a0 a1 a2 = some r) : CallsA Try.prog 8 [.agg [.sl a0.L.length (a0.L.flatMap eGTokensEntry)], .agg [.i .i64 a1.What, .i .i64 a1.Tok, .i .i64 a1.Attempt], .one (.i .i64 a2)] (· = .tup [.agg [.sl r.1.L.length (r.1.L.flatMap eGTokensEntry)], .one (.i .i64 r.2)]) := by
  unfold m8_l12_did at h
  refine callsA_of Try.func8 rfl (nt := 56) rfl (Nat.le_of_ble_eq_true rfl) ?_
  intro w0 S0
  refine cseq ?_
  refine cregion ?_
  refine sbox rfl rfl ?_
  refine sbox rfl rfl ?_
  refine salloc rfl zi26 ?_
  refine sv rfl (opv_as rfl) ?_
  refine snil ?_
  refine cseq ?_
  refine cseq ?_
  refine cregion ?_
  refine sv rfl (opv_fieldAddr_lp fi28_0 rfl) ?_
  refine sv rfl (opv_load1 ti3 rfl (.lp _ _ _ rfl) rfl) ?_
  refine snil ?_
  refine cjoin (Unit) (fun b1 => [(3, .s (.one (.lp 0 0))), (4, .s (.one (.lp 1 0))), (6, .s (.one (.lp 2 0)))]) (fun b1 => [.box [.sl a0.L.length (a0.L.flatMap eGTokensEntry)], .box [.i .i64 a1.What, .i .i64 a1.Tok, .i .i64 a1.Attempt], .box [.raw (.slice none 0 0)]]) (fun b1 => m8_l12_did_k1 a0 a1 b1 = some r) (fun _ _ => inbL_of rfl) (fun _ _ => blkinb_of rfl) (fun _ _ => Nat.le_of_ble_eq_true rfl) (fun b1 h => ?_) ?_
  · unfold m8_l12_did_k1 at h
    refine cseq ?_
    refine cregion ?_
    refine sv rfl (opv_loadN ti26 rfl (.lp _ _ _ rfl) (Nat.le_of_ble_eq_true rfl)) ?_
    refine sv rfl (opv_fieldAddr_lp fi28_1 rfl) ?_
    refine sv rfl (opv_load1 ti3 rfl (.lp _ _ _ rfl) rfl) ?_
    obtain ⟨v2, hv2, h⟩ := bind_eq h
    refine scall1 rfl fn13 (opnds_cons rfl (opnds_cons rfl opnds_nil)) (pubA_id rfl) (m13_tokens_Release_c hv2) ?_
    refine sv rfl (opv_extract rfl rfl) ?_
    refine sv rfl (opv_extract rfl rfl) ?_
    refine sstore sz26 rfl rfl rfl rfl (Nat.le_of_ble_eq_true rfl) ?_
    refine smem [.box [.sl a0.L.length (a0.L.flatMap eGTokensEntry)], .box [.i .i64 a1.What, .i .i64 a1.Tok, .i .i64 a1.Attempt], .box [.sl v2.1.L.length (v2.1.L.flatMap eGTokensEntry)]] rfl ?_
    refine sv rfl (opv_as rfl) ?_
    refine snil ?_
    refine cret ?_
    obtain rfl := Option.some.inj h
    refine ⟨Or.inr rfl, _, _, _, (resVs_cons (ResV.agg _ _ _ _ _ ti26 rfl (.lp _ _ _ rfl) (Nat.le_of_ble_eq_true rfl)) (resVs_cons (ResV.tmp _ _ rfl) resVs_nil)), (pubA_id rfl), ?_⟩
    rfl
  · skip
    refine cblock ?_
    refine cseq ?_
    refine cseq ?_
    refine cregion ?_
    refine sv rfl (opv_ieql rfl rfl) ?_
    refine sv rfl (opv_as rfl) ?_
    refine snil ?_
    refine cjoin (Bool) (fun b3 => [(2, .s (.one (.i .i64 a2))), (3, .s (.one (.lp 0 0))), (4, .s (.one (.lp 1 0))), (6, .s (.one (.lp 2 0))), (12, .s (.one (.i .i64 a1.What))), (13, .s (.one (.b b3)))]) (fun b3 => [.box [.sl a0.L.length (a0.L.flatMap eGTokensEntry)], .box [.i .i64 a1.What, .i .i64 a1.Tok, .i .i64 a1.Attempt], .box [.raw (.slice none 0 0)]]) (fun b3 => m8_l12_did_k3 a0 a1 a2 b3 = some r) (fun _ _ => inbL_of rfl) (fun _ _ => blkinb_of rfl) (fun _ _ => Nat.le_of_ble_eq_true rfl) (fun b3 h => ?_) ?_
    · unfold m8_l12_did_k3 at h
      refine ccond rfl (fun hc => ?_) (fun hc => ?_)
      · replace h := ite_t hc h
        clear hc
        refine cseq ?_
        refine cregion ?_
        refine sv rfl (opv_loadN ti26 rfl (.lp _ _ _ rfl) (Nat.le_of_ble_eq_true rfl)) ?_
        refine sv rfl (opv_fieldAddr_lp fi28_1 rfl) ?_
        refine sv rfl (opv_load1 ti3 rfl (.lp _ _ _ rfl) rfl) ?_
        refine sv rfl (opv_fieldAddr_lp fi28_2 rfl) ?_
        refine sv rfl (opv_load1 ti3 rfl (.lp _ _ _ rfl) rfl) ?_
        obtain ⟨v4, hv4, h⟩ := bind_eq h
        refine scall1 rfl fn12 (opnds_cons rfl (opnds_cons rfl (opnds_cons rfl opnds_nil))) (pubA_id rfl) (m12_tokens_Start_c hv4) ?_
        refine sv rfl (opv_extract rfl rfl) ?_
        refine sv rfl (opv_extract rfl rfl) ?_
        refine sstore sz26 rfl rfl rfl rfl (Nat.le_of_ble_eq_true rfl) ?_
        refine smem [.box [.sl a0.L.length (a0.L.flatMap eGTokensEntry)], .box [.i .i64 a1.What, .i .i64 a1.Tok, .i .i64 a1.Attempt], .box [.sl v4.1.L.length (v4.1.L.flatMap eGTokensEntry)]] rfl ?_
        refine sv rfl (opv_as rfl) ?_
        refine snil ?_
        refine cret ?_
        refine block_ret ?_
        refine then_ret ?_
        obtain rfl := Option.some.inj h
        refine ⟨Or.inr rfl, _, _, _, (resVs_cons (ResV.agg _ _ _ _ _ ti26 rfl (.lp _ _ _ rfl) (Nat.le_of_ble_eq_true rfl)) (resVs_cons (ResV.tmp _ _ rfl) resVs_nil)), (pubA_id rfl), ?_⟩
        rfl
      · replace h := ite_f hc h
        clear hc
        refine cseq ?_
        refine cseq ?_
        refine cregion ?_
        refine sv rfl (opv_ieql rfl rfl) ?_
        refine sv rfl (opv_as rfl) ?_
        refine snil ?_
        refine cjoin (Bool) (fun b5 => [(2, .s (.one (.i .i64 a2))), (3, .s (.one (.lp 0 0))), (4, .s (.one (.lp 1 0))), (6, .s (.one (.lp 2 0))), (12, .s (.one (.i .i64 a1.What))), (24, .s (.one (.b b5)))]) (fun b5 => [.box [.sl a0.L.length (a0.L.flatMap eGTokensEntry)], .box [.i .i64 a1.What, .i .i64 a1.Tok, .i .i64 a1.Attempt], .box [.raw (.slice none 0 0)]]) (fun b5 => m8_l12_did_k5 a0 a1 a2 b5 = some r) (fun _ _ => inbL_of rfl) (fun _ _ => blkinb_of rfl) (fun _ _ => Nat.le_of_ble_eq_true rfl) (fun b5 h => ?_) ?_
        · unfold m8_l12_did_k5 at h
          refine ccond rfl (fun hc => ?_) (fun hc => ?_)
          · replace h := ite_t hc h
            clear hc
            refine cseq ?_
            refine cregion ?_
            refine sv rfl (opv_loadN ti26 rfl (.lp _ _ _ rfl) (Nat.le_of_ble_eq_true rfl)) ?_
            refine sv rfl (opv_fieldAddr_lp fi28_1 rfl) ?_
            refine sv rfl (opv_load1 ti3 rfl (.lp _ _ _ rfl) rfl) ?_
            refine sv rfl (opv_fieldAddr_lp fi28_2 rfl) ?_
            refine sv rfl (opv_load1 ti3 rfl (.lp _ _ _ rfl) rfl) ?_
            refine sv rfl (opv_mv rfl) ?_
            obtain ⟨v6, hv6, h⟩ := bind_eq h
            refine scall1 rfl fn14 (opnds_cons rfl (opnds_cons rfl (opnds_cons rfl (opnds_cons rfl opnds_nil)))) (pubA_id rfl) (m14_tokens_Finish_c hv6) ?_
            refine sv rfl (opv_extract rfl rfl) ?_
            refine sv rfl (opv_extract rfl rfl) ?_
            refine sstore sz26 rfl rfl rfl rfl (Nat.le_of_ble_eq_true rfl) ?_
            refine smem [.box [.sl a0.L.length (a0.L.flatMap eGTokensEntry)], .box [.i .i64 a1.What, .i .i64 a1.Tok, .i .i64 a1.Attempt], .box [.sl v6.1.L.length (v6.1.L.flatMap eGTokensEntry)]] rfl ?_
            refine sv rfl (opv_as rfl) ?_
            refine snil ?_
            refine cret ?_
            refine block_ret ?_
            refine then_ret ?_
            obtain rfl := Option.some.inj h
            refine ⟨Or.inr rfl, _, _, _, (resVs_cons (ResV.agg _ _ _ _ _ ti26 rfl (.lp _ _ _ rfl) (Nat.le_of_ble_eq_true rfl)) (resVs_cons (ResV.tmp _ _ rfl) resVs_nil)), (pubA_id rfl), ?_⟩
            rfl
          · replace h := ite_f hc h
            clear hc
            refine cseq ?_
            refine cregion ?_
            refine sv rfl (opv_ieql rfl rfl) ?_
            refine sv rfl (opv_as rfl) ?_
            refine snil ?_
            refine ccond rfl (fun hc => ?_) (fun hc => ?_)
            · replace h := ite_t hc h
              clear hc
              refine cseq ?_
              refine cregion ?_
              refine sv rfl (opv_loadN ti26 rfl (.lp _ _ _ rfl) (Nat.le_of_ble_eq_true rfl)) ?_
              refine sv rfl (opv_fieldAddr_lp fi28_1 rfl) ?_
              refine sv rfl (opv_load1 ti3 rfl (.lp _ _ _ rfl) rfl) ?_
              refine sv rfl (opv_fieldAddr_lp fi28_2 rfl) ?_
              refine sv rfl (opv_load1 ti3 rfl (.lp _ _ _ rfl) rfl) ?_
              obtain ⟨v7, hv7, h⟩ := bind_eq h
              refine scall1 rfl fn11 (opnds_cons rfl (opnds_cons rfl (opnds_cons rfl opnds_nil))) (pubA_id rfl) (m11_tokens_Fence_c hv7) ?_
              refine sv rfl (opv_mvt rfl) ?_
              refine sv rfl (opv_extract rfl rfl) ?_
              refine sv rfl (opv_extract rfl rfl) ?_
              refine sv rfl (opv_extract rfl rfl) ?_
              refine salloc rfl zi26 ?_
              refine sstore sz26 rfl rfl rfl rfl (Nat.le_of_ble_eq_true rfl) ?_
              refine smem [.box [.sl a0.L.length (a0.L.flatMap eGTokensEntry)], .box [.i .i64 a1.What, .i .i64 a1.Tok, .i .i64 a1.Attempt], .box [.raw (.slice none 0 0)], .box [.sl v7.1.L.length (v7.1.L.flatMap eGTokensEntry)]] rfl ?_
              refine sv rfl (opv_as rfl) ?_
              refine sv rfl (opv_as rfl) ?_
              refine snil ?_
              refine cseq ?_
              refine cregion ?_
              refine sv rfl (opv_loadN ti26 rfl (.lp _ _ _ rfl) (Nat.le_of_ble_eq_true rfl)) ?_
              refine sv rfl (opv_mv rfl) ?_
              refine sstore sz26 rfl rfl rfl rfl (Nat.le_of_ble_eq_true rfl) ?_
              refine smem [.box [.sl a0.L.length (a0.L.flatMap eGTokensEntry)], .box [.i .i64 a1.What, .i .i64 a1.Tok, .i .i64 a1.Attempt], .box [.sl v7.1.L.length (v7.1.L.flatMap eGTokensEntry)], .box [.sl v7.1.L.length (v7.1.L.flatMap eGTokensEntry)]] rfl ?_
              refine sv rfl (opv_as rfl) ?_
              refine snil ?_
              refine cret ?_
              refine block_ret ?_
              refine then_ret ?_
              obtain rfl := Option.some.inj h
              refine ⟨Or.inr rfl, _, _, _, (resVs_cons (ResV.agg _ _ _ _ _ ti26 rfl (.lp _ _ _ rfl) (Nat.le_of_ble_eq_true rfl)) (resVs_cons (ResV.tmp _ _ rfl) resVs_nil)), (pubA_id rfl), ?_⟩
              rfl
            · replace h := ite_f hc h
              clear hc
              refine cskip ?_
              refine block_normal ?_
              refine then_normal ?_
              exact ⟨(), _, h, ⟨rfl, rfl, rfl, trivial⟩, rfl⟩
        · skip
          refine ccond rfl (fun hc => ?_) (fun hc => ?_)
          · replace h := ite_t hc h
            clear hc
            refine cskip ?_
            refine then_normal ?_
            exact ⟨(decide (a1.What = 2)), _, h, ⟨rfl, rfl, rfl, rfl, rfl, rfl, trivial⟩, rfl⟩
          · replace h := ite_f hc h
            clear hc
            refine cregion ?_
            refine sv rfl (opv_ieql rfl rfl) ?_
            refine sv rfl (opv_as rfl) ?_
            refine snil ?_
            exact ⟨(decide (a1.What = 3)), _, h, ⟨rfl, rfl, rfl, rfl, rfl, rfl, trivial⟩, rfl⟩
    · skip
      refine ccond rfl (fun hc => ?_) (fun hc => ?_)
      · replace h := ite_t hc h
        clear hc
        refine cskip ?_
        refine then_normal ?_
        exact ⟨(decide (a1.What = 0)), _, h, ⟨rfl, rfl, rfl, rfl, rfl, rfl, trivial⟩, rfl⟩
      · replace h := ite_f hc h
        clear hc
        refine cregion ?_
        refine sv rfl (opv_ieql rfl rfl) ?_
        refine sv rfl (opv_as rfl) ?_
        refine snil ?_
        exact ⟨(decide (a1.What = 1)), _, h, ⟨rfl, rfl, rfl, rfl, rfl, rfl, trivial⟩, rfl⟩

def m3_l12_TokensOnce_k2 (a1 : Int) (v1 : Bool) (b2 : Int × (List GTokensEntry)) : Option Bool :=
  (m9_tokens_Find (GTokensTable.mk b2.2) a1).bind fun v3 => if v1 then (if (decide (b2.1 ≤ 1)) then (if v3.2 then (if ((decide (b2.1 = 1)) == (decide (v3.1.State = 2))) then ((m10_tokens_Sane (GTokensTable.mk b2.2)).bind fun v4 => some v4) else (some false)) else (if ((decide (b2.1 = 1)) == false) then ((m10_tokens_Sane (GTokensTable.mk b2.2)).bind fun v5 => some v5) else (some false))) else (some false)) else (some false)

def m3_l12_TokensOnce_k13 (a0 : List GL12Act) (s6 : Int × Int × Int × (List GTokensEntry)) (v9 : GTokensTable × Int) (b13 : Unit) : Option (LR (Int × Int × Int × (List GTokensEntry)) (Int × (List GTokensEntry)) (Bool)) :=
  (idx a0 s6.2.2.1).bind fun u14 => some (.cont (s6.1, (wI (u14.Attempt - 1)), (wI (s6.2.2.1 + 1)), v9.1.L))

def m3_l12_TokensOnce_k16 (a0 : List GL12Act) (s6 : Int × Int × Int × (List GTokensEntry)) (v9 : GTokensTable × Int) (u11 : GL12Act) (b16 : Bool) : Option (LR (Int × Int × Int × (List GTokensEntry)) (Int × (List GTokensEntry)) (Bool)) :=
  if b16 then ((idx a0 s6.2.2.1).bind fun u17 => if (decide (u17.Attempt ≤ s6.2.1)) then (some (.ret false)) else (some (.cont ((wI (s6.1 + 1)), s6.2.1, (wI (s6.2.2.1 + 1)), v9.1.L)))) else (if (decide (u11.What = 4)) then ((idx a0 s6.2.2.1).bind fun u18 => some (.cont (s6.1, (if u18.Attempt > s6.2.1 then u18.Attempt else s6.2.1), (wI (s6.2.2.1 + 1)), v9.1.L))) else (some (.cont (s6.1, s6.2.1, (wI (s6.2.2.1 + 1)), v9.1.L))))

def m3_l12_TokensOnce_k12 (a0 : List GL12Act) (s6 : Int × Int × Int × (List GTokensEntry)) (v9 : GTokensTable × Int) (u11 : GL12Act) (b12 : Bool) : Option (LR (Int × Int × Int × (List GTokensEntry)) (Int × (List GTokensEntry)) (Bool)) :=
  if b12 then ((idx a0 s6.2.2.1).bind fun u15 => if (decide (u15.Attempt ≤ s6.2.1)) then (some (.ret false)) else (if (decide (0 < s6.1)) then (some (.ret false)) else (m3_l12_TokensOnce_k13 a0 s6 v9 ()))) else (if (decide (u11.What = 2)) then (m3_l12_TokensOnce_k16 a0 s6 v9 u11 (decide (u11.What = 2))) else (m3_l12_TokensOnce_k16 a0 s6 v9 u11 (decide (u11.What = 3))))

def m3_l12_TokensOnce_k7 (a0 : List GL12Act) (a1 : Int) (s6 : Int × Int × Int × (List GTokensEntry)) (b7 : Unit) : Option (LR (Int × Int × Int × (List GTokensEntry)) (Int × (List GTokensEntry)) (Bool)) :=
  (idx a0 s6.2.2.1).bind fun u8 => (m8_l12_did (GTokensTable.mk s6.2.2.2) u8 (wI (s6.2.2.1 + 1))).bind fun v9 => if (!decide (v9.2 = 0)) then (some (.cont (s6.1, s6.2.1, (wI (s6.2.2.1 + 1)), s6.2.2.2))) else ((idx a0 s6.2.2.1).bind fun u10 => if (!decide (u10.Tok = a1)) then (some (.cont (s6.1, s6.2.1, (wI (s6.2.2.1 + 1)), v9.1.L))) else ((idx a0 s6.2.2.1).bind fun u11 => if (decide (u11.What = 0)) then (m3_l12_TokensOnce_k12 a0 s6 v9 u11 (decide (u11.What = 0))) else (m3_l12_TokensOnce_k12 a0 s6 v9 u11 (decide (u11.What = 1)))))

def m3_l12_TokensOnce_s6 (a0 : List GL12Act) (a1 : Int) (s6 : Int × Int × Int × (List GTokensEntry)) : Option (LR (Int × Int × Int × (List GTokensEntry)) (Int × (List GTokensEntry)) (Bool)) :=
  if (decide (s6.2.2.1 < (a0.length : Int))) then ((idx a0 s6.2.2.1).bind fun u19 => if (decide (u19.What < 0)) then (some (.cont (s6.1, s6.2.1, (wI (s6.2.2.1 + 1)), s6.2.2.2))) else ((idx a0 s6.2.2.1).bind fun u20 => if (decide (4 < u20.What)) then (some (.cont (s6.1, s6.2.1, (wI (s6.2.2.1 + 1)), s6.2.2.2))) else (m3_l12_TokensOnce_k7 a0 a1 s6 ()))) else (some (.brk (s6.1, s6.2.2.2)))
def m3_l12_TokensOnce (a0 : List GL12Act) (a1 : Int) : Option Bool :=
  (m7_l12_awake).bind fun v1 => if (decide (100 < (a0.length : Int))) then (some v1) else ((iter (m3_l12_TokensOnce_s6 a0 a1) fuel (0, (-1), 0, ([] : List GTokensEntry))).bind fun x => match x with | .inl r => some r | .inr e21 => m3_l12_TokensOnce_k2 a1 v1 e21)

set_option maxRecDepth 100000 in
theorem m3_l12_TokensOnce_c {a0 : List GL12Act} {a1 : Int} {r : Bool} (h : m3_l12_TokensOnce a0 a1 = some r) : CallsA Try.prog 3 [.one (.sl a0.length (a0.flatMap eGL12Act)), .one (.i .i64 a1)] (· = .s (.one (.b r))) := by
  unfold m3_l12_TokensOnce at h
  refine callsA_of Try.func3 rfl (nt := 133) rfl (Nat.le_of_ble_eq_true rfl) ?_
  intro w0 S0
  refine cseq ?_
  refine cregion ?_
  refine sv rfl (opv_as rfl) ?_
  refine snil ?_
  refine cseq ?_
  refine cregion ?_
  obtain ⟨v1, hv1, h⟩ := bind_eq h
  refine scall1 rfl fn7 opnds_nil (pubA_id rfl) (m7_l12_awake_c hv1) ?_
  refine sv rfl (opv_as rfl) ?_
  refine snil ?_
  refine cseq ?_
  refine cseq ?_
  refine cregion ?_
  refine sv rfl (opv_mv rfl) ?_
  refine sv rfl (opv_len_sl si22 rfl) ?_
  refine sv rfl (opv_gtr rfl rfl) ?_
  refine snil ?_
  refine ccond rfl (fun hc => ?_) (fun hc => ?_)
  · replace h := ite_t hc h
    clear hc
    refine cseq ?_
    refine cregion ?_
    refine sv rfl (opv_mv rfl) ?_
    refine sv rfl (opv_as rfl) ?_
    refine snil ?_
    refine cret ?_
    refine then_ret ?_
    obtain rfl := Option.some.inj h
    refine ⟨Or.inr rfl, _, _, _, (resVs_cons (ResV.tmp _ _ rfl) resVs_nil), (pubA_id rfl), ?_⟩
    rfl
  · replace h := ite_f hc h
    clear hc
    refine cskip ?_
    refine then_normal ?_
    refine cseq ?_
    refine cregion ?_
    refine sv rfl (opv_build zi26 pi26 parts_nil (.nil _)) ?_
    refine salloc rfl zi26 ?_
    refine sstore sz26 rfl rfl rfl rfl (Nat.le_of_ble_eq_true rfl) ?_
    refine smem [.box [.raw (.slice none 0 0)]] rfl ?_
    refine snil ?_
    refine cseq ?_
    refine cregion ?_
    refine sv rfl (opv_as rfl) ?_
    refine snil ?_
    refine cseq ?_
    refine cregion ?_
    refine sv rfl (opv_as rfl) ?_
    refine snil ?_
    refine cseq ?_
    refine cseq ?_
    refine cregion ?_
    refine sv rfl (opv_as rfl) ?_
    refine snil ?_
    refine cjoin (Int × (List GTokensEntry)) (fun b2 => [(1, .s (.one (.i .i64 a1))), (5, .s (.one (.b v1))), (6, .s (.one (.lp 0 0))), (7, .s (.one (.i .i64 b2.1)))]) (fun b2 => [.box [.sl b2.2.length (b2.2.flatMap eGTokensEntry)]]) (fun b2 => m3_l12_TokensOnce_k2 a1 v1 b2 = some r) (fun _ _ => inbL_of rfl) (fun _ _ => blkinb_of rfl) (fun _ _ => Nat.le_of_ble_eq_true rfl) (fun b2 h => ?_) ?_
    · unfold m3_l12_TokensOnce_k2 at h
      refine cseq ?_
      refine cregion ?_
      refine sv rfl (opv_loadN ti26 rfl (.lp _ _ _ rfl) (Nat.le_of_ble_eq_true rfl)) ?_
      refine sv rfl (opv_mv rfl) ?_
      obtain ⟨v3, hv3, h⟩ := bind_eq h
      refine scall1 rfl fn9 (opnds_cons rfl (opnds_cons rfl opnds_nil)) (pubA_id rfl) (m9_tokens_Find_c hv3) ?_
      refine sv rfl (opv_mvt rfl) ?_
      refine sv rfl (opv_extract rfl rfl) ?_
      refine sv rfl (opv_extract rfl rfl) ?_
      refine salloc rfl zi33 ?_
      refine sstore sz33 rfl rfl rfl rfl (Nat.le_of_ble_eq_true rfl) ?_
      refine smem [.box [.sl b2.2.length (b2.2.flatMap eGTokensEntry)], .box [.i .i64 v3.1.Tok, .i .i64 v3.1.Attempt, .i .i64 v3.1.State, .i .i64 v3.1.Ts]] rfl ?_
      refine sv rfl (opv_as rfl) ?_
      refine snil ?_
      refine cseq ?_
      refine cregion ?_
      refine sv rfl (opv_mv rfl) ?_
      refine sv rfl (opv_mv rfl) ?_
      refine ssplit 114 rfl (fun hc => ?_) (fun hc => ?_)
      · replace h := ite_t hc h
        clear hc
        refine son rfl rfl rfl ?_
        refine sv rfl (opv_mv rfl) ?_
        refine son rfl rfl rfl ?_
        refine sv rfl (opv_leq rfl rfl) ?_
        refine sv rfl (opv_pick_t rfl rfl) ?_
        refine sv rfl (opv_mv rfl) ?_
        refine ssplit 118 rfl (fun hc => ?_) (fun hc => ?_)
        · replace h := ite_t hc h
          clear hc
          refine son rfl rfl rfl ?_
          refine sv rfl (opv_mv rfl) ?_
          refine son rfl rfl rfl ?_
          refine sv rfl (opv_ieql rfl rfl) ?_
          refine son rfl rfl rfl ?_
          refine sv rfl (opv_mv rfl) ?_
          refine son rfl rfl rfl ?_
          refine sv rfl (opv_mv rfl) ?_
          refine ssplit 122 rfl (fun hc => ?_) (fun hc => ?_)
          · replace h := ite_t hc h
            clear hc
            refine son rfl rfl rfl ?_
            refine sv rfl (opv_fieldAddr_lp fi33_2 rfl) ?_
            refine son rfl rfl rfl ?_
            refine sv rfl (opv_load1 ti3 rfl (.lp _ _ _ rfl) rfl) ?_
            refine son rfl rfl rfl ?_
            refine sv rfl (opv_ieql rfl rfl) ?_
            refine son rfl rfl rfl ?_
            refine sv rfl (opv_pick_t rfl rfl) ?_
            refine son rfl rfl rfl ?_
            refine sv rfl (opv_beql Try.underlying4 rfl rfl) ?_
            refine sv rfl (opv_pick_t rfl rfl) ?_
            refine sv rfl (opv_mv rfl) ?_
            refine ssplit 129 rfl (fun hc => ?_) (fun hc => ?_)
            · replace h := ite_t hc h
              clear hc
              refine son rfl rfl rfl ?_
              refine sv rfl (opv_loadN ti26 rfl (.lp _ _ _ rfl) (Nat.le_of_ble_eq_true rfl)) ?_
              refine son rfl rfl rfl ?_
              obtain ⟨v4, hv4, h⟩ := bind_eq h
              refine scall1 rfl fn10 (opnds_cons rfl opnds_nil) (pubA_id rfl) (m10_tokens_Sane_c hv4) ?_
              refine sv rfl (opv_pick_t rfl rfl) ?_
              refine sv rfl (opv_as rfl) ?_
              refine snil ?_
              refine cret ?_
              obtain rfl := Option.some.inj h
              refine ⟨Or.inr rfl, _, _, _, (resVs_cons (ResV.tmp _ _ rfl) resVs_nil), (pubA_id rfl), ?_⟩
              rfl
            · replace h := ite_f hc h
              clear hc
              refine soff rfl rfl rfl rfl ?_
              refine soff rfl rfl rfl rfl ?_
              refine sv rfl (opv_pick_f rfl rfl) ?_
              refine sv rfl (opv_as rfl) ?_
              refine snil ?_
              refine cret ?_
              obtain rfl := Option.some.inj h
              refine ⟨Or.inr rfl, _, _, _, (resVs_cons (ResV.tmp _ _ rfl) resVs_nil), (pubA_id rfl), ?_⟩
              rfl
          · replace h := ite_f hc h
            clear hc
            refine soff rfl rfl rfl rfl ?_
            refine soff rfl rfl rfl rfl ?_
            refine soff rfl rfl rfl rfl ?_
            refine son rfl rfl rfl ?_
            refine sv rfl (opv_pick_f rfl rfl) ?_
            refine son rfl rfl rfl ?_
            refine sv rfl (opv_beql Try.underlying4 rfl rfl) ?_
            refine sv rfl (opv_pick_t rfl rfl) ?_
            refine sv rfl (opv_mv rfl) ?_
            refine ssplit 129 rfl (fun hc => ?_) (fun hc => ?_)
            · replace h := ite_t hc h
              clear hc
              refine son rfl rfl rfl ?_
              refine sv rfl (opv_loadN ti26 rfl (.lp _ _ _ rfl) (Nat.le_of_ble_eq_true rfl)) ?_
              refine son rfl rfl rfl ?_
              obtain ⟨v5, hv5, h⟩ := bind_eq h
              refine scall1 rfl fn10 (opnds_cons rfl opnds_nil) (pubA_id rfl) (m10_tokens_Sane_c hv5) ?_
              refine sv rfl (opv_pick_t rfl rfl) ?_
              refine sv rfl (opv_as rfl) ?_
              refine snil ?_
              refine cret ?_
              obtain rfl := Option.some.inj h
              refine ⟨Or.inr rfl, _, _, _, (resVs_cons (ResV.tmp _ _ rfl) resVs_nil), (pubA_id rfl), ?_⟩
              rfl
            · replace h := ite_f hc h
              clear hc
              refine soff rfl rfl rfl rfl ?_
              refine soff rfl rfl rfl rfl ?_
              refine sv rfl (opv_pick_f rfl rfl) ?_
              refine sv rfl (opv_as rfl) ?_
              refine snil ?_
              refine cret ?_
              obtain rfl := Option.some.inj h
              refine ⟨Or.inr rfl, _, _, _, (resVs_cons (ResV.tmp _ _ rfl) resVs_nil), (pubA_id rfl), ?_⟩
              rfl
        · replace h := ite_f hc h
          clear hc
          refine soff rfl rfl rfl rfl ?_
          refine soff rfl rfl rfl rfl ?_
          refine soff rfl rfl rfl rfl ?_
          refine soff rfl rfl rfl rfl ?_
          refine soffu rfl rfl rfl ?_
          refine soffu rfl rfl rfl ?_
          refine soffu rfl rfl rfl ?_
          refine soff rfl rfl rfl rfl ?_
          refine soff rfl rfl rfl rfl ?_
          refine sv rfl (opv_pick_f rfl rfl) ?_
          refine sv rfl (opv_mv rfl) ?_
          refine soff rfl rfl rfl rfl ?_
          refine soff rfl rfl rfl rfl ?_
          refine sv rfl (opv_pick_f rfl rfl) ?_
          refine sv rfl (opv_as rfl) ?_
          refine snil ?_
          refine cret ?_
          obtain rfl := Option.some.inj h
          refine ⟨Or.inr rfl, _, _, _, (resVs_cons (ResV.tmp _ _ rfl) resVs_nil), (pubA_id rfl), ?_⟩
          rfl
      · replace h := ite_f hc h
        clear hc
        refine soff rfl rfl rfl rfl ?_
        refine soff rfl rfl rfl rfl ?_
        refine sv rfl (opv_pick_f rfl rfl) ?_
        refine sv rfl (opv_mv rfl) ?_
        refine soff rfl rfl rfl rfl ?_
        refine soff rfl rfl rfl rfl ?_
        refine soff rfl rfl rfl rfl ?_
        refine soff rfl rfl rfl rfl ?_
        refine soffu rfl rfl rfl ?_
        refine soffu rfl rfl rfl ?_
        refine soffu rfl rfl rfl ?_
        refine soff rfl rfl rfl rfl ?_
        refine soff rfl rfl rfl rfl ?_
        refine sv rfl (opv_pick_f rfl rfl) ?_
        refine sv rfl (opv_mv rfl) ?_
        refine soff rfl rfl rfl rfl ?_
        refine soff rfl rfl rfl rfl ?_
        refine sv rfl (opv_pick_f rfl rfl) ?_
        refine sv rfl (opv_as rfl) ?_
        refine snil ?_
        refine cret ?_
        obtain rfl := Option.some.inj h
        refine ⟨Or.inr rfl, _, _, _, (resVs_cons (ResV.tmp _ _ rfl) resVs_nil), (pubA_id rfl), ?_⟩
        rfl
    · skip
      refine cblock ?_
      refine cpubbox 0 0 rfl rfl PubL.nil rfl ?_
      obtain ⟨x6, hx6, ho6⟩ := bind_eq h
      refine awc_loop (G := Nat × (Int × Int × Int × (List GTokensEntry))) (fun g => [(0, .s (.one (.sl a0.length (a0.flatMap eGL12Act)))), (1, .s (.one (.i .i64 a1))), (5, .s (.one (.b v1))), (6, .s (.one (.lp 0 0))), (7, .s (.one (.i .i64 g.2.1))), (8, .s (.one (.i .i64 g.2.2.1))), (9, .s (.one (.i .i64 g.2.2.2.1)))]) (fun g => [.box [.sl g.2.2.2.2.length (g.2.2.2.2.flatMap eGTokensEntry)]]) (fun g => iter (m3_l12_TokensOnce_s6 a0 a1) g.1 g.2 = some x6) (fun g => g.1) (fuel, (0, (-1), 0, ([] : List GTokensEntry))) hx6 ⟨rfl, rfl, rfl, rfl, rfl, rfl, rfl, trivial⟩ [] rfl (fun _ _ => inbL_of rfl) (fun _ _ => blkinb_of rfl) (fun _ _ => Nat.le_of_ble_eq_true rfl) ?_
      clear hx6 h
      rintro ⟨n6, s6⟩ h
      obtain ⟨n6, y6, rfl, h, hk6⟩ := iter_eq h
      unfold m3_l12_TokensOnce_s6 at h
      refine cseq ?_
      refine cseq ?_
      refine cregion ?_
      refine sv rfl (opv_mv rfl) ?_
      refine sv rfl (opv_mv rfl) ?_
      refine sv rfl (opv_len_sl si22 rfl) ?_
      refine sv rfl (opv_lss rfl rfl) ?_
      refine snil ?_
      refine ccond rfl (fun hc => ?_) (fun hc => ?_)
      · replace h := ite_t hc h
        clear hc
        refine cskip ?_
        refine then_normal ?_
        refine cseq ?_
        refine cblock ?_
        refine cseq ?_
        refine cseq ?_
        refine cjoin3 (Unit) (fun b7 => [(0, .s (.one (.sl a0.length (a0.flatMap eGL12Act)))), (1, .s (.one (.i .i64 a1))), (5, .s (.one (.b v1))), (6, .s (.one (.lp 0 0))), (7, .s (.one (.i .i64 s6.1))), (8, .s (.one (.i .i64 s6.2.1))), (9, .s (.one (.i .i64 s6.2.2.1)))]) (fun b7 => [.box [.sl s6.2.2.2.length (s6.2.2.2.flatMap eGTokensEntry)]]) (fun b7 => m3_l12_TokensOnce_k7 a0 a1 s6 b7 = some y6) (fun _ _ => inbL_of rfl) (fun _ _ => blkinb_of rfl) (fun _ _ => Nat.le_of_ble_eq_true rfl) (fun b7 h => ?_) ?_
        · unfold m3_l12_TokensOnce_k7 at h
          refine cseq ?_
          refine chole ?_
          obtain ⟨u8, hu8, h⟩ := bind_eq h
          obtain ⟨v9, hv9, h⟩ := bind_eq h
          refine cdraw_e [11, 12] [0, 0, 0, 6, 14, 0, 32, 127, 255, 511, 511, 0, 3071, 8191] [[.box [.sl s6.2.2.2.length (s6.2.2.2.flatMap eGTokensEntry)], .hole], [.box [.sl s6.2.2.2.length (s6.2.2.2.flatMap eGTokensEntry)], .box [.raw (.slice none 0 0)]], [.box [.sl s6.2.2.2.length (s6.2.2.2.flatMap eGTokensEntry)], .box [.sl v9.1.L.length (v9.1.L.flatMap eGTokensEntry)]]] (by kernel_rfl) mixed (by kernel_rfl) (by decide) rfl rfl rfl rfl ?_
          refine ev (sees_all (md := [.box [.sl s6.2.2.2.length (s6.2.2.2.flatMap eGTokensEntry)], .dead]) ⟨⟨rfl, ⟨trivial, trivial⟩⟩, ⟨⟨rfl, ⟨trivial, trivial⟩⟩, ⟨⟨rfl, ⟨trivial, trivial⟩⟩, trivial⟩⟩⟩) rfl rfl (opv_loadN ti26 rfl (.lp _ _ _ rfl) (Nat.le_of_ble_eq_true rfl)) ?_
          refine ev (sees_all (md := [.box [.sl s6.2.2.2.length (s6.2.2.2.flatMap eGTokensEntry)], .dead]) ⟨⟨rfl, ⟨trivial, trivial⟩⟩, ⟨⟨rfl, ⟨trivial, trivial⟩⟩, ⟨⟨rfl, ⟨trivial, trivial⟩⟩, trivial⟩⟩⟩) rfl rfl (opv_mv rfl) ?_
          refine ev (sees_all (md := [.box [.sl s6.2.2.2.length (s6.2.2.2.flatMap eGTokensEntry)], .dead]) ⟨⟨rfl, ⟨trivial, trivial⟩⟩, ⟨⟨rfl, ⟨trivial, trivial⟩⟩, ⟨⟨rfl, ⟨trivial, trivial⟩⟩, trivial⟩⟩⟩) rfl rfl (opv_mv rfl) ?_
          refine ev (sees_all (md := [.box [.sl s6.2.2.2.length (s6.2.2.2.flatMap eGTokensEntry)], .dead]) ⟨⟨rfl, ⟨trivial, trivial⟩⟩, ⟨⟨rfl, ⟨trivial, trivial⟩⟩, ⟨⟨rfl, ⟨trivial, trivial⟩⟩, trivial⟩⟩⟩) rfl rfl (opv_ix (f := eGL12Act) si22 (fun _ => rfl) rfl rfl rfl rfl hu8) ?_
          refine ev (sees_all (md := [.box [.sl s6.2.2.2.length (s6.2.2.2.flatMap eGTokensEntry)], .dead]) ⟨⟨rfl, ⟨trivial, trivial⟩⟩, ⟨⟨rfl, ⟨trivial, trivial⟩⟩, ⟨⟨rfl, ⟨trivial, trivial⟩⟩, trivial⟩⟩⟩) rfl rfl (opv_loadNe (ys := [.i .i64 u8.What, .i .i64 u8.Tok, .i .i64 u8.Attempt]) ti28 rfl (.cp _) rfl rfl) ?_
          refine ev (sees_all (md := [.box [.sl s6.2.2.2.length (s6.2.2.2.flatMap eGTokensEntry)], .dead]) ⟨⟨rfl, ⟨trivial, trivial⟩⟩, ⟨⟨rfl, ⟨trivial, trivial⟩⟩, ⟨⟨rfl, ⟨trivial, trivial⟩⟩, trivial⟩⟩⟩) rfl rfl (opv_mv rfl) ?_
          refine ev (sees_all (md := [.box [.sl s6.2.2.2.length (s6.2.2.2.flatMap eGTokensEntry)], .dead]) ⟨⟨rfl, ⟨trivial, trivial⟩⟩, ⟨⟨rfl, ⟨trivial, trivial⟩⟩, ⟨⟨rfl, ⟨trivial, trivial⟩⟩, trivial⟩⟩⟩) rfl rfl (opv_add rfl rfl) ?_
          refine ed (sees_all (md := [.box [.sl s6.2.2.2.length (s6.2.2.2.flatMap eGTokensEntry)], .dead]) ⟨⟨rfl, ⟨trivial, trivial⟩⟩, ⟨⟨rfl, ⟨trivial, trivial⟩⟩, ⟨⟨rfl, ⟨trivial, trivial⟩⟩, trivial⟩⟩⟩) rfl rfl (opD_call fn8 (opnds_cons rfl (opnds_cons rfl (opnds_cons rfl opnds_nil))) rfl (m8_l12_did_c hv9)) ?_
          refine ev (sees_all (md := [.box [.sl s6.2.2.2.length (s6.2.2.2.flatMap eGTokensEntry)], .dead]) ⟨⟨rfl, ⟨trivial, trivial⟩⟩, ⟨⟨rfl, ⟨trivial, trivial⟩⟩, ⟨⟨rfl, ⟨trivial, trivial⟩⟩, trivial⟩⟩⟩) rfl rfl (opv_mvt rfl) ?_
          refine ev (sees_all (md := [.box [.sl s6.2.2.2.length (s6.2.2.2.flatMap eGTokensEntry)], .dead]) ⟨⟨rfl, ⟨trivial, trivial⟩⟩, ⟨⟨rfl, ⟨trivial, trivial⟩⟩, ⟨⟨rfl, ⟨trivial, trivial⟩⟩, trivial⟩⟩⟩) rfl rfl (opv_extract rfl rfl) ?_
          refine ev (sees_all (md := [.box [.sl s6.2.2.2.length (s6.2.2.2.flatMap eGTokensEntry)], .dead]) ⟨⟨rfl, ⟨trivial, trivial⟩⟩, ⟨⟨rfl, ⟨trivial, trivial⟩⟩, ⟨⟨rfl, ⟨trivial, trivial⟩⟩, trivial⟩⟩⟩) rfl rfl (opv_extract rfl rfl) ?_
          refine ee (x := .s (.one (.lp 1 0))) 0 rfl rfl rfl rfl rfl (fun ζ => ?_) ?_
          · refine salloc_at 1 rfl zi26 rfl ?_
            exact eend
          refine ee0 1 rfl rfl rfl rfl (fun ζ => ?_) ?_
          · refine sstore sz26 rfl rfl rfl rfl (Nat.le_of_ble_eq_true rfl) ?_
            refine smem [.box [.sl s6.2.2.2.length (s6.2.2.2.flatMap eGTokensEntry)], .box [.sl v9.1.L.length (v9.1.L.flatMap eGTokensEntry)]] rfl ?_
            exact eend
          refine ev (sees_at 2 rfl rfl) rfl rfl (opv_as rfl) ?_
          refine enil ?_
          refine then_normal ?_
          refine cseq ?_
          refine cseq ?_
          refine cregion ?_
          refine sv rfl (opv_mv rfl) ?_
          refine sv rfl (opv_ineq rfl rfl) ?_
          refine snil ?_
          refine ccond rfl (fun hc => ?_) (fun hc => ?_)
          · replace h := ite_t hc h
            clear hc
            refine cexit ?_
            refine then_exit ?_
            refine block_hit ?_
            refine then_normal ?_
            refine cregion ?_
            refine sv rfl (opv_mv rfl) ?_
            refine sv rfl (opv_add rfl rfl) ?_
            refine sv rfl (opv_as rfl) ?_
            refine snil ?_
            obtain rfl := Option.some.inj h
            exact ⟨(n6, (s6.1, s6.2.1, (wI (s6.2.2.1 + 1)), s6.2.2.2)), _, hk6, ⟨rfl, rfl, rfl, rfl, rfl, rfl, rfl, trivial⟩, rfl, Nat.lt_succ_self _⟩
          · replace h := ite_f hc h
            clear hc
            refine cskip ?_
            refine then_normal ?_
            refine cseq ?_
            refine cregion ?_
            refine sv rfl (opv_loadN ti26 rfl (.lp _ _ _ rfl) (Nat.le_of_ble_eq_true rfl)) ?_
            refine sstore sz26 rfl rfl rfl rfl (Nat.le_of_ble_eq_true rfl) ?_
            refine smem [.box [.sl v9.1.L.length (v9.1.L.flatMap eGTokensEntry)], .box [.sl v9.1.L.length (v9.1.L.flatMap eGTokensEntry)]] rfl ?_
            refine snil ?_
            refine cseq ?_
            refine cseq ?_
            refine cregion ?_
            refine sv rfl (opv_mv rfl) ?_
            refine sv rfl (opv_mv rfl) ?_
            obtain ⟨u10, hu10, h⟩ := bind_eq h
            refine sv rfl (opv_ix (f := eGL12Act) si22 (fun _ => rfl) rfl rfl rfl rfl hu10) ?_
            refine sv rfl (opv_fieldAddr_cp fi28_1 rfl) ?_
            refine sv rfl (opv_load1 ti3 rfl (.cp _) rfl) ?_
            refine sv rfl (opv_mv rfl) ?_
            refine sv rfl (opv_ineq rfl rfl) ?_
            refine snil ?_
            refine ccond rfl (fun hc => ?_) (fun hc => ?_)
            · replace h := ite_t hc h
              clear hc
              refine cexit ?_
              refine then_exit ?_
              refine block_hit ?_
              refine then_normal ?_
              refine cregion ?_
              refine sv rfl (opv_mv rfl) ?_
              refine sv rfl (opv_add rfl rfl) ?_
              refine sv rfl (opv_as rfl) ?_
              refine snil ?_
              obtain rfl := Option.some.inj h
              exact ⟨(n6, (s6.1, s6.2.1, (wI (s6.2.2.1 + 1)), v9.1.L)), _, hk6, ⟨rfl, rfl, rfl, rfl, rfl, rfl, rfl, trivial⟩, rfl, Nat.lt_succ_self _⟩
            · replace h := ite_f hc h
              clear hc
              refine cskip ?_
              refine then_normal ?_
              refine cseq ?_
              refine cregion ?_
              refine sv rfl (opv_mv rfl) ?_
              refine sv rfl (opv_mv rfl) ?_
              obtain ⟨u11, hu11, h⟩ := bind_eq h
              refine sv rfl (opv_ix (f := eGL12Act) si22 (fun _ => rfl) rfl rfl rfl rfl hu11) ?_
              refine sv rfl (opv_fieldAddr_cp fi28_0 rfl) ?_
              refine sv rfl (opv_load1 ti3 rfl (.cp _) rfl) ?_
              refine snil ?_
              refine cblock ?_
              refine cseq ?_
              refine cseq ?_
              refine cregion ?_
              refine sv rfl (opv_ieql rfl rfl) ?_
              refine sv rfl (opv_as rfl) ?_
              refine snil ?_
              refine cjoin (Bool) (fun b12 => [(0, .s (.one (.sl a0.length (a0.flatMap eGL12Act)))), (1, .s (.one (.i .i64 a1))), (5, .s (.one (.b v1))), (6, .s (.one (.lp 0 0))), (7, .s (.one (.i .i64 s6.1))), (8, .s (.one (.i .i64 s6.2.1))), (9, .s (.one (.i .i64 s6.2.2.1))), (65, .s (.one (.i .i64 u11.What))), (66, .s (.one (.b b12)))]) (fun b12 => [.box [.sl v9.1.L.length (v9.1.L.flatMap eGTokensEntry)], .box [.sl v9.1.L.length (v9.1.L.flatMap eGTokensEntry)]]) (fun b12 => m3_l12_TokensOnce_k12 a0 s6 v9 u11 b12 = some y6) (fun _ _ => inbL_of rfl) (fun _ _ => blkinb_of rfl) (fun _ _ => Nat.le_of_ble_eq_true rfl) (fun b12 h => ?_) ?_
              · unfold m3_l12_TokensOnce_k12 at h
                refine ccond rfl (fun hc => ?_) (fun hc => ?_)
                · replace h := ite_t hc h
                  clear hc
                  refine cseq ?_
                  refine cseq ?_
                  refine cjoin3 (Unit) (fun b13 => [(0, .s (.one (.sl a0.length (a0.flatMap eGL12Act)))), (1, .s (.one (.i .i64 a1))), (5, .s (.one (.b v1))), (6, .s (.one (.lp 0 0))), (7, .s (.one (.i .i64 s6.1))), (9, .s (.one (.i .i64 s6.2.2.1)))]) (fun b13 => [.box [.sl v9.1.L.length (v9.1.L.flatMap eGTokensEntry)], .box [.sl v9.1.L.length (v9.1.L.flatMap eGTokensEntry)]]) (fun b13 => m3_l12_TokensOnce_k13 a0 s6 v9 b13 = some y6) (fun _ _ => inbL_of rfl) (fun _ _ => blkinb_of rfl) (fun _ _ => Nat.le_of_ble_eq_true rfl) (fun b13 h => ?_) ?_
                  · unfold m3_l12_TokensOnce_k13 at h
                    refine cregion ?_
                    refine sv rfl (opv_mv rfl) ?_
                    refine sv rfl (opv_mv rfl) ?_
                    obtain ⟨u14, hu14, h⟩ := bind_eq h
                    refine sv rfl (opv_ix (f := eGL12Act) si22 (fun _ => rfl) rfl rfl rfl rfl hu14) ?_
                    refine sv rfl (opv_fieldAddr_cp fi28_2 rfl) ?_
                    refine sv rfl (opv_load1 ti3 rfl (.cp _) rfl) ?_
                    refine sv rfl (opv_sub rfl rfl) ?_
                    refine sv rfl (opv_as rfl) ?_
                    refine snil0 ?_
                    refine block_normal ?_
                    refine block_normal ?_
                    refine then_normal ?_
                    refine cregion ?_
                    refine sv rfl (opv_mv rfl) ?_
                    refine sv rfl (opv_add rfl rfl) ?_
                    refine sv rfl (opv_as rfl) ?_
                    refine snil ?_
                    obtain rfl := Option.some.inj h
                    exact ⟨(n6, (s6.1, (wI (u14.Attempt - 1)), (wI (s6.2.2.1 + 1)), v9.1.L)), _, hk6, ⟨rfl, rfl, rfl, rfl, rfl, rfl, rfl, trivial⟩, rfl, Nat.lt_succ_self _⟩
                  · skip
                    refine cregion ?_
                    refine sv rfl (opv_mv rfl) ?_
                    refine sv rfl (opv_mv rfl) ?_
                    obtain ⟨u15, hu15, h⟩ := bind_eq h
                    refine sv rfl (opv_ix (f := eGL12Act) si22 (fun _ => rfl) rfl rfl rfl rfl hu15) ?_
                    refine sv rfl (opv_fieldAddr_cp fi28_2 rfl) ?_
                    refine sv rfl (opv_load1 ti3 rfl (.cp _) rfl) ?_
                    refine sv rfl (opv_mv rfl) ?_
                    refine sv rfl (opv_leq rfl rfl) ?_
                    refine sv rfl (opv_mv rfl) ?_
                    refine ssplit 76 rfl (fun hc => ?_) (fun hc => ?_)
                    · replace h := ite_t hc h
                      clear hc
                      refine soff rfl rfl rfl rfl ?_
                      refine soff rfl rfl rfl rfl ?_
                      refine sv rfl (opv_pick_t rfl rfl) ?_
                      refine snil ?_
                      refine ccond rfl (fun _ => ?_) (fun hx => Bool.noConfusion hx)
                      refine cseq ?_
                      refine cregion ?_
                      refine sv rfl (opv_as rfl) ?_
                      refine snil ?_
                      refine cret ?_
                      refine then_ret ?_
                      refine block_ret ?_
                      refine block_ret ?_
                      refine then_ret ?_
                      refine then_ret ?_
                      refine block_ret ?_
                      refine then_ret ?_
                      obtain rfl := Option.some.inj h
                      obtain rfl : Sum.inl _ = x6 := hk6
                      replace ho6 : some _ = some _ := ho6
                      obtain rfl := Option.some.inj ho6
                      refine ⟨Or.inr rfl, _, _, _, (resVs_cons (ResV.tmp _ _ rfl) resVs_nil), (pubA_id rfl), ?_⟩
                      rfl
                    · replace h := ite_f hc h
                      clear hc
                      refine son rfl rfl rfl ?_
                      refine sv rfl (opv_mv rfl) ?_
                      refine son rfl rfl rfl ?_
                      refine sv rfl (opv_gtr rfl rfl) ?_
                      refine sv rfl (opv_pick_f rfl rfl) ?_
                      refine snil ?_
                      refine ccond rfl (fun hc => ?_) (fun hc => ?_)
                      · replace h := ite_t hc h
                        clear hc
                        refine cseq ?_
                        refine cregion ?_
                        refine sv rfl (opv_as rfl) ?_
                        refine snil ?_
                        refine cret ?_
                        refine then_ret ?_
                        refine block_ret ?_
                        refine block_ret ?_
                        refine then_ret ?_
                        refine then_ret ?_
                        refine block_ret ?_
                        refine then_ret ?_
                        obtain rfl := Option.some.inj h
                        obtain rfl : Sum.inl _ = x6 := hk6
                        replace ho6 : some _ = some _ := ho6
                        obtain rfl := Option.some.inj ho6
                        refine ⟨Or.inr rfl, _, _, _, (resVs_cons (ResV.tmp _ _ rfl) resVs_nil), (pubA_id rfl), ?_⟩
                        rfl
                      · replace h := ite_f hc h
                        clear hc
                        refine cskip ?_
                        refine then_normal ?_
                        exact ⟨(), _, h, ⟨rfl, rfl, rfl, rfl, rfl, rfl, trivial⟩, rfl⟩
                · replace h := ite_f hc h
                  clear hc
                  refine cseq ?_
                  refine cseq ?_
                  refine cregion ?_
                  refine sv rfl (opv_ieql rfl rfl) ?_
                  refine sv rfl (opv_as rfl) ?_
                  refine snil ?_
                  refine cjoin (Bool) (fun b16 => [(0, .s (.one (.sl a0.length (a0.flatMap eGL12Act)))), (1, .s (.one (.i .i64 a1))), (5, .s (.one (.b v1))), (6, .s (.one (.lp 0 0))), (7, .s (.one (.i .i64 s6.1))), (8, .s (.one (.i .i64 s6.2.1))), (9, .s (.one (.i .i64 s6.2.2.1))), (65, .s (.one (.i .i64 u11.What))), (86, .s (.one (.b b16)))]) (fun b16 => [.box [.sl v9.1.L.length (v9.1.L.flatMap eGTokensEntry)], .box [.sl v9.1.L.length (v9.1.L.flatMap eGTokensEntry)]]) (fun b16 => m3_l12_TokensOnce_k16 a0 s6 v9 u11 b16 = some y6) (fun _ _ => inbL_of rfl) (fun _ _ => blkinb_of rfl) (fun _ _ => Nat.le_of_ble_eq_true rfl) (fun b16 h => ?_) ?_
                  · unfold m3_l12_TokensOnce_k16 at h
                    refine ccond rfl (fun hc => ?_) (fun hc => ?_)
                    · replace h := ite_t hc h
                      clear hc
                      refine cseq ?_
                      refine cregion ?_
                      refine sv rfl (opv_mv rfl) ?_
                      refine sv rfl (opv_add rfl rfl) ?_
                      refine sv rfl (opv_as rfl) ?_
                      refine snil ?_
                      refine cseq ?_
                      refine cregion ?_
                      refine sv rfl (opv_mv rfl) ?_
                      refine sv rfl (opv_mv rfl) ?_
                      obtain ⟨u17, hu17, h⟩ := bind_eq h
                      refine sv rfl (opv_ix (f := eGL12Act) si22 (fun _ => rfl) rfl rfl rfl rfl hu17) ?_
                      refine sv rfl (opv_fieldAddr_cp fi28_2 rfl) ?_
                      refine sv rfl (opv_load1 ti3 rfl (.cp _) rfl) ?_
                      refine sv rfl (opv_mv rfl) ?_
                      refine sv rfl (opv_leq rfl rfl) ?_
                      refine snil ?_
                      refine ccond rfl (fun hc => ?_) (fun hc => ?_)
                      · replace h := ite_t hc h
                        clear hc
                        refine cseq ?_
                        refine cregion ?_
                        refine sv rfl (opv_as rfl) ?_
                        refine snil ?_
                        refine cret ?_
                        refine block_ret ?_
                        refine block_ret ?_
                        refine then_ret ?_
                        refine then_ret ?_
                        refine block_ret ?_
                        refine then_ret ?_
                        obtain rfl := Option.some.inj h
                        obtain rfl : Sum.inl _ = x6 := hk6
                        replace ho6 : some _ = some _ := ho6
                        obtain rfl := Option.some.inj ho6
                        refine ⟨Or.inr rfl, _, _, _, (resVs_cons (ResV.tmp _ _ rfl) resVs_nil), (pubA_id rfl), ?_⟩
                        rfl
                      · replace h := ite_f hc h
                        clear hc
                        refine cskip ?_
                        refine block_normal ?_
                        refine block_normal ?_
                        refine then_normal ?_
                        refine cregion ?_
                        refine sv rfl (opv_mv rfl) ?_
                        refine sv rfl (opv_add rfl rfl) ?_
                        refine sv rfl (opv_as rfl) ?_
                        refine snil ?_
                        obtain rfl := Option.some.inj h
                        exact ⟨(n6, ((wI (s6.1 + 1)), s6.2.1, (wI (s6.2.2.1 + 1)), v9.1.L)), _, hk6, ⟨rfl, rfl, rfl, rfl, rfl, rfl, rfl, trivial⟩, rfl, Nat.lt_succ_self _⟩
                    · replace h := ite_f hc h
                      clear hc
                      refine cseq ?_
                      refine cregion ?_
                      refine sv rfl (opv_ieql rfl rfl) ?_
                      refine sv rfl (opv_as rfl) ?_
                      refine snil ?_
                      refine ccond rfl (fun hc => ?_) (fun hc => ?_)
                      · replace h := ite_t hc h
                        clear hc
                        refine cregion ?_
                        refine sv rfl (opv_mv rfl) ?_
                        refine sv rfl (opv_mv rfl) ?_
                        refine sv rfl (opv_mv rfl) ?_
                        obtain ⟨u18, hu18, h⟩ := bind_eq h
                        refine sv rfl (opv_ix (f := eGL12Act) si22 (fun _ => rfl) rfl rfl rfl rfl hu18) ?_
                        refine sv rfl (opv_fieldAddr_cp fi28_2 rfl) ?_
                        refine sv rfl (opv_load1 ti3 rfl (.cp _) rfl) ?_
                        refine sv rfl (opv_max rfl rfl) ?_
                        refine sv rfl (opv_as rfl) ?_
                        refine snil0 ?_
                        refine block_normal ?_
                        refine block_normal ?_
                        refine then_normal ?_
                        refine cregion ?_
                        refine sv rfl (opv_mv rfl) ?_
                        refine sv rfl (opv_add rfl rfl) ?_
                        refine sv rfl (opv_as rfl) ?_
                        refine snil ?_
                        obtain rfl := Option.some.inj h
                        exact ⟨(n6, (s6.1, (if u18.Attempt > s6.2.1 then u18.Attempt else s6.2.1), (wI (s6.2.2.1 + 1)), v9.1.L)), _, hk6, ⟨rfl, rfl, rfl, rfl, rfl, rfl, rfl, trivial⟩, rfl, Nat.lt_succ_self _⟩
                      · replace h := ite_f hc h
                        clear hc
                        refine cskip ?_
                        refine block_normal ?_
                        refine block_normal ?_
                        refine then_normal ?_
                        refine cregion ?_
                        refine sv rfl (opv_mv rfl) ?_
                        refine sv rfl (opv_add rfl rfl) ?_
                        refine sv rfl (opv_as rfl) ?_
                        refine snil ?_
                        obtain rfl := Option.some.inj h
                        exact ⟨(n6, (s6.1, s6.2.1, (wI (s6.2.2.1 + 1)), v9.1.L)), _, hk6, ⟨rfl, rfl, rfl, rfl, rfl, rfl, rfl, trivial⟩, rfl, Nat.lt_succ_self _⟩
                  · skip
                    refine ccond rfl (fun hc => ?_) (fun hc => ?_)
                    · replace h := ite_t hc h
                      clear hc
                      refine cskip ?_
                      refine then_normal ?_
                      exact ⟨(decide (u11.What = 2)), _, h, ⟨rfl, rfl, rfl, rfl, rfl, rfl, rfl, rfl, rfl, trivial⟩, rfl⟩
                    · replace h := ite_f hc h
                      clear hc
                      refine cregion ?_
                      refine sv rfl (opv_ieql rfl rfl) ?_
                      refine sv rfl (opv_as rfl) ?_
                      refine snil ?_
                      exact ⟨(decide (u11.What = 3)), _, h, ⟨rfl, rfl, rfl, rfl, rfl, rfl, rfl, rfl, rfl, trivial⟩, rfl⟩
              · skip
                refine ccond rfl (fun hc => ?_) (fun hc => ?_)
                · replace h := ite_t hc h
                  clear hc
                  refine cskip ?_
                  refine then_normal ?_
                  exact ⟨(decide (u11.What = 0)), _, h, ⟨rfl, rfl, rfl, rfl, rfl, rfl, rfl, rfl, rfl, trivial⟩, rfl⟩
                · replace h := ite_f hc h
                  clear hc
                  refine cregion ?_
                  refine sv rfl (opv_ieql rfl rfl) ?_
                  refine sv rfl (opv_as rfl) ?_
                  refine snil ?_
                  exact ⟨(decide (u11.What = 1)), _, h, ⟨rfl, rfl, rfl, rfl, rfl, rfl, rfl, rfl, rfl, trivial⟩, rfl⟩
        · skip
          refine cregion ?_
          refine sv rfl (opv_mv rfl) ?_
          refine sv rfl (opv_mv rfl) ?_
          obtain ⟨u19, hu19, h⟩ := bind_eq h
          refine sv rfl (opv_ix (f := eGL12Act) si22 (fun _ => rfl) rfl rfl rfl rfl hu19) ?_
          refine sv rfl (opv_fieldAddr_cp fi28_0 rfl) ?_
          refine sv rfl (opv_load1 ti3 rfl (.cp _) rfl) ?_
          refine sv rfl (opv_lss rfl rfl) ?_
          refine sv rfl (opv_mv rfl) ?_
          refine ssplit 32 rfl (fun hc => ?_) (fun hc => ?_)
          · replace h := ite_t hc h
            clear hc
            refine soff rfl rfl rfl rfl ?_
            refine soff rfl rfl rfl rfl ?_
            refine soff rfl rfl rfl rfl ?_
            refine soff rfl rfl rfl rfl ?_
            refine soff rfl rfl rfl rfl ?_
            refine soff rfl rfl rfl rfl ?_
            refine sv rfl (opv_pick_t rfl rfl) ?_
            refine snil ?_
            refine ccond rfl (fun _ => ?_) (fun hx => Bool.noConfusion hx)
            refine cexit ?_
            refine then_exit ?_
            refine block_hit ?_
            refine then_normal ?_
            refine cregion ?_
            refine sv rfl (opv_mv rfl) ?_
            refine sv rfl (opv_add rfl rfl) ?_
            refine sv rfl (opv_as rfl) ?_
            refine snil ?_
            obtain rfl := Option.some.inj h
            exact ⟨(n6, (s6.1, s6.2.1, (wI (s6.2.2.1 + 1)), s6.2.2.2)), _, hk6, ⟨rfl, rfl, rfl, rfl, rfl, rfl, rfl, trivial⟩, rfl, Nat.lt_succ_self _⟩
          · replace h := ite_f hc h
            clear hc
            refine son rfl rfl rfl ?_
            refine sv rfl (opv_mv rfl) ?_
            refine son rfl rfl rfl ?_
            refine sv rfl (opv_mv rfl) ?_
            refine son rfl rfl rfl ?_
            obtain ⟨u20, hu20, h⟩ := bind_eq h
            refine sv rfl (opv_ix (f := eGL12Act) si22 (fun _ => rfl) rfl rfl rfl rfl hu20) ?_
            refine son rfl rfl rfl ?_
            refine sv rfl (opv_fieldAddr_cp fi28_0 rfl) ?_
            refine son rfl rfl rfl ?_
            refine sv rfl (opv_load1 ti3 rfl (.cp _) rfl) ?_
            refine son rfl rfl rfl ?_
            refine sv rfl (opv_gtr rfl rfl) ?_
            refine sv rfl (opv_pick_f rfl rfl) ?_
            refine snil ?_
            refine ccond rfl (fun hc => ?_) (fun hc => ?_)
            · replace h := ite_t hc h
              clear hc
              refine cexit ?_
              refine then_exit ?_
              refine block_hit ?_
              refine then_normal ?_
              refine cregion ?_
              refine sv rfl (opv_mv rfl) ?_
              refine sv rfl (opv_add rfl rfl) ?_
              refine sv rfl (opv_as rfl) ?_
              refine snil ?_
              obtain rfl := Option.some.inj h
              exact ⟨(n6, (s6.1, s6.2.1, (wI (s6.2.2.1 + 1)), s6.2.2.2)), _, hk6, ⟨rfl, rfl, rfl, rfl, rfl, rfl, rfl, trivial⟩, rfl, Nat.lt_succ_self _⟩
            · replace h := ite_f hc h
              clear hc
              refine cskip ?_
              refine then_normal ?_
              exact ⟨(), _, h, ⟨rfl, rfl, rfl, rfl, rfl, rfl, rfl, trivial⟩, rfl⟩
      · replace h := ite_f hc h
        clear hc
        refine cexit ?_
        refine then_exit ?_
        refine then_exit ?_
        refine block_hit ?_
        refine then_normal ?_
        obtain rfl := Option.some.inj h
        obtain rfl : _ = x6 := hk6
        exact ⟨(s6.1, s6.2.2.2), _, ho6, ⟨rfl, rfl, rfl, rfl, trivial⟩, rfl⟩

def m4_l12_TokensKeep_k5 (a1 : GL12Act) (a2 : Int) (v1 : Bool) (b2 : (List GTokensEntry)) (v3 : GTokensEntry × Bool) (b5 : Unit) : Option Bool :=
  (m8_l12_did (GTokensTable.mk b2) a1 500).bind fun v6 => if (!decide (v6.2 = 0)) then (some v1) else ((m9_tokens_Find v6.1 a2).bind fun v7 => if v1 then (if (decide (a1.Tok = a2)) then (some true) else (if (v3.2 == v7.2) then (some ((decide (v3.1.Tok = v7.1.Tok)) && ((decide (v3.1.Attempt = v7.1.Attempt)) && ((decide (v3.1.State = v7.1.State)) && ((decide (v3.1.Ts = v7.1.Ts)) && true))))) else (some false))) else (some false))

def m4_l12_TokensKeep_k2 (a1 : GL12Act) (a2 : Int) (a3 : Int) (v1 : Bool) (b2 : (List GTokensEntry)) : Option Bool :=
  (m9_tokens_Find (GTokensTable.mk b2) a2).bind fun v3 => (m11_tokens_Fence (GTokensTable.mk b2) a2 a3).bind fun v4 => if v3.2 then (if (decide (v3.1.State = 2)) then (if (decide (v4.2.2 = 0)) then (if (!decide (v4.2.1 = v3.1.Ts)) then (some false) else (if (!decide (v4.2.2 = 0)) then (if (!decide (v4.2.2 = 1)) then (some false) else (m4_l12_TokensKeep_k5 a1 a2 v1 b2 v3 ())) else (m4_l12_TokensKeep_k5 a1 a2 v1 b2 v3 ()))) else (if (!decide (v4.2.2 = 0)) then (if (!decide (v4.2.2 = 1)) then (some false) else (m4_l12_TokensKeep_k5 a1 a2 v1 b2 v3 ())) else (m4_l12_TokensKeep_k5 a1 a2 v1 b2 v3 ()))) else (m4_l12_TokensKeep_k5 a1 a2 v1 b2 v3 ())) else (m4_l12_TokensKeep_k5 a1 a2 v1 b2 v3 ())

def m4_l12_TokensKeep_s8 (a0 : List GL12Act) (s8 : Int × (List GTokensEntry)) : Option (LB (Int × (List GTokensEntry)) ((List GTokensEntry))) :=
  if (decide (s8.1 < (a0.length : Int))) then ((idx a0 s8.1).bind fun u9 => (m8_l12_did (GTokensTable.mk s8.2) u9 (wI (s8.1 + 1))).bind fun v10 => if (decide (v10.2 = 0)) then (some (.cont ((wI (s8.1 + 1)), v10.1.L))) else (some (.cont ((wI (s8.1 + 1)), s8.2)))) else (some (.brk s8.2))
def m4_l12_TokensKeep (a0 : List GL12Act) (a1 : GL12Act) (a2 : Int) (a3 : Int) : Option Bool :=
  (m7_l12_awake).bind fun v1 => if (decide (100 < (a0.length : Int))) then (some v1) else ((iterB (m4_l12_TokensKeep_s8 a0) fuel (0, ([] : List GTokensEntry))).bind fun e11 => m4_l12_TokensKeep_k2 a1 a2 a3 v1 e11)

set_option maxRecDepth 100000 in
theorem m4_l12_TokensKeep_c {a0 : List GL12Act} {a1 : GL12Act} {a2 : Int} {a3 : Int} {r : Bool} (h : m4_l12_TokensKeep a0 a1 a2 a3 = some r) : CallsA Try.prog 4 [.one (.sl a0.length (a0.flatMap eGL12Act)), .agg [.i .i64 a1.What, .i .i64 a1.Tok, .i .i64 a1.Attempt], .one (.i .i64 a2), .one (.i .i64 a3)] (· = .s (.one (.b r))) := by
  unfold m4_l12_TokensKeep at h
  refine callsA_of Try.func4 rfl (nt := 119) rfl (Nat.le_of_ble_eq_true rfl) ?_
  intro w0 S0
  refine cseq ?_
  refine cregion ?_
  refine sbox rfl rfl ?_
  refine sv rfl (opv_as rfl) ?_
  refine snil ?_
  refine cseq ?_
  refine cregion ?_
  obtain ⟨v1, hv1, h⟩ := bind_eq h
  refine scall1 rfl fn7 opnds_nil (pubA_id rfl) (m7_l12_awake_c hv1) ?_
  refine sv rfl (opv_as rfl) ?_
  refine snil ?_
  refine cseq ?_
  refine cseq ?_
  refine cregion ?_
  refine sv rfl (opv_mv rfl) ?_
  refine sv rfl (opv_len_sl si22 rfl) ?_
  refine sv rfl (opv_gtr rfl rfl) ?_
  refine snil ?_
  refine ccond rfl (fun hc => ?_) (fun hc => ?_)
  · replace h := ite_t hc h
    clear hc
    refine cseq ?_
    refine cregion ?_
    refine sv rfl (opv_mv rfl) ?_
    refine sv rfl (opv_as rfl) ?_
    refine snil ?_
    refine cret ?_
    refine then_ret ?_
    obtain rfl := Option.some.inj h
    refine ⟨Or.inr rfl, _, _, _, (resVs_cons (ResV.tmp _ _ rfl) resVs_nil), (pubA_id rfl), ?_⟩
    rfl
  · replace h := ite_f hc h
    clear hc
    refine cskip ?_
    refine then_normal ?_
    refine cseq ?_
    refine cregion ?_
    refine sv rfl (opv_build zi26 pi26 parts_nil (.nil _)) ?_
    refine salloc rfl zi26 ?_
    refine sstore sz26 rfl rfl rfl rfl (Nat.le_of_ble_eq_true rfl) ?_
    refine smem [.box [.i .i64 a1.What, .i .i64 a1.Tok, .i .i64 a1.Attempt], .box [.raw (.slice none 0 0)]] rfl ?_
    refine snil ?_
    refine cseq ?_
    refine cseq ?_
    refine cregion ?_
    refine sv rfl (opv_as rfl) ?_
    refine snil ?_
    refine cjoin ((List GTokensEntry)) (fun b2 => [(2, .s (.one (.i .i64 a2))), (3, .s (.one (.i .i64 a3))), (5, .s (.one (.lp 0 0))), (9, .s (.one (.b v1))), (10, .s (.one (.lp 1 0)))]) (fun b2 => [.box [.i .i64 a1.What, .i .i64 a1.Tok, .i .i64 a1.Attempt], .box [.sl b2.length (b2.flatMap eGTokensEntry)]]) (fun b2 => m4_l12_TokensKeep_k2 a1 a2 a3 v1 b2 = some r) (fun _ _ => inbL_of rfl) (fun _ _ => blkinb_of rfl) (fun _ _ => Nat.le_of_ble_eq_true rfl) (fun b2 h => ?_) ?_
    · unfold m4_l12_TokensKeep_k2 at h
      refine cseq ?_
      refine cregion ?_
      refine sv rfl (opv_loadN ti26 rfl (.lp _ _ _ rfl) (Nat.le_of_ble_eq_true rfl)) ?_
      refine sv rfl (opv_mv rfl) ?_
      obtain ⟨v3, hv3, h⟩ := bind_eq h
      refine scall1 rfl fn9 (opnds_cons rfl (opnds_cons rfl opnds_nil)) (pubA_id rfl) (m9_tokens_Find_c hv3) ?_
      refine sv rfl (opv_mvt rfl) ?_
      refine sv rfl (opv_extract rfl rfl) ?_
      refine sv rfl (opv_extract rfl rfl) ?_
      refine salloc rfl zi33 ?_
      refine sstore sz33 rfl rfl rfl rfl (Nat.le_of_ble_eq_true rfl) ?_
      refine smem [.box [.i .i64 a1.What, .i .i64 a1.Tok, .i .i64 a1.Attempt], .box [.sl b2.length (b2.flatMap eGTokensEntry)], .box [.i .i64 v3.1.Tok, .i .i64 v3.1.Attempt, .i .i64 v3.1.State, .i .i64 v3.1.Ts]] rfl ?_
      refine sv rfl (opv_as rfl) ?_
      refine snil ?_
      refine cseq ?_
      refine cregion ?_
      refine sv rfl (opv_loadN ti26 rfl (.lp _ _ _ rfl) (Nat.le_of_ble_eq_true rfl)) ?_
      refine sv rfl (opv_mv rfl) ?_
      refine sv rfl (opv_mv rfl) ?_
      obtain ⟨v4, hv4, h⟩ := bind_eq h
      refine scall1 rfl fn11 (opnds_cons rfl (opnds_cons rfl (opnds_cons rfl opnds_nil))) (pubA_id rfl) (m11_tokens_Fence_c hv4) ?_
      refine sv rfl (opv_mvt rfl) ?_
      refine sv rfl (opv_extract rfl rfl) ?_
      refine sv rfl (opv_extract rfl rfl) ?_
      refine sv rfl (opv_extract rfl rfl) ?_
      refine salloc rfl zi26 ?_
      refine sstore sz26 rfl rfl rfl rfl (Nat.le_of_ble_eq_true rfl) ?_
      refine smem [.box [.i .i64 a1.What, .i .i64 a1.Tok, .i .i64 a1.Attempt], .box [.sl b2.length (b2.flatMap eGTokensEntry)], .box [.i .i64 v3.1.Tok, .i .i64 v3.1.Attempt, .i .i64 v3.1.State, .i .i64 v3.1.Ts], .box [.sl v4.1.L.length (v4.1.L.flatMap eGTokensEntry)]] rfl ?_
      refine sv rfl (opv_as rfl) ?_
      refine sv rfl (opv_as rfl) ?_
      refine snil ?_
      refine cseq ?_
      refine cseq ?_
      refine cjoin3 (Unit) (fun b5 => [(2, .s (.one (.i .i64 a2))), (5, .s (.one (.lp 0 0))), (9, .s (.one (.b v1))), (10, .s (.one (.lp 1 0))), (14, .s (.one (.lp 2 0))), (15, .s (.one (.b v3.2)))]) (fun b5 => [.box [.i .i64 a1.What, .i .i64 a1.Tok, .i .i64 a1.Attempt], .box [.sl b2.length (b2.flatMap eGTokensEntry)], .box [.i .i64 v3.1.Tok, .i .i64 v3.1.Attempt, .i .i64 v3.1.State, .i .i64 v3.1.Ts], .box [.sl v4.1.L.length (v4.1.L.flatMap eGTokensEntry)]]) (fun b5 => m4_l12_TokensKeep_k5 a1 a2 v1 b2 v3 b5 = some r) (fun _ _ => inbL_of rfl) (fun _ _ => blkinb_of rfl) (fun _ _ => Nat.le_of_ble_eq_true rfl) (fun b5 h => ?_) ?_
      · unfold m4_l12_TokensKeep_k5 at h
        refine cseq ?_
        refine cregion ?_
        refine sv rfl (opv_loadN ti26 rfl (.lp _ _ _ rfl) (Nat.le_of_ble_eq_true rfl)) ?_
        refine sv rfl (opv_loadN ti28 rfl (.lp _ _ _ rfl) (Nat.le_of_ble_eq_true rfl)) ?_
        obtain ⟨v6, hv6, h⟩ := bind_eq h
        refine scall1 rfl fn8 (opnds_cons rfl (opnds_cons rfl (opnds_cons rfl opnds_nil))) (pubA_id rfl) (m8_l12_did_c hv6) ?_
        refine sv rfl (opv_mvt rfl) ?_
        refine sv rfl (opv_extract rfl rfl) ?_
        refine sv rfl (opv_extract rfl rfl) ?_
        refine salloc rfl zi26 ?_
        refine sstore sz26 rfl rfl rfl rfl (Nat.le_of_ble_eq_true rfl) ?_
        refine smem [.box [.i .i64 a1.What, .i .i64 a1.Tok, .i .i64 a1.Attempt], .box [.sl b2.length (b2.flatMap eGTokensEntry)], .box [.i .i64 v3.1.Tok, .i .i64 v3.1.Attempt, .i .i64 v3.1.State, .i .i64 v3.1.Ts], .box [.sl v4.1.L.length (v4.1.L.flatMap eGTokensEntry)], .box [.sl v6.1.L.length (v6.1.L.flatMap eGTokensEntry)]] rfl ?_
        refine sv rfl (opv_as rfl) ?_
        refine snil ?_
        refine cseq ?_
        refine cseq ?_
        refine cregion ?_
        refine sv rfl (opv_mv rfl) ?_
        refine sv rfl (opv_ineq rfl rfl) ?_
        refine snil ?_
        refine ccond rfl (fun hc => ?_) (fun hc => ?_)
        · replace h := ite_t hc h
          clear hc
          refine cseq ?_
          refine cregion ?_
          refine sv rfl (opv_mv rfl) ?_
          refine sv rfl (opv_as rfl) ?_
          refine snil ?_
          refine cret ?_
          refine then_ret ?_
          obtain rfl := Option.some.inj h
          refine ⟨Or.inr rfl, _, _, _, (resVs_cons (ResV.tmp _ _ rfl) resVs_nil), (pubA_id rfl), ?_⟩
          rfl
        · replace h := ite_f hc h
          clear hc
          refine cskip ?_
          refine then_normal ?_
          refine cseq ?_
          refine cregion ?_
          refine sv rfl (opv_loadN ti26 rfl (.lp _ _ _ rfl) (Nat.le_of_ble_eq_true rfl)) ?_
          refine sv rfl (opv_mv rfl) ?_
          obtain ⟨v7, hv7, h⟩ := bind_eq h
          refine scall1 rfl fn9 (opnds_cons rfl (opnds_cons rfl opnds_nil)) (pubA_id rfl) (m9_tokens_Find_c hv7) ?_
          refine sv rfl (opv_mvt rfl) ?_
          refine sv rfl (opv_extract rfl rfl) ?_
          refine sv rfl (opv_extract rfl rfl) ?_
          refine salloc rfl zi33 ?_
          refine sstore sz33 rfl rfl rfl rfl (Nat.le_of_ble_eq_true rfl) ?_
          refine smem [.box [.i .i64 a1.What, .i .i64 a1.Tok, .i .i64 a1.Attempt], .box [.sl b2.length (b2.flatMap eGTokensEntry)], .box [.i .i64 v3.1.Tok, .i .i64 v3.1.Attempt, .i .i64 v3.1.State, .i .i64 v3.1.Ts], .box [.sl v4.1.L.length (v4.1.L.flatMap eGTokensEntry)], .box [.sl v6.1.L.length (v6.1.L.flatMap eGTokensEntry)], .box [.i .i64 v7.1.Tok, .i .i64 v7.1.Attempt, .i .i64 v7.1.State, .i .i64 v7.1.Ts]] rfl ?_
          refine sv rfl (opv_as rfl) ?_
          refine snil ?_
          refine cseq ?_
          refine cregion ?_
          refine sv rfl (opv_mv rfl) ?_
          refine sv rfl (opv_mv rfl) ?_
          refine ssplit 103 rfl (fun hc => ?_) (fun hc => ?_)
          · replace h := ite_t hc h
            clear hc
            refine son rfl rfl rfl ?_
            refine sv rfl (opv_fieldAddr_lp fi28_1 rfl) ?_
            refine son rfl rfl rfl ?_
            refine sv rfl (opv_load1 ti3 rfl (.lp _ _ _ rfl) rfl) ?_
            refine son rfl rfl rfl ?_
            refine sv rfl (opv_mv rfl) ?_
            refine son rfl rfl rfl ?_
            refine sv rfl (opv_ieql rfl rfl) ?_
            refine son rfl rfl rfl ?_
            refine sv rfl (opv_mv rfl) ?_
            refine ssplit 108 rfl (fun hc => ?_) (fun hc => ?_)
            · replace h := ite_t hc h
              clear hc
              refine soff rfl rfl rfl rfl ?_
              refine soff rfl rfl rfl rfl ?_
              refine soff rfl rfl rfl rfl ?_
              refine soff rfl rfl rfl rfl ?_
              refine soffu rfl rfl rfl ?_
              refine soffu rfl rfl rfl ?_
              refine soffu rfl rfl rfl ?_
              refine soff rfl rfl rfl rfl ?_
              refine son rfl rfl rfl ?_
              refine sv rfl (opv_pick_t rfl rfl) ?_
              refine sv rfl (opv_pick_t rfl rfl) ?_
              refine sv rfl (opv_as rfl) ?_
              refine snil ?_
              refine cret ?_
              obtain rfl := Option.some.inj h
              refine ⟨Or.inr rfl, _, _, _, (resVs_cons (ResV.tmp _ _ rfl) resVs_nil), (pubA_id rfl), ?_⟩
              rfl
            · replace h := ite_f hc h
              clear hc
              refine son rfl rfl rfl ?_
              refine sv rfl (opv_mv rfl) ?_
              refine son rfl rfl rfl ?_
              refine sv rfl (opv_mv rfl) ?_
              refine son rfl rfl rfl ?_
              refine sv rfl (opv_beql Try.underlying4 rfl rfl) ?_
              refine son rfl rfl rfl ?_
              refine sv rfl (opv_mv rfl) ?_
              refine ssplit 112 rfl (fun hc => ?_) (fun hc => ?_)
              · replace h := ite_t hc h
                clear hc
                refine son rfl rfl rfl ?_
                refine sv rfl (opv_loadN ti33 rfl (.lp _ _ _ rfl) (Nat.le_of_ble_eq_true rfl)) ?_
                refine son rfl rfl rfl ?_
                refine sv rfl (opv_loadN ti33 rfl (.lp _ _ _ rfl) (Nat.le_of_ble_eq_true rfl)) ?_
                refine son rfl rfl rfl ?_
                refine sv rfl (opv_steql et33 rfl rfl rfl rfl rfl) ?_
                refine son rfl rfl rfl ?_
                refine sv rfl (opv_pick_t rfl rfl) ?_
                refine son rfl rfl rfl ?_
                refine sv rfl (opv_pick_f rfl rfl) ?_
                refine sv rfl (opv_pick_t rfl rfl) ?_
                refine sv rfl (opv_as rfl) ?_
                refine snil ?_
                refine cret ?_
                obtain rfl := Option.some.inj h
                refine ⟨Or.inr rfl, _, _, _, (resVs_cons (ResV.tmp _ _ rfl) resVs_nil), (pubA_id rfl), ?_⟩
                rfl
              · replace h := ite_f hc h
                clear hc
                refine soff rfl rfl rfl rfl ?_
                refine soff rfl rfl rfl rfl ?_
                refine soff rfl rfl rfl rfl ?_
                refine son rfl rfl rfl ?_
                refine sv rfl (opv_pick_f rfl rfl) ?_
                refine son rfl rfl rfl ?_
                refine sv rfl (opv_pick_f rfl rfl) ?_
                refine sv rfl (opv_pick_t rfl rfl) ?_
                refine sv rfl (opv_as rfl) ?_
                refine snil ?_
                refine cret ?_
                obtain rfl := Option.some.inj h
                refine ⟨Or.inr rfl, _, _, _, (resVs_cons (ResV.tmp _ _ rfl) resVs_nil), (pubA_id rfl), ?_⟩
                rfl
          · replace h := ite_f hc h
            clear hc
            refine soff rfl rfl rfl rfl ?_
            refine soff rfl rfl rfl rfl ?_
            refine soff rfl rfl rfl rfl ?_
            refine soff rfl rfl rfl rfl ?_
            refine soff rfl rfl rfl rfl ?_
            refine soffu rfl rfl rfl ?_
            refine soffu rfl rfl rfl ?_
            refine soffu rfl rfl rfl ?_
            refine soffu rfl rfl rfl ?_
            refine soffu rfl rfl rfl ?_
            refine soffu rfl rfl rfl ?_
            refine soffu rfl rfl rfl ?_
            refine soffu rfl rfl rfl ?_
            refine soff rfl rfl rfl rfl ?_
            refine sv rfl (opv_pick_f rfl rfl) ?_
            refine sv rfl (opv_as rfl) ?_
            refine snil ?_
            refine cret ?_
            obtain rfl := Option.some.inj h
            refine ⟨Or.inr rfl, _, _, _, (resVs_cons (ResV.tmp _ _ rfl) resVs_nil), (pubA_id rfl), ?_⟩
            rfl
      · skip
        refine cregion ?_
        refine sv rfl (opv_mv rfl) ?_
        refine sv rfl (opv_mv rfl) ?_
        refine ssplit 64 rfl (fun hc => ?_) (fun hc => ?_)
        · replace h := ite_t hc h
          clear hc
          refine son rfl rfl rfl ?_
          refine sv rfl (opv_fieldAddr_lp fi33_2 rfl) ?_
          refine son rfl rfl rfl ?_
          refine sv rfl (opv_load1 ti3 rfl (.lp _ _ _ rfl) rfl) ?_
          refine son rfl rfl rfl ?_
          refine sv rfl (opv_ieql rfl rfl) ?_
          refine sv rfl (opv_pick_t rfl rfl) ?_
          refine sv rfl (opv_mv rfl) ?_
          refine ssplit 69 rfl (fun hc => ?_) (fun hc => ?_)
          · replace h := ite_t hc h
            clear hc
            refine son rfl rfl rfl ?_
            refine sv rfl (opv_mv rfl) ?_
            refine son rfl rfl rfl ?_
            refine sv rfl (opv_ieql rfl rfl) ?_
            refine son rfl rfl rfl ?_
            refine sv rfl (opv_mv rfl) ?_
            refine ssplit 72 rfl (fun hc => ?_) (fun hc => ?_)
            · replace h := ite_t hc h
              clear hc
              refine son rfl rfl rfl ?_
              refine sv rfl (opv_mv rfl) ?_
              refine son rfl rfl rfl ?_
              refine sv rfl (opv_fieldAddr_lp fi33_3 rfl) ?_
              refine son rfl rfl rfl ?_
              refine sv rfl (opv_load1 ti3 rfl (.lp _ _ _ rfl) rfl) ?_
              refine son rfl rfl rfl ?_
              refine sv rfl (opv_ineq rfl rfl) ?_
              refine son rfl rfl rfl ?_
              refine sv rfl (opv_pick_t rfl rfl) ?_
              refine son rfl rfl rfl ?_
              refine sv rfl (opv_mv rfl) ?_
              refine ssplit 78 rfl (fun hc => ?_) (fun hc => ?_)
              · replace h := ite_t hc h
                clear hc
                refine soff rfl rfl rfl rfl ?_
                refine soff rfl rfl rfl rfl ?_
                refine soff rfl rfl rfl rfl ?_
                refine soffu rfl rfl rfl ?_
                refine soffu rfl rfl rfl ?_
                refine soff rfl rfl rfl rfl ?_
                refine son rfl rfl rfl ?_
                refine sv rfl (opv_pick_t rfl rfl) ?_
                refine sv rfl (opv_pick_t rfl rfl) ?_
                refine snil ?_
                refine ccond rfl (fun _ => ?_) (fun hx => Bool.noConfusion hx)
                refine cseq ?_
                refine cregion ?_
                refine sv rfl (opv_as rfl) ?_
                refine snil ?_
                refine cret ?_
                refine then_ret ?_
                obtain rfl := Option.some.inj h
                refine ⟨Or.inr rfl, _, _, _, (resVs_cons (ResV.tmp _ _ rfl) resVs_nil), (pubA_id rfl), ?_⟩
                rfl
              · replace h := ite_f hc h
                clear hc
                refine son rfl rfl rfl ?_
                refine sv rfl (opv_mv rfl) ?_
                refine son rfl rfl rfl ?_
                refine sv rfl (opv_ineq rfl rfl) ?_
                refine son rfl rfl rfl ?_
                refine sv rfl (opv_mv rfl) ?_
                refine ssplit 81 rfl (fun hc => ?_) (fun hc => ?_)
                · replace h := ite_t hc h
                  clear hc
                  refine son rfl rfl rfl ?_
                  refine sv rfl (opv_mv rfl) ?_
                  refine son rfl rfl rfl ?_
                  refine sv rfl (opv_ineq rfl rfl) ?_
                  refine son rfl rfl rfl ?_
                  refine sv rfl (opv_pick_t rfl rfl) ?_
                  refine son rfl rfl rfl ?_
                  refine sv rfl (opv_pick_f rfl rfl) ?_
                  refine sv rfl (opv_pick_t rfl rfl) ?_
                  refine snil ?_
                  refine ccond rfl (fun hc => ?_) (fun hc => ?_)
                  · replace h := ite_t hc h
                    clear hc
                    refine cseq ?_
                    refine cregion ?_
                    refine sv rfl (opv_as rfl) ?_
                    refine snil ?_
                    refine cret ?_
                    refine then_ret ?_
                    obtain rfl := Option.some.inj h
                    refine ⟨Or.inr rfl, _, _, _, (resVs_cons (ResV.tmp _ _ rfl) resVs_nil), (pubA_id rfl), ?_⟩
                    rfl
                  · replace h := ite_f hc h
                    clear hc
                    refine cskip ?_
                    refine then_normal ?_
                    exact ⟨(), _, h, ⟨rfl, rfl, rfl, rfl, rfl, rfl, trivial⟩, rfl⟩
                · replace h := ite_f hc h
                  clear hc
                  refine soff rfl rfl rfl rfl ?_
                  refine soff rfl rfl rfl rfl ?_
                  refine son rfl rfl rfl ?_
                  refine sv rfl (opv_pick_f rfl rfl) ?_
                  refine son rfl rfl rfl ?_
                  refine sv rfl (opv_pick_f rfl rfl) ?_
                  refine sv rfl (opv_pick_t rfl rfl) ?_
                  refine snil ?_
                  refine ccond rfl (fun hx => Bool.noConfusion hx) (fun _ => ?_)
                  refine cskip ?_
                  refine then_normal ?_
                  exact ⟨(), _, h, ⟨rfl, rfl, rfl, rfl, rfl, rfl, trivial⟩, rfl⟩
            · replace h := ite_f hc h
              clear hc
              refine soff rfl rfl rfl rfl ?_
              refine soff rfl rfl rfl rfl ?_
              refine soff rfl rfl rfl rfl ?_
              refine soff rfl rfl rfl rfl ?_
              refine son rfl rfl rfl ?_
              refine sv rfl (opv_pick_f rfl rfl) ?_
              refine son rfl rfl rfl ?_
              refine sv rfl (opv_mv rfl) ?_
              refine son rfl rfl rfl ?_
              refine sv rfl (opv_mv rfl) ?_
              refine son rfl rfl rfl ?_
              refine sv rfl (opv_ineq rfl rfl) ?_
              refine son rfl rfl rfl ?_
              refine sv rfl (opv_mv rfl) ?_
              refine ssplit 81 rfl (fun hc => ?_) (fun hc => ?_)
              · replace h := ite_t hc h
                clear hc
                refine son rfl rfl rfl ?_
                refine sv rfl (opv_mv rfl) ?_
                refine son rfl rfl rfl ?_
                refine sv rfl (opv_ineq rfl rfl) ?_
                refine son rfl rfl rfl ?_
                refine sv rfl (opv_pick_t rfl rfl) ?_
                refine son rfl rfl rfl ?_
                refine sv rfl (opv_pick_f rfl rfl) ?_
                refine sv rfl (opv_pick_t rfl rfl) ?_
                refine snil ?_
                refine ccond rfl (fun hc => ?_) (fun hc => ?_)
                · replace h := ite_t hc h
                  clear hc
                  refine cseq ?_
                  refine cregion ?_
                  refine sv rfl (opv_as rfl) ?_
                  refine snil ?_
                  refine cret ?_
                  refine then_ret ?_
                  obtain rfl := Option.some.inj h
                  refine ⟨Or.inr rfl, _, _, _, (resVs_cons (ResV.tmp _ _ rfl) resVs_nil), (pubA_id rfl), ?_⟩
                  rfl
                · replace h := ite_f hc h
                  clear hc
                  refine cskip ?_
                  refine then_normal ?_
                  exact ⟨(), _, h, ⟨rfl, rfl, rfl, rfl, rfl, rfl, trivial⟩, rfl⟩
              · replace h := ite_f hc h
                clear hc
                refine soff rfl rfl rfl rfl ?_
                refine soff rfl rfl rfl rfl ?_
                refine son rfl rfl rfl ?_
                refine sv rfl (opv_pick_f rfl rfl) ?_
                refine son rfl rfl rfl ?_
                refine sv rfl (opv_pick_f rfl rfl) ?_
                refine sv rfl (opv_pick_t rfl rfl) ?_
                refine snil ?_
                refine ccond rfl (fun hx => Bool.noConfusion hx) (fun _ => ?_)
                refine cskip ?_
                refine then_normal ?_
                exact ⟨(), _, h, ⟨rfl, rfl, rfl, rfl, rfl, rfl, trivial⟩, rfl⟩
          · replace h := ite_f hc h
            clear hc
            refine soff rfl rfl rfl rfl ?_
            refine soff rfl rfl rfl rfl ?_
            refine soff rfl rfl rfl rfl ?_
            refine soffu rfl rfl rfl ?_
            refine soffu rfl rfl rfl ?_
            refine soffu rfl rfl rfl ?_
            refine soffu rfl rfl rfl ?_
            refine soff rfl rfl rfl rfl ?_
            refine soff rfl rfl rfl rfl ?_
            refine soffu rfl rfl rfl ?_
            refine soffu rfl rfl rfl ?_
            refine soffu rfl rfl rfl ?_
            refine soffu rfl rfl rfl ?_
            refine soffu rfl rfl rfl ?_
            refine soffu rfl rfl rfl ?_
            refine soff rfl rfl rfl rfl ?_
            refine sv rfl (opv_pick_f rfl rfl) ?_
            refine snil ?_
            refine ccond rfl (fun hx => Bool.noConfusion hx) (fun _ => ?_)
            refine cskip ?_
            refine then_normal ?_
            exact ⟨(), _, h, ⟨rfl, rfl, rfl, rfl, rfl, rfl, trivial⟩, rfl⟩
        · replace h := ite_f hc h
          clear hc
          refine soff rfl rfl rfl rfl ?_
          refine soff rfl rfl rfl rfl ?_
          refine soff rfl rfl rfl rfl ?_
          refine sv rfl (opv_pick_f rfl rfl) ?_
          refine sv rfl (opv_mv rfl) ?_
          refine soff rfl rfl rfl rfl ?_
          refine soff rfl rfl rfl rfl ?_
          refine soff rfl rfl rfl rfl ?_
          refine soffu rfl rfl rfl ?_
          refine soffu rfl rfl rfl ?_
          refine soffu rfl rfl rfl ?_
          refine soffu rfl rfl rfl ?_
          refine soff rfl rfl rfl rfl ?_
          refine soff rfl rfl rfl rfl ?_
          refine soffu rfl rfl rfl ?_
          refine soffu rfl rfl rfl ?_
          refine soffu rfl rfl rfl ?_
          refine soffu rfl rfl rfl ?_
          refine soffu rfl rfl rfl ?_
          refine soffu rfl rfl rfl ?_
          refine soff rfl rfl rfl rfl ?_
          refine sv rfl (opv_pick_f rfl rfl) ?_
          refine snil ?_
          refine ccond rfl (fun hx => Bool.noConfusion hx) (fun _ => ?_)
          refine cskip ?_
          refine then_normal ?_
          exact ⟨(), _, h, ⟨rfl, rfl, rfl, rfl, rfl, rfl, trivial⟩, rfl⟩
    · skip
      refine cblock ?_
      refine cpubbox 1 0 rfl rfl PubL.nil rfl ?_
      obtain ⟨x8, hx8, ho8⟩ := bind_eq h
      refine awc_loop (G := Nat × (Int × (List GTokensEntry))) (fun g => [(0, .s (.one (.sl a0.length (a0.flatMap eGL12Act)))), (2, .s (.one (.i .i64 a2))), (3, .s (.one (.i .i64 a3))), (5, .s (.one (.lp 0 0))), (9, .s (.one (.b v1))), (10, .s (.one (.lp 1 0))), (11, .s (.one (.i .i64 g.2.1)))]) (fun g => [.box [.i .i64 a1.What, .i .i64 a1.Tok, .i .i64 a1.Attempt], .box [.sl g.2.2.length (g.2.2.flatMap eGTokensEntry)]]) (fun g => iterB (m4_l12_TokensKeep_s8 a0) g.1 g.2 = some x8) (fun g => g.1) (fuel, (0, ([] : List GTokensEntry))) hx8 ⟨rfl, rfl, rfl, rfl, rfl, rfl, rfl, trivial⟩ [] rfl (fun _ _ => inbL_of rfl) (fun _ _ => blkinb_of rfl) (fun _ _ => Nat.le_of_ble_eq_true rfl) ?_
      clear hx8 h
      rintro ⟨n8, s8⟩ h
      obtain ⟨n8, y8, rfl, h, hk8⟩ := iterB_eq h
      unfold m4_l12_TokensKeep_s8 at h
      refine cseq ?_
      refine cseq ?_
      refine cregion ?_
      refine sv rfl (opv_mv rfl) ?_
      refine sv rfl (opv_mv rfl) ?_
      refine sv rfl (opv_len_sl si22 rfl) ?_
      refine sv rfl (opv_lss rfl rfl) ?_
      refine snil ?_
      refine ccond rfl (fun hc => ?_) (fun hc => ?_)
      · replace h := ite_t hc h
        clear hc
        refine cskip ?_
        refine then_normal ?_
        refine cseq ?_
        refine cblock ?_
        refine cseq ?_
        refine chole ?_
        obtain ⟨u9, hu9, h⟩ := bind_eq h
        obtain ⟨v10, hv10, h⟩ := bind_eq h
        refine cdraw_e [11, 12] [0, 0, 0, 6, 14, 0, 32, 127, 255, 511, 511, 0, 3071, 8191] [[.box [.i .i64 a1.What, .i .i64 a1.Tok, .i .i64 a1.Attempt], .box [.sl s8.2.length (s8.2.flatMap eGTokensEntry)], .hole], [.box [.i .i64 a1.What, .i .i64 a1.Tok, .i .i64 a1.Attempt], .box [.sl s8.2.length (s8.2.flatMap eGTokensEntry)], .box [.raw (.slice none 0 0)]], [.box [.i .i64 a1.What, .i .i64 a1.Tok, .i .i64 a1.Attempt], .box [.sl s8.2.length (s8.2.flatMap eGTokensEntry)], .box [.sl v10.1.L.length (v10.1.L.flatMap eGTokensEntry)]]] (by kernel_rfl) mixed (by kernel_rfl) (by decide) rfl rfl rfl rfl ?_
        refine ev (sees_all (md := [.box [.i .i64 a1.What, .i .i64 a1.Tok, .i .i64 a1.Attempt], .box [.sl s8.2.length (s8.2.flatMap eGTokensEntry)], .dead]) ⟨⟨rfl, ⟨rfl, ⟨trivial, trivial⟩⟩⟩, ⟨⟨rfl, ⟨rfl, ⟨trivial, trivial⟩⟩⟩, ⟨⟨rfl, ⟨rfl, ⟨trivial, trivial⟩⟩⟩, trivial⟩⟩⟩) rfl rfl (opv_loadN ti26 rfl (.lp _ _ _ rfl) (Nat.le_of_ble_eq_true rfl)) ?_
        refine ev (sees_all (md := [.box [.i .i64 a1.What, .i .i64 a1.Tok, .i .i64 a1.Attempt], .box [.sl s8.2.length (s8.2.flatMap eGTokensEntry)], .dead]) ⟨⟨rfl, ⟨rfl, ⟨trivial, trivial⟩⟩⟩, ⟨⟨rfl, ⟨rfl, ⟨trivial, trivial⟩⟩⟩, ⟨⟨rfl, ⟨rfl, ⟨trivial, trivial⟩⟩⟩, trivial⟩⟩⟩) rfl rfl (opv_mv rfl) ?_
        refine ev (sees_all (md := [.box [.i .i64 a1.What, .i .i64 a1.Tok, .i .i64 a1.Attempt], .box [.sl s8.2.length (s8.2.flatMap eGTokensEntry)], .dead]) ⟨⟨rfl, ⟨rfl, ⟨trivial, trivial⟩⟩⟩, ⟨⟨rfl, ⟨rfl, ⟨trivial, trivial⟩⟩⟩, ⟨⟨rfl, ⟨rfl, ⟨trivial, trivial⟩⟩⟩, trivial⟩⟩⟩) rfl rfl (opv_mv rfl) ?_
        refine ev (sees_all (md := [.box [.i .i64 a1.What, .i .i64 a1.Tok, .i .i64 a1.Attempt], .box [.sl s8.2.length (s8.2.flatMap eGTokensEntry)], .dead]) ⟨⟨rfl, ⟨rfl, ⟨trivial, trivial⟩⟩⟩, ⟨⟨rfl, ⟨rfl, ⟨trivial, trivial⟩⟩⟩, ⟨⟨rfl, ⟨rfl, ⟨trivial, trivial⟩⟩⟩, trivial⟩⟩⟩) rfl rfl (opv_ix (f := eGL12Act) si22 (fun _ => rfl) rfl rfl rfl rfl hu9) ?_
        refine ev (sees_all (md := [.box [.i .i64 a1.What, .i .i64 a1.Tok, .i .i64 a1.Attempt], .box [.sl s8.2.length (s8.2.flatMap eGTokensEntry)], .dead]) ⟨⟨rfl, ⟨rfl, ⟨trivial, trivial⟩⟩⟩, ⟨⟨rfl, ⟨rfl, ⟨trivial, trivial⟩⟩⟩, ⟨⟨rfl, ⟨rfl, ⟨trivial, trivial⟩⟩⟩, trivial⟩⟩⟩) rfl rfl (opv_loadNe (ys := [.i .i64 u9.What, .i .i64 u9.Tok, .i .i64 u9.Attempt]) ti28 rfl (.cp _) rfl rfl) ?_
        refine ev (sees_all (md := [.box [.i .i64 a1.What, .i .i64 a1.Tok, .i .i64 a1.Attempt], .box [.sl s8.2.length (s8.2.flatMap eGTokensEntry)], .dead]) ⟨⟨rfl, ⟨rfl, ⟨trivial, trivial⟩⟩⟩, ⟨⟨rfl, ⟨rfl, ⟨trivial, trivial⟩⟩⟩, ⟨⟨rfl, ⟨rfl, ⟨trivial, trivial⟩⟩⟩, trivial⟩⟩⟩) rfl rfl (opv_mv rfl) ?_
        refine ev (sees_all (md := [.box [.i .i64 a1.What, .i .i64 a1.Tok, .i .i64 a1.Attempt], .box [.sl s8.2.length (s8.2.flatMap eGTokensEntry)], .dead]) ⟨⟨rfl, ⟨rfl, ⟨trivial, trivial⟩⟩⟩, ⟨⟨rfl, ⟨rfl, ⟨trivial, trivial⟩⟩⟩, ⟨⟨rfl, ⟨rfl, ⟨trivial, trivial⟩⟩⟩, trivial⟩⟩⟩) rfl rfl (opv_add rfl rfl) ?_
        refine ed (sees_all (md := [.box [.i .i64 a1.What, .i .i64 a1.Tok, .i .i64 a1.Attempt], .box [.sl s8.2.length (s8.2.flatMap eGTokensEntry)], .dead]) ⟨⟨rfl, ⟨rfl, ⟨trivial, trivial⟩⟩⟩, ⟨⟨rfl, ⟨rfl, ⟨trivial, trivial⟩⟩⟩, ⟨⟨rfl, ⟨rfl, ⟨trivial, trivial⟩⟩⟩, trivial⟩⟩⟩) rfl rfl (opD_call fn8 (opnds_cons rfl (opnds_cons rfl (opnds_cons rfl opnds_nil))) rfl (m8_l12_did_c hv10)) ?_
        refine ev (sees_all (md := [.box [.i .i64 a1.What, .i .i64 a1.Tok, .i .i64 a1.Attempt], .box [.sl s8.2.length (s8.2.flatMap eGTokensEntry)], .dead]) ⟨⟨rfl, ⟨rfl, ⟨trivial, trivial⟩⟩⟩, ⟨⟨rfl, ⟨rfl, ⟨trivial, trivial⟩⟩⟩, ⟨⟨rfl, ⟨rfl, ⟨trivial, trivial⟩⟩⟩, trivial⟩⟩⟩) rfl rfl (opv_mvt rfl) ?_
        refine ev (sees_all (md := [.box [.i .i64 a1.What, .i .i64 a1.Tok, .i .i64 a1.Attempt], .box [.sl s8.2.length (s8.2.flatMap eGTokensEntry)], .dead]) ⟨⟨rfl, ⟨rfl, ⟨trivial, trivial⟩⟩⟩, ⟨⟨rfl, ⟨rfl, ⟨trivial, trivial⟩⟩⟩, ⟨⟨rfl, ⟨rfl, ⟨trivial, trivial⟩⟩⟩, trivial⟩⟩⟩) rfl rfl (opv_extract rfl rfl) ?_
        refine ev (sees_all (md := [.box [.i .i64 a1.What, .i .i64 a1.Tok, .i .i64 a1.Attempt], .box [.sl s8.2.length (s8.2.flatMap eGTokensEntry)], .dead]) ⟨⟨rfl, ⟨rfl, ⟨trivial, trivial⟩⟩⟩, ⟨⟨rfl, ⟨rfl, ⟨trivial, trivial⟩⟩⟩, ⟨⟨rfl, ⟨rfl, ⟨trivial, trivial⟩⟩⟩, trivial⟩⟩⟩) rfl rfl (opv_extract rfl rfl) ?_
        refine ee (x := .s (.one (.lp 2 0))) 0 rfl rfl rfl rfl rfl (fun ζ => ?_) ?_
        · refine salloc_at 2 rfl zi26 rfl ?_
          exact eend
        refine ee0 1 rfl rfl rfl rfl (fun ζ => ?_) ?_
        · refine sstore sz26 rfl rfl rfl rfl (Nat.le_of_ble_eq_true rfl) ?_
          refine smem [.box [.i .i64 a1.What, .i .i64 a1.Tok, .i .i64 a1.Attempt], .box [.sl s8.2.length (s8.2.flatMap eGTokensEntry)], .box [.sl v10.1.L.length (v10.1.L.flatMap eGTokensEntry)]] rfl ?_
          exact eend
        refine ev (sees_at 2 rfl rfl) rfl rfl (opv_as rfl) ?_
        refine enil ?_
        refine then_normal ?_
        refine cseq ?_
        refine cregion ?_
        refine sv rfl (opv_mv rfl) ?_
        refine sv rfl (opv_ieql rfl rfl) ?_
        refine snil ?_
        refine ccond rfl (fun hc => ?_) (fun hc => ?_)
        · replace h := ite_t hc h
          clear hc
          refine cregion ?_
          refine sv rfl (opv_loadN ti26 rfl (.lp _ _ _ rfl) (Nat.le_of_ble_eq_true rfl)) ?_
          refine sstore sz26 rfl rfl rfl rfl (Nat.le_of_ble_eq_true rfl) ?_
          refine smem [.box [.i .i64 a1.What, .i .i64 a1.Tok, .i .i64 a1.Attempt], .box [.sl v10.1.L.length (v10.1.L.flatMap eGTokensEntry)], .box [.sl v10.1.L.length (v10.1.L.flatMap eGTokensEntry)]] rfl ?_
          refine snil0 ?_
          refine block_normal ?_
          refine then_normal ?_
          refine cregion ?_
          refine sv rfl (opv_mv rfl) ?_
          refine sv rfl (opv_add rfl rfl) ?_
          refine sv rfl (opv_as rfl) ?_
          refine snil ?_
          obtain rfl := Option.some.inj h
          exact ⟨(n8, ((wI (s8.1 + 1)), v10.1.L)), _, hk8, ⟨rfl, rfl, rfl, rfl, rfl, rfl, rfl, trivial⟩, rfl, Nat.lt_succ_self _⟩
        · replace h := ite_f hc h
          clear hc
          refine cskip ?_
          refine block_normal ?_
          refine then_normal ?_
          refine cregion ?_
          refine sv rfl (opv_mv rfl) ?_
          refine sv rfl (opv_add rfl rfl) ?_
          refine sv rfl (opv_as rfl) ?_
          refine snil ?_
          obtain rfl := Option.some.inj h
          exact ⟨(n8, ((wI (s8.1 + 1)), s8.2)), _, hk8, ⟨rfl, rfl, rfl, rfl, rfl, rfl, rfl, trivial⟩, rfl, Nat.lt_succ_self _⟩
      · replace h := ite_f hc h
        clear hc
        refine cexit ?_
        refine then_exit ?_
        refine then_exit ?_
        refine block_hit ?_
        refine then_normal ?_
        obtain rfl := Option.some.inj h
        obtain rfl : _ = x8 := hk8
        exact ⟨s8.2, _, ho8, ⟨rfl, rfl, rfl, rfl, rfl, trivial⟩, rfl⟩

def m5_l12_TokensFull_k2 (a0 : Int) (a1 : Int) (v1 : Bool) (b2 : (List GTokensEntry)) : Option Bool :=
  (m12_tokens_Start (GTokensTable.mk b2) (wI (32 + (wI ((BitVec.ofInt 64 a0 &&& BitVec.ofInt 64 255).toNat : Int)))) 1).bind fun v3 => (m11_tokens_Fence (GTokensTable.mk b2) (wI (32 + (wI ((BitVec.ofInt 64 a0 &&& BitVec.ofInt 64 255).toNat : Int)))) 1).bind fun v4 => (m13_tokens_Release (GTokensTable.mk b2) (wI ((BitVec.ofInt 64 a1 &&& BitVec.ofInt 64 31).toNat : Int))).bind fun v5 => (m14_tokens_Finish (GTokensTable.mk b2) (wI ((BitVec.ofInt 64 a1 &&& BitVec.ofInt 64 31).toNat : Int)) 1 3).bind fun v6 => (m13_tokens_Release v6.1 (wI ((BitVec.ofInt 64 a1 &&& BitVec.ofInt 64 31).toNat : Int))).bind fun v7 => (m12_tokens_Start v7.1 (wI (32 + (wI ((BitVec.ofInt 64 a0 &&& BitVec.ofInt 64 255).toNat : Int)))) 1).bind fun v8 => if v1 then (if (decide (v3.2 = 8)) then (if (decide (v4.2.2 = 8)) then (if (decide (v5.2 = 7)) then (if (decide (v6.2 = 0)) then (if (decide (v7.2 = 0)) then (some (decide (v8.2 = 0))) else (some false)) else (some false)) else (some false)) else (some false)) else (some false)) else (some false)

def m5_l12_TokensFull_s9 (s9 : Int × (List GTokensEntry)) : Option (LR (Int × (List GTokensEntry)) ((List GTokensEntry)) (Bool)) :=
  if (decide (s9.1 < 32)) then ((m12_tokens_Start (GTokensTable.mk s9.2) s9.1 1).bind fun v10 => if (!decide (v10.2 = 0)) then (some (.ret false)) else (some (.cont ((wI (s9.1 + 1)), v10.1.L)))) else (some (.brk s9.2))
def m5_l12_TokensFull (a0 : Int) (a1 : Int) : Option Bool :=
  (m7_l12_awake).bind fun v1 => (iter m5_l12_TokensFull_s9 fuel (0, ([] : List GTokensEntry))).bind fun x => match x with | .inl r => some r | .inr e11 => m5_l12_TokensFull_k2 a0 a1 v1 e11

set_option maxRecDepth 100000 in
theorem m5_l12_TokensFull_c {a0 : Int} {a1 : Int} {r : Bool} (h : m5_l12_TokensFull a0 a1 = some r) : CallsA Try.prog 5 [.one (.i .i64 a0), .one (.i .i64 a1)] (· = .s (.one (.b r))) := by
  unfold m5_l12_TokensFull at h
  refine callsA_of Try.func5 rfl (nt := 105) rfl (Nat.le_of_ble_eq_true rfl) ?_
  intro w0 S0
  refine cseq ?_
  refine cregion ?_
  refine sv rfl (opv_as rfl) ?_
  refine snil ?_
  refine cseq ?_
  refine cregion ?_
  obtain ⟨v1, hv1, h⟩ := bind_eq h
  refine scall1 rfl fn7 opnds_nil (pubA_id rfl) (m7_l12_awake_c hv1) ?_
  refine sv rfl (opv_as rfl) ?_
  refine snil ?_
  refine cseq ?_
  refine cregion ?_
  refine sv rfl (opv_build zi26 pi26 parts_nil (.nil _)) ?_
  refine salloc rfl zi26 ?_
  refine sstore sz26 rfl rfl rfl rfl (Nat.le_of_ble_eq_true rfl) ?_
  refine smem [.box [.raw (.slice none 0 0)]] rfl ?_
  refine snil ?_
  refine cseq ?_
  refine cseq ?_
  refine cregion ?_
  refine sv rfl (opv_as rfl) ?_
  refine snil ?_
  refine cjoin ((List GTokensEntry)) (fun b2 => [(0, .s (.one (.i .i64 a0))), (1, .s (.one (.i .i64 a1))), (5, .s (.one (.b v1))), (6, .s (.one (.lp 0 0)))]) (fun b2 => [.box [.sl b2.length (b2.flatMap eGTokensEntry)]]) (fun b2 => m5_l12_TokensFull_k2 a0 a1 v1 b2 = some r) (fun _ _ => inbL_of rfl) (fun _ _ => blkinb_of rfl) (fun _ _ => Nat.le_of_ble_eq_true rfl) (fun b2 h => ?_) ?_
  · unfold m5_l12_TokensFull_k2 at h
    refine cseq ?_
    refine cregion ?_
    refine sv rfl (opv_mv rfl) ?_
    refine sv rfl (opv_and rfl rfl) ?_
    refine sv rfl (opv_add rfl rfl) ?_
    refine sv rfl (opv_as rfl) ?_
    refine snil ?_
    refine cseq ?_
    refine cregion ?_
    refine sv rfl (opv_loadN ti26 rfl (.lp _ _ _ rfl) (Nat.le_of_ble_eq_true rfl)) ?_
    refine sv rfl (opv_mv rfl) ?_
    obtain ⟨v3, hv3, h⟩ := bind_eq h
    refine scall1 rfl fn12 (opnds_cons rfl (opnds_cons rfl (opnds_cons rfl opnds_nil))) (pubA_id rfl) (m12_tokens_Start_c hv3) ?_
    refine sv rfl (opv_mvt rfl) ?_
    refine sv rfl (opv_extract rfl rfl) ?_
    refine sv rfl (opv_extract rfl rfl) ?_
    refine salloc rfl zi26 ?_
    refine sstore sz26 rfl rfl rfl rfl (Nat.le_of_ble_eq_true rfl) ?_
    refine smem [.box [.sl b2.length (b2.flatMap eGTokensEntry)], .box [.sl v3.1.L.length (v3.1.L.flatMap eGTokensEntry)]] rfl ?_
    refine sv rfl (opv_as rfl) ?_
    refine snil ?_
    refine cseq ?_
    refine cregion ?_
    refine sv rfl (opv_loadN ti26 rfl (.lp _ _ _ rfl) (Nat.le_of_ble_eq_true rfl)) ?_
    refine sv rfl (opv_mv rfl) ?_
    obtain ⟨v4, hv4, h⟩ := bind_eq h
    refine scall1 rfl fn11 (opnds_cons rfl (opnds_cons rfl (opnds_cons rfl opnds_nil))) (pubA_id rfl) (m11_tokens_Fence_c hv4) ?_
    refine sv rfl (opv_mvt rfl) ?_
    refine sv rfl (opv_extract rfl rfl) ?_
    refine sv rfl (opv_extract rfl rfl) ?_
    refine sv rfl (opv_extract rfl rfl) ?_
    refine salloc rfl zi26 ?_
    refine sstore sz26 rfl rfl rfl rfl (Nat.le_of_ble_eq_true rfl) ?_
    refine smem [.box [.sl b2.length (b2.flatMap eGTokensEntry)], .box [.sl v3.1.L.length (v3.1.L.flatMap eGTokensEntry)], .box [.sl v4.1.L.length (v4.1.L.flatMap eGTokensEntry)]] rfl ?_
    refine sv rfl (opv_as rfl) ?_
    refine sv rfl (opv_as rfl) ?_
    refine snil ?_
    refine cseq ?_
    refine cregion ?_
    refine sv rfl (opv_mv rfl) ?_
    refine sv rfl (opv_and rfl rfl) ?_
    refine sv rfl (opv_as rfl) ?_
    refine snil ?_
    refine cseq ?_
    refine cregion ?_
    refine sv rfl (opv_loadN ti26 rfl (.lp _ _ _ rfl) (Nat.le_of_ble_eq_true rfl)) ?_
    refine sv rfl (opv_mv rfl) ?_
    obtain ⟨v5, hv5, h⟩ := bind_eq h
    refine scall1 rfl fn13 (opnds_cons rfl (opnds_cons rfl opnds_nil)) (pubA_id rfl) (m13_tokens_Release_c hv5) ?_
    refine sv rfl (opv_mvt rfl) ?_
    refine sv rfl (opv_extract rfl rfl) ?_
    refine sv rfl (opv_extract rfl rfl) ?_
    refine salloc rfl zi26 ?_
    refine sstore sz26 rfl rfl rfl rfl (Nat.le_of_ble_eq_true rfl) ?_
    refine smem [.box [.sl b2.length (b2.flatMap eGTokensEntry)], .box [.sl v3.1.L.length (v3.1.L.flatMap eGTokensEntry)], .box [.sl v4.1.L.length (v4.1.L.flatMap eGTokensEntry)], .box [.sl v5.1.L.length (v5.1.L.flatMap eGTokensEntry)]] rfl ?_
    refine sv rfl (opv_as rfl) ?_
    refine snil ?_
    refine cseq ?_
    refine cregion ?_
    refine sv rfl (opv_loadN ti26 rfl (.lp _ _ _ rfl) (Nat.le_of_ble_eq_true rfl)) ?_
    refine sv rfl (opv_mv rfl) ?_
    obtain ⟨v6, hv6, h⟩ := bind_eq h
    refine scall1 rfl fn14 (opnds_cons rfl (opnds_cons rfl (opnds_cons rfl (opnds_cons rfl opnds_nil)))) (pubA_id rfl) (m14_tokens_Finish_c hv6) ?_
    refine sv rfl (opv_mvt rfl) ?_
    refine sv rfl (opv_extract rfl rfl) ?_
    refine sv rfl (opv_extract rfl rfl) ?_
    refine sstore sz26 rfl rfl rfl rfl (Nat.le_of_ble_eq_true rfl) ?_
    refine smem [.box [.sl v6.1.L.length (v6.1.L.flatMap eGTokensEntry)], .box [.sl v3.1.L.length (v3.1.L.flatMap eGTokensEntry)], .box [.sl v4.1.L.length (v4.1.L.flatMap eGTokensEntry)], .box [.sl v5.1.L.length (v5.1.L.flatMap eGTokensEntry)]] rfl ?_
    refine sv rfl (opv_as rfl) ?_
    refine snil ?_
    refine cseq ?_
    refine cregion ?_
    refine sv rfl (opv_loadN ti26 rfl (.lp _ _ _ rfl) (Nat.le_of_ble_eq_true rfl)) ?_
    refine sv rfl (opv_mv rfl) ?_
    obtain ⟨v7, hv7, h⟩ := bind_eq h
    refine scall1 rfl fn13 (opnds_cons rfl (opnds_cons rfl opnds_nil)) (pubA_id rfl) (m13_tokens_Release_c hv7) ?_
    refine sv rfl (opv_mvt rfl) ?_
    refine sv rfl (opv_extract rfl rfl) ?_
    refine sv rfl (opv_extract rfl rfl) ?_
    refine sstore sz26 rfl rfl rfl rfl (Nat.le_of_ble_eq_true rfl) ?_
    refine smem [.box [.sl v7.1.L.length (v7.1.L.flatMap eGTokensEntry)], .box [.sl v3.1.L.length (v3.1.L.flatMap eGTokensEntry)], .box [.sl v4.1.L.length (v4.1.L.flatMap eGTokensEntry)], .box [.sl v5.1.L.length (v5.1.L.flatMap eGTokensEntry)]] rfl ?_
    refine sv rfl (opv_as rfl) ?_
    refine snil ?_
    refine cseq ?_
    refine cregion ?_
    refine sv rfl (opv_loadN ti26 rfl (.lp _ _ _ rfl) (Nat.le_of_ble_eq_true rfl)) ?_
    refine sv rfl (opv_mv rfl) ?_
    obtain ⟨v8, hv8, h⟩ := bind_eq h
    refine scall1 rfl fn12 (opnds_cons rfl (opnds_cons rfl (opnds_cons rfl opnds_nil))) (pubA_id rfl) (m12_tokens_Start_c hv8) ?_
    refine sv rfl (opv_mvt rfl) ?_
    refine sv rfl (opv_extract rfl rfl) ?_
    refine sv rfl (opv_extract rfl rfl) ?_
    refine salloc rfl zi26 ?_
    refine sstore sz26 rfl rfl rfl rfl (Nat.le_of_ble_eq_true rfl) ?_
    refine smem [.box [.sl v7.1.L.length (v7.1.L.flatMap eGTokensEntry)], .box [.sl v3.1.L.length (v3.1.L.flatMap eGTokensEntry)], .box [.sl v4.1.L.length (v4.1.L.flatMap eGTokensEntry)], .box [.sl v5.1.L.length (v5.1.L.flatMap eGTokensEntry)], .box [.sl v8.1.L.length (v8.1.L.flatMap eGTokensEntry)]] rfl ?_
    refine sv rfl (opv_as rfl) ?_
    refine snil ?_
    refine cseq ?_
    refine cregion ?_
    refine sv rfl (opv_mv rfl) ?_
    refine sv rfl (opv_mv rfl) ?_
    refine ssplit 81 rfl (fun hc => ?_) (fun hc => ?_)
    · replace h := ite_t hc h
      clear hc
      refine son rfl rfl rfl ?_
      refine sv rfl (opv_mv rfl) ?_
      refine son rfl rfl rfl ?_
      refine sv rfl (opv_ieql rfl rfl) ?_
      refine sv rfl (opv_pick_t rfl rfl) ?_
      refine sv rfl (opv_mv rfl) ?_
      refine ssplit 85 rfl (fun hc => ?_) (fun hc => ?_)
      · replace h := ite_t hc h
        clear hc
        refine son rfl rfl rfl ?_
        refine sv rfl (opv_mv rfl) ?_
        refine son rfl rfl rfl ?_
        refine sv rfl (opv_ieql rfl rfl) ?_
        refine sv rfl (opv_pick_t rfl rfl) ?_
        refine sv rfl (opv_mv rfl) ?_
        refine ssplit 89 rfl (fun hc => ?_) (fun hc => ?_)
        · replace h := ite_t hc h
          clear hc
          refine son rfl rfl rfl ?_
          refine sv rfl (opv_mv rfl) ?_
          refine son rfl rfl rfl ?_
          refine sv rfl (opv_ieql rfl rfl) ?_
          refine sv rfl (opv_pick_t rfl rfl) ?_
          refine sv rfl (opv_mv rfl) ?_
          refine ssplit 93 rfl (fun hc => ?_) (fun hc => ?_)
          · replace h := ite_t hc h
            clear hc
            refine son rfl rfl rfl ?_
            refine sv rfl (opv_mv rfl) ?_
            refine son rfl rfl rfl ?_
            refine sv rfl (opv_ieql rfl rfl) ?_
            refine sv rfl (opv_pick_t rfl rfl) ?_
            refine sv rfl (opv_mv rfl) ?_
            refine ssplit 97 rfl (fun hc => ?_) (fun hc => ?_)
            · replace h := ite_t hc h
              clear hc
              refine son rfl rfl rfl ?_
              refine sv rfl (opv_mv rfl) ?_
              refine son rfl rfl rfl ?_
              refine sv rfl (opv_ieql rfl rfl) ?_
              refine sv rfl (opv_pick_t rfl rfl) ?_
              refine sv rfl (opv_mv rfl) ?_
              refine ssplit 101 rfl (fun hc => ?_) (fun hc => ?_)
              · replace h := ite_t hc h
                clear hc
                refine son rfl rfl rfl ?_
                refine sv rfl (opv_mv rfl) ?_
                refine son rfl rfl rfl ?_
                refine sv rfl (opv_ieql rfl rfl) ?_
                refine sv rfl (opv_pick_t rfl rfl) ?_
                refine sv rfl (opv_as rfl) ?_
                refine snil ?_
                refine cret ?_
                obtain rfl := Option.some.inj h
                refine ⟨Or.inr rfl, _, _, _, (resVs_cons (ResV.tmp _ _ rfl) resVs_nil), (pubA_id rfl), ?_⟩
                rfl
              · replace h := ite_f hc h
                clear hc
                refine soff rfl rfl rfl rfl ?_
                refine soff rfl rfl rfl rfl ?_
                refine sv rfl (opv_pick_f rfl rfl) ?_
                refine sv rfl (opv_as rfl) ?_
                refine snil ?_
                refine cret ?_
                obtain rfl := Option.some.inj h
                refine ⟨Or.inr rfl, _, _, _, (resVs_cons (ResV.tmp _ _ rfl) resVs_nil), (pubA_id rfl), ?_⟩
                rfl
            · replace h := ite_f hc h
              clear hc
              refine soff rfl rfl rfl rfl ?_
              refine soff rfl rfl rfl rfl ?_
              refine sv rfl (opv_pick_f rfl rfl) ?_
              refine sv rfl (opv_mv rfl) ?_
              refine soff rfl rfl rfl rfl ?_
              refine soff rfl rfl rfl rfl ?_
              refine sv rfl (opv_pick_f rfl rfl) ?_
              refine sv rfl (opv_as rfl) ?_
              refine snil ?_
              refine cret ?_
              obtain rfl := Option.some.inj h
              refine ⟨Or.inr rfl, _, _, _, (resVs_cons (ResV.tmp _ _ rfl) resVs_nil), (pubA_id rfl), ?_⟩
              rfl
          · replace h := ite_f hc h
            clear hc
            refine soff rfl rfl rfl rfl ?_
            refine soff rfl rfl rfl rfl ?_
            refine sv rfl (opv_pick_f rfl rfl) ?_
            refine sv rfl (opv_mv rfl) ?_
            refine soff rfl rfl rfl rfl ?_
            refine soff rfl rfl rfl rfl ?_
            refine sv rfl (opv_pick_f rfl rfl) ?_
            refine sv rfl (opv_mv rfl) ?_
            refine soff rfl rfl rfl rfl ?_
            refine soff rfl rfl rfl rfl ?_
            refine sv rfl (opv_pick_f rfl rfl) ?_
            refine sv rfl (opv_as rfl) ?_
            refine snil ?_
            refine cret ?_
            obtain rfl := Option.some.inj h
            refine ⟨Or.inr rfl, _, _, _, (resVs_cons (ResV.tmp _ _ rfl) resVs_nil), (pubA_id rfl), ?_⟩
            rfl
        · replace h := ite_f hc h
          clear hc
          refine soff rfl rfl rfl rfl ?_
          refine soff rfl rfl rfl rfl ?_
          refine sv rfl (opv_pick_f rfl rfl) ?_
          refine sv rfl (opv_mv rfl) ?_
          refine soff rfl rfl rfl rfl ?_
          refine soff rfl rfl rfl rfl ?_
          refine sv rfl (opv_pick_f rfl rfl) ?_
          refine sv rfl (opv_mv rfl) ?_
          refine soff rfl rfl rfl rfl ?_
          refine soff rfl rfl rfl rfl ?_
          refine sv rfl (opv_pick_f rfl rfl) ?_
          refine sv rfl (opv_mv rfl) ?_
          refine soff rfl rfl rfl rfl ?_
          refine soff rfl rfl rfl rfl ?_
          refine sv rfl (opv_pick_f rfl rfl) ?_
          refine sv rfl (opv_as rfl) ?_
          refine snil ?_
          refine cret ?_
          obtain rfl := Option.some.inj h
          refine ⟨Or.inr rfl, _, _, _, (resVs_cons (ResV.tmp _ _ rfl) resVs_nil), (pubA_id rfl), ?_⟩
          rfl
      · replace h := ite_f hc h
        clear hc
        refine soff rfl rfl rfl rfl ?_
        refine soff rfl rfl rfl rfl ?_
        refine sv rfl (opv_pick_f rfl rfl) ?_
        refine sv rfl (opv_mv rfl) ?_
        refine soff rfl rfl rfl rfl ?_
        refine soff rfl rfl rfl rfl ?_
        refine sv rfl (opv_pick_f rfl rfl) ?_
        refine sv rfl (opv_mv rfl) ?_
        refine soff rfl rfl rfl rfl ?_
        refine soff rfl rfl rfl rfl ?_
        refine sv rfl (opv_pick_f rfl rfl) ?_
        refine sv rfl (opv_mv rfl) ?_
        refine soff rfl rfl rfl rfl ?_
        refine soff rfl rfl rfl rfl ?_
        refine sv rfl (opv_pick_f rfl rfl) ?_
        refine sv rfl (opv_mv rfl) ?_
        refine soff rfl rfl rfl rfl ?_
        refine soff rfl rfl rfl rfl ?_
        refine sv rfl (opv_pick_f rfl rfl) ?_
        refine sv rfl (opv_as rfl) ?_
        refine snil ?_
        refine cret ?_
        obtain rfl := Option.some.inj h
        refine ⟨Or.inr rfl, _, _, _, (resVs_cons (ResV.tmp _ _ rfl) resVs_nil), (pubA_id rfl), ?_⟩
        rfl
    · replace h := ite_f hc h
      clear hc
      refine soff rfl rfl rfl rfl ?_
      refine soff rfl rfl rfl rfl ?_
      refine sv rfl (opv_pick_f rfl rfl) ?_
      refine sv rfl (opv_mv rfl) ?_
      refine soff rfl rfl rfl rfl ?_
      refine soff rfl rfl rfl rfl ?_
      refine sv rfl (opv_pick_f rfl rfl) ?_
      refine sv rfl (opv_mv rfl) ?_
      refine soff rfl rfl rfl rfl ?_
      refine soff rfl rfl rfl rfl ?_
      refine sv rfl (opv_pick_f rfl rfl) ?_
      refine sv rfl (opv_mv rfl) ?_
      refine soff rfl rfl rfl rfl ?_
      refine soff rfl rfl rfl rfl ?_
      refine sv rfl (opv_pick_f rfl rfl) ?_
      refine sv rfl (opv_mv rfl) ?_
      refine soff rfl rfl rfl rfl ?_
      refine soff rfl rfl rfl rfl ?_
      refine sv rfl (opv_pick_f rfl rfl) ?_
      refine sv rfl (opv_mv rfl) ?_
      refine soff rfl rfl rfl rfl ?_
      refine soff rfl rfl rfl rfl ?_
      refine sv rfl (opv_pick_f rfl rfl) ?_
      refine sv rfl (opv_as rfl) ?_
      refine snil ?_
      refine cret ?_
      obtain rfl := Option.some.inj h
      refine ⟨Or.inr rfl, _, _, _, (resVs_cons (ResV.tmp _ _ rfl) resVs_nil), (pubA_id rfl), ?_⟩
      rfl
  · skip
    refine cblock ?_
    refine cpubbox 0 0 rfl rfl PubL.nil rfl ?_
    obtain ⟨x9, hx9, ho9⟩ := bind_eq h
    refine awc_loop (G := Nat × (Int × (List GTokensEntry))) (fun g => [(0, .s (.one (.i .i64 a0))), (1, .s (.one (.i .i64 a1))), (5, .s (.one (.b v1))), (6, .s (.one (.lp 0 0))), (7, .s (.one (.i .i64 g.2.1)))]) (fun g => [.box [.sl g.2.2.length (g.2.2.flatMap eGTokensEntry)]]) (fun g => iter m5_l12_TokensFull_s9 g.1 g.2 = some x9) (fun g => g.1) (fuel, (0, ([] : List GTokensEntry))) hx9 ⟨rfl, rfl, rfl, rfl, rfl, trivial⟩ [] rfl (fun _ _ => inbL_of rfl) (fun _ _ => blkinb_of rfl) (fun _ _ => Nat.le_of_ble_eq_true rfl) ?_
    clear hx9 h
    rintro ⟨n9, s9⟩ h
    obtain ⟨n9, y9, rfl, h, hk9⟩ := iter_eq h
    unfold m5_l12_TokensFull_s9 at h
    refine cseq ?_
    refine cseq ?_
    refine cregion ?_
    refine sv rfl (opv_mv rfl) ?_
    refine sv rfl (opv_lss rfl rfl) ?_
    refine snil ?_
    refine ccond rfl (fun hc => ?_) (fun hc => ?_)
    · replace h := ite_t hc h
      clear hc
      refine cskip ?_
      refine then_normal ?_
      refine cseq ?_
      refine cblock ?_
      refine cseq ?_
      refine cregion ?_
      refine sv rfl (opv_loadN ti26 rfl (.lp _ _ _ rfl) (Nat.le_of_ble_eq_true rfl)) ?_
      refine sv rfl (opv_mv rfl) ?_
      obtain ⟨v10, hv10, h⟩ := bind_eq h
      refine scall1 rfl fn12 (opnds_cons rfl (opnds_cons rfl (opnds_cons rfl opnds_nil))) (pubA_id rfl) (m12_tokens_Start_c hv10) ?_
      refine sv rfl (opv_mvt rfl) ?_
      refine sv rfl (opv_extract rfl rfl) ?_
      refine sv rfl (opv_extract rfl rfl) ?_
      refine salloc rfl zi26 ?_
      refine sstore sz26 rfl rfl rfl rfl (Nat.le_of_ble_eq_true rfl) ?_
      refine smem [.box [.sl s9.2.length (s9.2.flatMap eGTokensEntry)], .box [.sl v10.1.L.length (v10.1.L.flatMap eGTokensEntry)]] rfl ?_
      refine sv rfl (opv_as rfl) ?_
      refine snil ?_
      refine cseq ?_
      refine cseq ?_
      refine cregion ?_
      refine sv rfl (opv_mv rfl) ?_
      refine sv rfl (opv_ineq rfl rfl) ?_
      refine snil ?_
      refine ccond rfl (fun hc => ?_) (fun hc => ?_)
      · replace h := ite_t hc h
        clear hc
        refine cseq ?_
        refine cregion ?_
        refine sv rfl (opv_as rfl) ?_
        refine snil ?_
        refine cret ?_
        refine then_ret ?_
        refine block_ret ?_
        refine then_ret ?_
        refine then_ret ?_
        refine block_ret ?_
        refine then_ret ?_
        obtain rfl := Option.some.inj h
        obtain rfl : Sum.inl _ = x9 := hk9
        replace ho9 : some _ = some _ := ho9
        obtain rfl := Option.some.inj ho9
        refine ⟨Or.inr rfl, _, _, _, (resVs_cons (ResV.tmp _ _ rfl) resVs_nil), (pubA_id rfl), ?_⟩
        rfl
      · replace h := ite_f hc h
        clear hc
        refine cskip ?_
        refine then_normal ?_
        refine cregion ?_
        refine sv rfl (opv_loadN ti26 rfl (.lp _ _ _ rfl) (Nat.le_of_ble_eq_true rfl)) ?_
        refine sstore sz26 rfl rfl rfl rfl (Nat.le_of_ble_eq_true rfl) ?_
        refine smem [.box [.sl v10.1.L.length (v10.1.L.flatMap eGTokensEntry)], .box [.sl v10.1.L.length (v10.1.L.flatMap eGTokensEntry)]] rfl ?_
        refine snil0 ?_
        refine block_normal ?_
        refine then_normal ?_
        refine cregion ?_
        refine sv rfl (opv_mv rfl) ?_
        refine sv rfl (opv_add rfl rfl) ?_
        refine sv rfl (opv_as rfl) ?_
        refine snil ?_
        obtain rfl := Option.some.inj h
        exact ⟨(n9, ((wI (s9.1 + 1)), v10.1.L)), _, hk9, ⟨rfl, rfl, rfl, rfl, rfl, trivial⟩, rfl, Nat.lt_succ_self _⟩
    · replace h := ite_f hc h
      clear hc
      refine cexit ?_
      refine then_exit ?_
      refine then_exit ?_
      refine block_hit ?_
      refine then_normal ?_
      obtain rfl := Option.some.inj h
      obtain rfl : _ = x9 := hk9
      exact ⟨s9.2, _, ho9, ⟨rfl, rfl, rfl, rfl, trivial⟩, rfl⟩

def m6_l12_TokensFence_k6 (v1 : Bool) (b6 : (List GTokensEntry)) : Option Bool :=
  some v1

def m6_l12_TokensFence_k11 (s7 : Int × (List GTokensEntry)) (v10 : GTokensTable × Int) (b11 : Unit) : Option (LR (Int × (List GTokensEntry)) ((List GTokensEntry)) (Bool)) :=
  some (.cont ((wI (s7.1 + 1)), v10.1.L))

def m6_l12_TokensFence_k8 (a1 : Int) (a2 : Int) (a3 : List GL12Act) (s7 : Int × (List GTokensEntry)) (b8 : Unit) : Option (LR (Int × (List GTokensEntry)) ((List GTokensEntry)) (Bool)) :=
  (idx a3 s7.1).bind fun u9 => (m8_l12_did (GTokensTable.mk s7.2) u9 (wI (100 + s7.1))).bind fun v10 => if (!decide (v10.2 = 0)) then (some (.cont ((wI (s7.1 + 1)), s7.2))) else ((idx a3 s7.1).bind fun u12 => if (decide (u12.Tok = a1)) then ((idx a3 s7.1).bind fun u13 => if (decide (u13.What ≤ 3)) then ((idx a3 s7.1).bind fun u14 => if (decide (u14.Attempt ≤ a2)) then (some (.ret false)) else (m6_l12_TokensFence_k11 s7 v10 ())) else (m6_l12_TokensFence_k11 s7 v10 ())) else (m6_l12_TokensFence_k11 s7 v10 ()))

def m6_l12_TokensFence_s7 (a1 : Int) (a2 : Int) (a3 : List GL12Act) (s7 : Int × (List GTokensEntry)) : Option (LR (Int × (List GTokensEntry)) ((List GTokensEntry)) (Bool)) :=
  if (decide (s7.1 < (a3.length : Int))) then ((idx a3 s7.1).bind fun u15 => if (decide (u15.What = 5)) then (some (.cont ((wI (s7.1 + 1)), s7.2))) else ((idx a3 s7.1).bind fun u16 => if (decide (u16.What < 0)) then (some (.cont ((wI (s7.1 + 1)), s7.2))) else ((idx a3 s7.1).bind fun u17 => if (decide (5 < u17.What)) then (some (.cont ((wI (s7.1 + 1)), s7.2))) else (m6_l12_TokensFence_k8 a1 a2 a3 s7 ())))) else (some (.brk s7.2))

def m6_l12_TokensFence_k5 (a1 : Int) (a2 : Int) (a3 : List GL12Act) (v1 : Bool) (v4 : GTokensTable × Int × Int) (b5 : Unit) : Option Bool :=
  (iter (m6_l12_TokensFence_s7 a1 a2 a3) fuel (0, v4.1.L)).bind fun x => match x with | .inl r => some r | .inr e18 => m6_l12_TokensFence_k6 v1 e18

def m6_l12_TokensFence_k3 (a1 : Int) (a2 : Int) (a3 : List GL12Act) (v1 : Bool) (b3 : (List GTokensEntry)) : Option Bool :=
  (m11_tokens_Fence (GTokensTable.mk b3) a1 a2).bind fun v4 => if (!decide (v4.2.2 = 0)) then (some v1) else (if (decide (0 < v4.2.1)) then (some v1) else (m6_l12_TokensFence_k5 a1 a2 a3 v1 v4 ()))

def m6_l12_TokensFence_s19 (a0 : List GL12Act) (s19 : Int × (List GTokensEntry)) : Option (LB (Int × (List GTokensEntry)) ((List GTokensEntry))) :=
  if (decide (s19.1 < (a0.length : Int))) then ((idx a0 s19.1).bind fun u20 => (m8_l12_did (GTokensTable.mk s19.2) u20 (wI (s19.1 + 1))).bind fun v21 => if (decide (v21.2 = 0)) then (some (.cont ((wI (s19.1 + 1)), v21.1.L))) else (some (.cont ((wI (s19.1 + 1)), s19.2)))) else (some (.brk s19.2))

def m6_l12_TokensFence_k2 (a0 : List GL12Act) (a1 : Int) (a2 : Int) (a3 : List GL12Act) (v1 : Bool) (b2 : Unit) : Option Bool :=
  (iterB (m6_l12_TokensFence_s19 a0) fuel (0, ([] : List GTokensEntry))).bind fun e22 => m6_l12_TokensFence_k3 a1 a2 a3 v1 e22
end Go.Proofs.Ytbaamfddahpemaa.Abs
