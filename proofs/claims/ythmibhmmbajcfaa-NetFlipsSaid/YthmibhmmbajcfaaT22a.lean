/-
  t
-/
import Derived.Test.YthmibhmmbajcfaaAbsC
import Derived.Test.YthmibhmmbajcfaaProg
namespace Go.Proofs.Ythmibhmmbajcfaa.Abs
open Go.RowKit Go.Proofs
structure GR22Link where
  ID : Int
  Client : Int
  Conn : Int
def eGR22Link (x : GR22Link) : List Lf := [.i .i64 x.ID, .i .i64 x.Client, .i .i64 x.Conn]

structure GR22Packet where
  Link : Int
  Up : Bool
  Bytes : List UInt8
def eGR22Packet (x : GR22Packet) : List Lf := [.i .i64 x.Link, .b x.Up, .sl x.Bytes.length (x.Bytes.flatMap eU8)]

structure GR22Net where
  Links : List GR22Link
  Packets : List GR22Packet
  Next : Int
def eGR22Net (x : GR22Net) : List Lf := [.sl x.Links.length (x.Links.flatMap eGR22Link), .sl x.Packets.length (x.Packets.flatMap eGR22Packet), .i .i64 x.Next]

structure GNetLink where
  ID : Int
  Client : Int
  Conn : Int
def eGNetLink (x : GNetLink) : List Lf := [.i .i64 x.ID, .i .i64 x.Client, .i .i64 x.Conn]

structure GNetPacket where
  Link : Int
  Up : Bool
  Bytes : List UInt8
def eGNetPacket (x : GNetPacket) : List Lf := [.i .i64 x.Link, .b x.Up, .sl x.Bytes.length (x.Bytes.flatMap eU8)]

structure GNetNet where
  Links : List GNetLink
  Packets : List GNetPacket
  Next : Int
def eGNetNet (x : GNetNet) : List Lf := [.sl x.Links.length (x.Links.flatMap eGNetLink), .sl x.Packets.length (x.Packets.flatMap eGNetPacket), .i .i64 x.Next]

structure GAnon72 where
  R0 : Int
  R1 : Int
def eGAnon72 (x : GAnon72) : List Lf := [.i .i64 x.R0, .i .i64 x.R1]

instance : Coe GR22Link (List Lf) := ⟨eGR22Link⟩
instance : Coe GR22Packet (List Lf) := ⟨eGR22Packet⟩
instance : Coe GR22Net (List Lf) := ⟨eGR22Net⟩
instance : Coe GNetLink (List Lf) := ⟨eGNetLink⟩
instance : Coe GNetPacket (List Lf) := ⟨eGNetPacket⟩
instance : Coe GNetNet (List Lf) := ⟨eGNetNet⟩
instance : Coe GAnon72 (List Lf) := ⟨eGAnon72⟩
theorem zi32 : ZI Try.prog 32 ([.raw (.slice none 0 0), .raw (.slice none 0 0), .i .i64 0]) := zi_of (by kernel_rfl)
theorem pi32 : PI Try.prog 32 [(0, 1), (1, 1), (2, 1)] := pi_of Try.underlying32 (by kernel_rfl) (by kernel_rfl)
theorem ti32 : TI Try.prog 32 true 3 := ⟨⟨_, Try.underlying32, rfl⟩, by kernel_rfl⟩
theorem fi32_1 : FI Try.prog 32 1 1 := ⟨⟨_, _, 1, Try.underlying32, rfl, rfl, by kernel_rfl, by decide⟩⟩
theorem ti30 : TI Try.prog 30 false 1 := ⟨⟨_, Try.underlying30, rfl⟩, by kernel_rfl⟩
theorem si30 : SI Try.prog 30 46 3 := ⟨Try.underlying30, by kernel_rfl, by decide⟩
theorem ti46 : TI Try.prog 46 true 3 := ⟨⟨_, Try.underlying46, rfl⟩, by kernel_rfl⟩
theorem zi46 : ZI Try.prog 46 ([.i .i64 0, .b false, .raw (.slice none 0 0)]) := zi_of (by kernel_rfl)
theorem sz46 : (Try.prog.info? 46).map (·.size) = some 3 := by kernel_rfl
theorem fi46_0 : FI Try.prog 46 0 0 := ⟨⟨_, _, 1, Try.underlying46, rfl, rfl, by kernel_rfl, by decide⟩⟩
theorem ti3 : TI Try.prog 3 false 1 := ⟨⟨_, Try.underlying3, rfl⟩, by kernel_rfl⟩
theorem fi32_2 : FI Try.prog 32 2 2 := ⟨⟨_, _, 1, Try.underlying32, rfl, rfl, by kernel_rfl, by decide⟩⟩
theorem fi46_2 : FI Try.prog 46 2 2 := ⟨⟨_, _, 1, Try.underlying46, rfl, rfl, by kernel_rfl, by decide⟩⟩
theorem ti26 : TI Try.prog 26 false 1 := ⟨⟨_, Try.underlying26, rfl⟩, by kernel_rfl⟩
theorem si26 : SI Try.prog 26 5 1 := ⟨Try.underlying26, by kernel_rfl, by decide⟩
theorem fn41 : FnI Try.prog 41 := ⟨⟨_, Try.func41, by kernel_rfl, by kernel_rfl⟩⟩
theorem fi32_0 : FI Try.prog 32 0 0 := ⟨⟨_, _, 1, Try.underlying32, rfl, rfl, by kernel_rfl, by decide⟩⟩
theorem ti29 : TI Try.prog 29 false 1 := ⟨⟨_, Try.underlying29, rfl⟩, by kernel_rfl⟩
theorem si29 : SI Try.prog 29 69 3 := ⟨Try.underlying29, by kernel_rfl, by decide⟩
theorem ti69 : TI Try.prog 69 true 3 := ⟨⟨_, Try.underlying69, rfl⟩, by kernel_rfl⟩
theorem zi69 : ZI Try.prog 69 ([.i .i64 0, .i .i64 0, .i .i64 0]) := zi_of (by kernel_rfl)
theorem sz69 : (Try.prog.info? 69).map (·.size) = some 3 := by kernel_rfl
theorem fi69_0 : FI Try.prog 69 0 0 := ⟨⟨_, _, 1, Try.underlying69, rfl, rfl, by kernel_rfl, by decide⟩⟩
theorem fi69_1 : FI Try.prog 69 1 1 := ⟨⟨_, _, 1, Try.underlying69, rfl, rfl, by kernel_rfl, by decide⟩⟩
theorem fi69_2 : FI Try.prog 69 2 2 := ⟨⟨_, _, 1, Try.underlying69, rfl, rfl, by kernel_rfl, by decide⟩⟩
theorem fn34 : FnI Try.prog 34 := ⟨⟨_, Try.func34, by kernel_rfl, by kernel_rfl⟩⟩
theorem fn49 : FnI Try.prog 49 := ⟨⟨_, Try.func49, by kernel_rfl, by kernel_rfl⟩⟩
theorem fn30 : FnI Try.prog 30 := ⟨⟨_, Try.func30, by kernel_rfl, by kernel_rfl⟩⟩
theorem sz32 : (Try.prog.info? 32).map (·.size) = some 3 := by kernel_rfl
theorem fn36 : FnI Try.prog 36 := ⟨⟨_, Try.func36, by kernel_rfl, by kernel_rfl⟩⟩
theorem fn52 : FnI Try.prog 52 := ⟨⟨_, Try.func52, by kernel_rfl, by kernel_rfl⟩⟩
theorem pi69 : PI Try.prog 69 [(0, 1), (1, 1), (2, 1)] := pi_of Try.underlying69 (by kernel_rfl) (by kernel_rfl)
theorem fn35 : FnI Try.prog 35 := ⟨⟨_, Try.func35, by kernel_rfl, by kernel_rfl⟩⟩
theorem mixed : Try.prog.follows .mixedOrders = true := by kernel_rfl
theorem ei69 : EI Try.prog 69 3 24 [.i .i64 0, .i .i64 0, .i .i64 0] := ei_of (by kernel_rfl) (by decide)
theorem ei29 : EI Try.prog 29 1 24 [.raw (.slice none 0 0)] := ei_of (by kernel_rfl) (by decide)
theorem si91 : SI Try.prog 91 29 1 := ⟨Try.underlying91, by kernel_rfl, by decide⟩
theorem fn53 : FnI Try.prog 53 := ⟨⟨_, Try.func53, by kernel_rfl, by kernel_rfl⟩⟩
theorem ni29 : NI Try.prog 29 := ⟨.inl ⟨_, Try.underlying29⟩⟩
theorem fn37 : FnI Try.prog 37 := ⟨⟨_, Try.func37, by kernel_rfl, by kernel_rfl⟩⟩
theorem fn11 : FnI Try.prog 11 := ⟨⟨_, Try.func11, by kernel_rfl, by kernel_rfl⟩⟩
theorem ei5 : EI Try.prog 5 1 1 [.i .u8 0] := ei_of (by kernel_rfl) (by decide)
theorem fn40 : FnI Try.prog 40 := ⟨⟨_, Try.func40, by kernel_rfl, by kernel_rfl⟩⟩
theorem pi46 : PI Try.prog 46 [(0, 1), (1, 1), (2, 1)] := pi_of Try.underlying46 (by kernel_rfl) (by kernel_rfl)
theorem ei46 : EI Try.prog 46 3 40 [.i .i64 0, .b false, .raw (.slice none 0 0)] := ei_of (by kernel_rfl) (by decide)
theorem ei30 : EI Try.prog 30 1 24 [.raw (.slice none 0 0)] := ei_of (by kernel_rfl) (by decide)
theorem si95 : SI Try.prog 95 30 1 := ⟨Try.underlying95, by kernel_rfl, by decide⟩
theorem fn55 : FnI Try.prog 55 := ⟨⟨_, Try.func55, by kernel_rfl, by kernel_rfl⟩⟩
theorem ni30 : NI Try.prog 30 := ⟨.inl ⟨_, Try.underlying30⟩⟩
theorem fn46 : FnI Try.prog 46 := ⟨⟨_, Try.func46, by kernel_rfl, by kernel_rfl⟩⟩
theorem hz46 : ((Try.prog.info? 46).bind (·.zero)).isSome = true := by kernel_rfl
theorem hag46 : ((Try.prog.info? 46).bind (·.zero)).map aggV = some true := by kernel_rfl
theorem fn54 : FnI Try.prog 54 := ⟨⟨_, Try.func54, by kernel_rfl, by kernel_rfl⟩⟩
theorem sz30 : (Try.prog.info? 30).map (·.size) = some 1 := by kernel_rfl
theorem fn42 : FnI Try.prog 42 := ⟨⟨_, Try.func42, by kernel_rfl, by kernel_rfl⟩⟩
theorem fn13 : FnI Try.prog 13 := ⟨⟨_, Try.func13, by kernel_rfl, by kernel_rfl⟩⟩
theorem fn45 : FnI Try.prog 45 := ⟨⟨_, Try.func45, by kernel_rfl, by kernel_rfl⟩⟩
theorem fn19 : FnI Try.prog 19 := ⟨⟨_, Try.func19, by kernel_rfl, by kernel_rfl⟩⟩
theorem fn17 : FnI Try.prog 17 := ⟨⟨_, Try.func17, by kernel_rfl, by kernel_rfl⟩⟩
theorem fn24 : FnI Try.prog 24 := ⟨⟨_, Try.func24, by kernel_rfl, by kernel_rfl⟩⟩
theorem fi46_1 : FI Try.prog 46 1 1 := ⟨⟨_, _, 1, Try.underlying46, rfl, rfl, by kernel_rfl, by decide⟩⟩
theorem ti4 : TI Try.prog 4 false 1 := ⟨⟨_, Try.underlying4, rfl⟩, by kernel_rfl⟩
theorem fn8 : FnI Try.prog 8 := ⟨⟨_, Try.func8, by kernel_rfl, by kernel_rfl⟩⟩
theorem ti25 : TI Try.prog 25 true 3 := ⟨⟨_, Try.underlying25, rfl⟩, by kernel_rfl⟩
theorem fi25_0 : FI Try.prog 25 0 0 := ⟨⟨_, _, 1, Try.underlying25, rfl, rfl, by kernel_rfl, by decide⟩⟩
theorem ti22 : TI Try.prog 22 false 1 := ⟨⟨_, Try.underlying22, rfl⟩, by kernel_rfl⟩
theorem si22 : SI Try.prog 22 75 3 := ⟨Try.underlying22, by kernel_rfl, by decide⟩
theorem fi25_1 : FI Try.prog 25 1 1 := ⟨⟨_, _, 1, Try.underlying25, rfl, rfl, by kernel_rfl, by decide⟩⟩
theorem ti23 : TI Try.prog 23 false 1 := ⟨⟨_, Try.underlying23, rfl⟩, by kernel_rfl⟩
theorem si23 : SI Try.prog 23 49 3 := ⟨Try.underlying23, by kernel_rfl, by decide⟩
theorem fi49_2 : FI Try.prog 49 2 2 := ⟨⟨_, _, 1, Try.underlying49, rfl, rfl, by kernel_rfl, by decide⟩⟩
theorem fn9 : FnI Try.prog 9 := ⟨⟨_, Try.func9, by kernel_rfl, by kernel_rfl⟩⟩
theorem fi25_2 : FI Try.prog 25 2 2 := ⟨⟨_, _, 1, Try.underlying25, rfl, rfl, by kernel_rfl, by decide⟩⟩
theorem ti75 : TI Try.prog 75 true 3 := ⟨⟨_, Try.underlying75, rfl⟩, by kernel_rfl⟩
theorem zi75 : ZI Try.prog 75 ([.i .i64 0, .i .i64 0, .i .i64 0]) := zi_of (by kernel_rfl)
theorem sz75 : (Try.prog.info? 75).map (·.size) = some 3 := by kernel_rfl
theorem fi75_0 : FI Try.prog 75 0 0 := ⟨⟨_, _, 1, Try.underlying75, rfl, rfl, by kernel_rfl, by decide⟩⟩
theorem fi75_1 : FI Try.prog 75 1 1 := ⟨⟨_, _, 1, Try.underlying75, rfl, rfl, by kernel_rfl, by decide⟩⟩
theorem fi75_2 : FI Try.prog 75 2 2 := ⟨⟨_, _, 1, Try.underlying75, rfl, rfl, by kernel_rfl, by decide⟩⟩
theorem sz29 : (Try.prog.info? 29).map (·.size) = some 1 := by kernel_rfl
theorem ti49 : TI Try.prog 49 true 3 := ⟨⟨_, Try.underlying49, rfl⟩, by kernel_rfl⟩
theorem zi49 : ZI Try.prog 49 ([.i .i64 0, .b false, .raw (.slice none 0 0)]) := zi_of (by kernel_rfl)
theorem sz49 : (Try.prog.info? 49).map (·.size) = some 3 := by kernel_rfl
theorem fi49_0 : FI Try.prog 49 0 0 := ⟨⟨_, _, 1, Try.underlying49, rfl, rfl, by kernel_rfl, by decide⟩⟩
theorem fi49_1 : FI Try.prog 49 1 1 := ⟨⟨_, _, 1, Try.underlying49, rfl, rfl, by kernel_rfl, by decide⟩⟩
theorem fn10 : FnI Try.prog 10 := ⟨⟨_, Try.func10, by kernel_rfl, by kernel_rfl⟩⟩
theorem zi25 : ZI Try.prog 25 ([.raw (.slice none 0 0), .raw (.slice none 0 0), .i .i64 0]) := zi_of (by kernel_rfl)
theorem fn31 : FnI Try.prog 31 := ⟨⟨_, Try.func31, by kernel_rfl, by kernel_rfl⟩⟩
theorem pi25 : PI Try.prog 25 [(0, 1), (1, 1), (2, 1)] := pi_of Try.underlying25 (by kernel_rfl) (by kernel_rfl)
theorem sz25 : (Try.prog.info? 25).map (·.size) = some 3 := by kernel_rfl
theorem pi75 : PI Try.prog 75 [(0, 1), (1, 1), (2, 1)] := pi_of Try.underlying75 (by kernel_rfl) (by kernel_rfl)
theorem fn38 : FnI Try.prog 38 := ⟨⟨_, Try.func38, by kernel_rfl, by kernel_rfl⟩⟩
theorem fn39 : FnI Try.prog 39 := ⟨⟨_, Try.func39, by kernel_rfl, by kernel_rfl⟩⟩
theorem ei75 : EI Try.prog 75 3 24 [.i .i64 0, .i .i64 0, .i .i64 0] := ei_of (by kernel_rfl) (by decide)
theorem ni22 : NI Try.prog 22 := ⟨.inl ⟨_, Try.underlying22⟩⟩
theorem fn12 : FnI Try.prog 12 := ⟨⟨_, Try.func12, by kernel_rfl, by kernel_rfl⟩⟩
theorem pi49 : PI Try.prog 49 [(0, 1), (1, 1), (2, 1)] := pi_of Try.underlying49 (by kernel_rfl) (by kernel_rfl)
theorem ei49 : EI Try.prog 49 3 40 [.i .i64 0, .b false, .raw (.slice none 0 0)] := ei_of (by kernel_rfl) (by decide)
theorem ni23 : NI Try.prog 23 := ⟨.inl ⟨_, Try.underlying23⟩⟩
theorem fn43 : FnI Try.prog 43 := ⟨⟨_, Try.func43, by kernel_rfl, by kernel_rfl⟩⟩
theorem fn14 : FnI Try.prog 14 := ⟨⟨_, Try.func14, by kernel_rfl, by kernel_rfl⟩⟩
theorem fn44 : FnI Try.prog 44 := ⟨⟨_, Try.func44, by kernel_rfl, by kernel_rfl⟩⟩
theorem sz22 : (Try.prog.info? 22).map (·.size) = some 1 := by kernel_rfl
theorem fn22 : FnI Try.prog 22 := ⟨⟨_, Try.func22, by kernel_rfl, by kernel_rfl⟩⟩
theorem sz23 : (Try.prog.info? 23).map (·.size) = some 1 := by kernel_rfl
theorem fn16 : FnI Try.prog 16 := ⟨⟨_, Try.func16, by kernel_rfl, by kernel_rfl⟩⟩
theorem et75 : EqT Try.prog 75 [0, 0, 0] := ⟨by kernel_rfl, by kernel_rfl, by kernel_rfl, by kernel_rfl⟩
theorem fn21 : FnI Try.prog 21 := ⟨⟨_, Try.func21, by kernel_rfl, by kernel_rfl⟩⟩
theorem fn15 : FnI Try.prog 15 := ⟨⟨_, Try.func15, by kernel_rfl, by kernel_rfl⟩⟩
theorem fn18 : FnI Try.prog 18 := ⟨⟨_, Try.func18, by kernel_rfl, by kernel_rfl⟩⟩
theorem fn20 : FnI Try.prog 20 := ⟨⟨_, Try.func20, by kernel_rfl, by kernel_rfl⟩⟩
theorem fn50 : FnI Try.prog 50 := ⟨⟨_, Try.func50, by kernel_rfl, by kernel_rfl⟩⟩
theorem fn32 : FnI Try.prog 32 := ⟨⟨_, Try.func32, by kernel_rfl, by kernel_rfl⟩⟩
theorem fn51 : FnI Try.prog 51 := ⟨⟨_, Try.func51, by kernel_rfl, by kernel_rfl⟩⟩
theorem fn33 : FnI Try.prog 33 := ⟨⟨_, Try.func33, by kernel_rfl, by kernel_rfl⟩⟩
theorem fn23 : FnI Try.prog 23 := ⟨⟨_, Try.func23, by kernel_rfl, by kernel_rfl⟩⟩
theorem fn25 : FnI Try.prog 25 := ⟨⟨_, Try.func25, by kernel_rfl, by kernel_rfl⟩⟩
theorem fn26 : FnI Try.prog 26 := ⟨⟨_, Try.func26, by kernel_rfl, by kernel_rfl⟩⟩
theorem fn27 : FnI Try.prog 27 := ⟨⟨_, Try.func27, by kernel_rfl, by kernel_rfl⟩⟩
theorem fn47 : FnI Try.prog 47 := ⟨⟨_, Try.func47, by kernel_rfl, by kernel_rfl⟩⟩
theorem ni26 : NI Try.prog 26 := ⟨.inl ⟨_, Try.underlying26⟩⟩
theorem fn48 : FnI Try.prog 48 := ⟨⟨_, Try.func48, by kernel_rfl, by kernel_rfl⟩⟩
theorem ti5 : TI Try.prog 5 false 1 := ⟨⟨_, Try.underlying5, rfl⟩, by kernel_rfl⟩
theorem sz5 : (Try.prog.info? 5).map (·.size) = some 1 := by kernel_rfl
theorem sz26 : (Try.prog.info? 26).map (·.size) = some 1 := by kernel_rfl
theorem fn28 : FnI Try.prog 28 := ⟨⟨_, Try.func28, by kernel_rfl, by kernel_rfl⟩⟩
theorem fn29 : FnI Try.prog 29 := ⟨⟨_, Try.func29, by kernel_rfl, by kernel_rfl⟩⟩
theorem si64 : SI Try.prog 64 26 1 := ⟨Try.underlying64, by kernel_rfl, by decide⟩
theorem ei26 : EI Try.prog 26 1 24 [.raw (.slice none 0 0)] := ei_of (by kernel_rfl) (by decide)
theorem ni64 : NI Try.prog 64 := ⟨.inl ⟨_, Try.underlying64⟩⟩
theorem si66 : SI Try.prog 66 72 2 := ⟨Try.underlying66, by kernel_rfl, by decide⟩
theorem si67 : SI Try.prog 67 3 1 := ⟨Try.underlying67, by kernel_rfl, by decide⟩
theorem ai72 : AI Try.prog 72 2 3 1 := ⟨Try.underlying72, by kernel_rfl, by decide, by decide⟩
theorem et69 : EqT Try.prog 69 [0, 0, 0] := ⟨by kernel_rfl, by kernel_rfl, by kernel_rfl, by kernel_rfl⟩

def m41_net_saneBytes (a0 : List UInt8) : Option Bool :=
  if (decide (1 ≤ (a0.length : Int))) then (some (decide ((a0.length : Int) ≤ 2048))) else (some false)

set_option maxRecDepth 100000 in
theorem m41_net_saneBytes_c {a0 : List UInt8} {r : Bool} (h : m41_net_saneBytes a0 = some r) : CallsA Try.prog 41 [.one (.sl a0.length (a0.flatMap eU8))] (· = .s (.one (.b r))) := by
  unfold m41_net_saneBytes at h
  refine callsA_of Try.func41 rfl (nt := 11) rfl (Nat.le_of_ble_eq_true rfl) ?_
  intro w0 S0
  refine cseq ?_
  refine cregion ?_
  refine sv rfl (opv_as rfl) ?_
  refine snil ?_
  refine cseq ?_
  refine cregion ?_
  refine sv rfl (opv_mv rfl) ?_
  refine sv rfl (opv_len_sl si26 rfl) ?_
  refine sv rfl (opv_geq rfl rfl) ?_
  refine sv rfl (opv_mv rfl) ?_
  refine ssplit 6 rfl (fun hc => ?_) (fun hc => ?_)
  · replace h := ite_t hc h
    clear hc
    refine son rfl rfl rfl ?_
    refine sv rfl (opv_mv rfl) ?_
    refine son rfl rfl rfl ?_
    refine sv rfl (opv_len_sl si26 rfl) ?_
    refine son rfl rfl rfl ?_
    refine sv rfl (opv_leq rfl rfl) ?_
    refine sv rfl (opv_pick_t rfl rfl) ?_
    refine sv rfl (opv_as rfl) ?_
    refine snil ?_
    refine cret ?_
    obtain rfl := Option.some.inj h
    refine ⟨Or.inr rfl, _, _, _, (resVs_cons (ResV.tmp _ _ rfl) resVs_nil), (pubA_id rfl), ?_⟩
    rfl
  · replace h := ite_f hc h
    clear hc
    refine soff rfl rfl rfl rfl ?_
    refine soff rfl rfl rfl rfl ?_
    refine soff rfl rfl rfl rfl ?_
    refine sv rfl (opv_pick_f rfl rfl) ?_
    refine sv rfl (opv_as rfl) ?_
    refine snil ?_
    refine cret ?_
    obtain rfl := Option.some.inj h
    refine ⟨Or.inr rfl, _, _, _, (resVs_cons (ResV.tmp _ _ rfl) resVs_nil), (pubA_id rfl), ?_⟩
    rfl

def m34_net_saneLink (a0 : Int) (a1 : Int) : Option Bool :=
  if (decide (0 ≤ a0)) then (if (decide (a0 < 4)) then (some (decide (0 ≤ a1))) else (some false)) else (some false)

set_option maxRecDepth 100000 in
theorem m34_net_saneLink_c {a0 : Int} {a1 : Int} {r : Bool} (h : m34_net_saneLink a0 a1 = some r) : CallsA Try.prog 34 [.one (.i .i64 a0), .one (.i .i64 a1)] (· = .s (.one (.b r))) := by
  unfold m34_net_saneLink at h
  refine callsA_of Try.func34 rfl (nt := 15) rfl (Nat.le_of_ble_eq_true rfl) ?_
  intro w0 S0
  refine cseq ?_
  refine cregion ?_
  refine sv rfl (opv_as rfl) ?_
  refine snil ?_
  refine cseq ?_
  refine cregion ?_
  refine sv rfl (opv_mv rfl) ?_
  refine sv rfl (opv_geq rfl rfl) ?_
  refine sv rfl (opv_mv rfl) ?_
  refine ssplit 7 rfl (fun hc => ?_) (fun hc => ?_)
  · replace h := ite_t hc h
    clear hc
    refine son rfl rfl rfl ?_
    refine sv rfl (opv_mv rfl) ?_
    refine son rfl rfl rfl ?_
    refine sv rfl (opv_lss rfl rfl) ?_
    refine sv rfl (opv_pick_t rfl rfl) ?_
    refine sv rfl (opv_mv rfl) ?_
    refine ssplit 11 rfl (fun hc => ?_) (fun hc => ?_)
    · replace h := ite_t hc h
      clear hc
      refine son rfl rfl rfl ?_
      refine sv rfl (opv_mv rfl) ?_
      refine son rfl rfl rfl ?_
      refine sv rfl (opv_geq rfl rfl) ?_
      refine sv rfl (opv_pick_t rfl rfl) ?_
      refine sv rfl (opv_as rfl) ?_
      refine snil ?_
      refine cret ?_
      obtain rfl := Option.some.inj h
      refine ⟨Or.inr rfl, _, _, _, (resVs_cons (ResV.tmp _ _ rfl) resVs_nil), (pubA_id rfl), ?_⟩
      rfl
    · replace h := ite_f hc h
      clear hc
      refine soff rfl rfl rfl rfl ?_
      refine soff rfl rfl rfl rfl ?_
      refine sv rfl (opv_pick_f rfl rfl) ?_
      refine sv rfl (opv_as rfl) ?_
      refine snil ?_
      refine cret ?_
      obtain rfl := Option.some.inj h
      refine ⟨Or.inr rfl, _, _, _, (resVs_cons (ResV.tmp _ _ rfl) resVs_nil), (pubA_id rfl), ?_⟩
      rfl
  · replace h := ite_f hc h
    clear hc
    refine soff rfl rfl rfl rfl ?_
    refine soff rfl rfl rfl rfl ?_
    refine sv rfl (opv_pick_f rfl rfl) ?_
    refine sv rfl (opv_mv rfl) ?_
    refine soff rfl rfl rfl rfl ?_
    refine soff rfl rfl rfl rfl ?_
    refine sv rfl (opv_pick_f rfl rfl) ?_
    refine sv rfl (opv_as rfl) ?_
    refine snil ?_
    refine cret ?_
    obtain rfl := Option.some.inj h
    refine ⟨Or.inr rfl, _, _, _, (resVs_cons (ResV.tmp _ _ rfl) resVs_nil), (pubA_id rfl), ?_⟩
    rfl

def m49_net_saneLinks_k1 (a0 : GNetNet) (b1 : Unit) : Option Bool :=
  some (decide ((a0.Links.length : Int) ≤ 8))

def m49_net_saneLinks_k6 (s2 : Int) (b6 : Unit) : Option (LR (Int) (Unit) (Bool)) :=
  some (.cont (wI (s2 + 1)))

def m49_net_saneLinks_s7 (u3 : GNetLink) (c5 : List GNetLink) (s7 : Int) : Option (LR (Int) (Unit) (Bool)) :=
  if (decide (s7 < (c5.length : Int))) then ((idx c5 s7).bind fun u8 => if (decide (u3.ID ≤ u8.ID)) then (some (.ret false)) else (if (decide (u8.Client = u3.Client)) then (some (.ret false)) else (if (decide (u8.Conn = u3.Conn)) then (some (.ret false)) else (some (.cont (wI (s7 + 1))))))) else (some (.brk ()))

def m49_net_saneLinks_k4 (a0 : GNetNet) (s2 : Int) (u3 : GNetLink) (b4 : Unit) : Option (LR (Int) (Unit) (Bool)) :=
  (cut a0.Links 0 s2).bind fun c5 => (iter (m49_net_saneLinks_s7 u3 c5) fuel 0).bind fun x => match x with | .inl r => some (.ret r) | .inr e9 => m49_net_saneLinks_k6 s2 e9

def m49_net_saneLinks_s2 (a0 : GNetNet) (s2 : Int) : Option (LR (Int) (Unit) (Bool)) :=
  if (decide (s2 < (a0.Links.length : Int))) then ((idx a0.Links s2).bind fun u3 => if (decide (u3.ID < 0)) then (some (.ret false)) else (if (decide (a0.Next ≤ u3.ID)) then (some (.ret false)) else ((m34_net_saneLink u3.Client u3.Conn).bind fun v10 => if (!v10) then (some (.ret false)) else (m49_net_saneLinks_k4 a0 s2 u3 ())))) else (some (.brk ()))
def m49_net_saneLinks (a0 : GNetNet) : Option Bool :=
  (iter (m49_net_saneLinks_s2 a0) fuel 0).bind fun x => match x with | .inl r => some r | .inr e11 => m49_net_saneLinks_k1 a0 e11

set_option maxRecDepth 100000 in
theorem m49_net_saneLinks_c {a0 : GNetNet} {r : Bool} (h : m49_net_saneLinks a0 = some r) : CallsA Try.prog 49 [.agg a0] (· = .s (.one (.b r))) := by
  unfold m49_net_saneLinks at h
  refine callsA_of Try.func49 rfl (nt := 67) rfl (Nat.le_of_ble_eq_true rfl) ?_
  intro w0 S0
  refine cseq ?_
  refine cregion ?_
  refine sbox rfl rfl ?_
  refine sv rfl (opv_as rfl) ?_
  refine snil ?_
  refine cseq ?_
  refine cseq ?_
  refine cregion ?_
  refine sv rfl (opv_fieldAddr_lp fi32_0 rfl) ?_
  refine sv rfl (opv_load1 ti29 rfl (.lp _ _ _ rfl) rfl) ?_
  refine sv rfl (opv_len_sl si29 rfl) ?_
  refine sv rfl (opv_mv rfl) ?_
  refine snil ?_
  refine cjoin (Unit) (fun b1 => [(1, .s (.one (.lp 0 0)))]) (fun b1 => [.box a0]) (fun b1 => m49_net_saneLinks_k1 a0 b1 = some r) (fun _ _ => inbL_of rfl) (fun _ _ => blkinb_of rfl) (fun _ _ => Nat.le_of_ble_eq_true rfl) (fun b1 h => ?_) ?_
  · unfold m49_net_saneLinks_k1 at h
    refine cseq ?_
    refine cregion ?_
    refine sv rfl (opv_fieldAddr_lp fi32_0 rfl) ?_
    refine sv rfl (opv_load1 ti29 rfl (.lp _ _ _ rfl) rfl) ?_
    refine sv rfl (opv_len_sl si29 rfl) ?_
    refine sv rfl (opv_leq rfl rfl) ?_
    refine sv rfl (opv_as rfl) ?_
    refine snil ?_
    refine cret ?_
    obtain rfl := Option.some.inj h
    refine ⟨Or.inr rfl, _, _, _, (resVs_cons (ResV.tmp _ _ rfl) resVs_nil), (pubA_id rfl), ?_⟩
    rfl
  · skip
    refine cblock ?_
    obtain ⟨x2, hx2, ho2⟩ := bind_eq h
    refine awc_loop (G := Nat × (Int)) (fun g => [(1, .s (.one (.lp 0 0))), (8, .s (.one (.sl a0.Links.length (a0.Links.flatMap eGNetLink)))), (9, .s (.one (.i .i64 (a0.Links.length : Int)))), (10, .s (.one (.i .i64 g.2)))]) (fun g => [.box a0]) (fun g => iter (m49_net_saneLinks_s2 a0) g.1 g.2 = some x2) (fun g => g.1) (fuel, 0) hx2 ⟨rfl, rfl, rfl, rfl, trivial⟩ [] rfl (fun _ _ => inbL_of rfl) (fun _ _ => blkinb_of rfl) (fun _ _ => Nat.le_of_ble_eq_true rfl) ?_
    clear hx2 h
    rintro ⟨n2, s2⟩ h
    obtain ⟨n2, y2, rfl, h, hk2⟩ := iter_eq h
    unfold m49_net_saneLinks_s2 at h
    refine cseq ?_
    refine cregion ?_
    refine sv rfl (opv_lss rfl rfl) ?_
    refine snil ?_
    refine cseq ?_
    refine ccond rfl (fun hc => ?_) (fun hc => ?_)
    · replace h := ite_t hc h
      clear hc
      refine cskip ?_
      refine then_normal ?_
      refine cseq ?_
      refine cblock ?_
      refine cseq ?_
      refine cregion ?_
      refine sv rfl (opv_mv rfl) ?_
      obtain ⟨u3, hu3, h⟩ := bind_eq h
      refine sv rfl (opv_ix (f := eGNetLink) si29 (fun _ => rfl) rfl rfl rfl rfl hu3) ?_
      refine sv rfl (opv_loadNe (ys := [.i .i64 u3.ID, .i .i64 u3.Client, .i .i64 u3.Conn]) ti69 rfl (.cp _) rfl rfl) ?_
      refine salloc rfl zi69 ?_
      refine sv rfl (opv_as rfl) ?_
      refine sstore sz69 rfl rfl rfl rfl (Nat.le_of_ble_eq_true rfl) ?_
      refine smem [.box a0, .box u3] rfl ?_
      refine snil ?_
      refine cseq ?_
      refine cseq ?_
      refine cjoin3 (Unit) (fun b4 => [(1, .s (.one (.lp 0 0))), (3, .s (.one (.i .i64 s2))), (4, .s (.one (.lp 1 0))), (8, .s (.one (.sl a0.Links.length (a0.Links.flatMap eGNetLink)))), (9, .s (.one (.i .i64 (a0.Links.length : Int)))), (10, .s (.one (.i .i64 s2)))]) (fun b4 => [.box a0, .box u3]) (fun b4 => m49_net_saneLinks_k4 a0 s2 u3 b4 = some y2) (fun _ _ => inbL_of rfl) (fun _ _ => blkinb_of rfl) (fun _ _ => Nat.le_of_ble_eq_true rfl) (fun b4 h => ?_) ?_
      · unfold m49_net_saneLinks_k4 at h
        refine cseq ?_
        refine cregion ?_
        refine sv rfl (opv_fieldAddr_lp fi32_0 rfl) ?_
        refine sv rfl (opv_load1 ti29 rfl (.lp _ _ _ rfl) rfl) ?_
        refine sv rfl (opv_mv rfl) ?_
        obtain ⟨c5, hc5, h⟩ := bind_eq h
        refine sv rfl (opv_cut (f := eGNetLink) (lo := 0) (hi := s2) si29 (fun _ => rfl) rfl rfl rfl bound_none (bound_some rfl (Int.le_trans (cut_eq hc5).1.1 (cut_eq hc5).1.2.1)) hc5) ?_
        refine sv rfl (opv_len_sl si29 rfl) ?_
        refine sv rfl (opv_mv rfl) ?_
        refine snil ?_
        refine cjoinb (Unit) (fun b6 => [(1, .s (.one (.lp 0 0))), (8, .s (.one (.sl a0.Links.length (a0.Links.flatMap eGNetLink)))), (9, .s (.one (.i .i64 (a0.Links.length : Int)))), (10, .s (.one (.i .i64 s2)))]) (fun b6 => [.box a0, .box u3]) (fun b6 => m49_net_saneLinks_k6 s2 b6 = some y2) (fun _ _ => inbL_of rfl) (fun _ _ => blkinb_of rfl) (fun _ _ => Nat.le_of_ble_eq_true rfl) (fun b6 h => ?_) ?_
        · unfold m49_net_saneLinks_k6 at h
          refine cregion ?_
          refine sv rfl (opv_add rfl rfl) ?_
          refine sv rfl (opv_mv rfl) ?_
          refine snil ?_
          obtain rfl := Option.some.inj h
          exact ⟨(n2, (wI (s2 + 1))), _, hk2, ⟨rfl, rfl, rfl, rfl, trivial⟩, rfl, Nat.lt_succ_self _⟩
        · skip
          refine cblock ?_
          obtain ⟨x7, hx7, ho7⟩ := bind_eq h
          refine awc_loop (G := Nat × (Int)) (fun g => [(1, .s (.one (.lp 0 0))), (4, .s (.one (.lp 1 0))), (8, .s (.one (.sl a0.Links.length (a0.Links.flatMap eGNetLink)))), (9, .s (.one (.i .i64 (a0.Links.length : Int)))), (10, .s (.one (.i .i64 s2))), (36, .s (.one (.sl c5.length (c5.flatMap eGNetLink)))), (37, .s (.one (.i .i64 (c5.length : Int)))), (38, .s (.one (.i .i64 g.2)))]) (fun g => [.box a0, .box u3]) (fun g => iter (m49_net_saneLinks_s7 u3 c5) g.1 g.2 = some x7) (fun g => g.1) (fuel, 0) hx7 ⟨rfl, rfl, rfl, rfl, rfl, rfl, rfl, rfl, trivial⟩ [] rfl (fun _ _ => inbL_of rfl) (fun _ _ => blkinb_of rfl) (fun _ _ => Nat.le_of_ble_eq_true rfl) ?_
          clear hx7 h
          rintro ⟨n7, s7⟩ h
          obtain ⟨n7, y7, rfl, h, hk7⟩ := iter_eq h
          unfold m49_net_saneLinks_s7 at h
          refine cseq ?_
          refine cregion ?_
          refine sv rfl (opv_lss rfl rfl) ?_
          refine snil ?_
          refine cseq ?_
          refine ccond rfl (fun hc => ?_) (fun hc => ?_)
          · replace h := ite_t hc h
            clear hc
            refine cskip ?_
            refine then_normal ?_
            refine cseq ?_
            refine cblock ?_
            refine cseq ?_
            refine cregion ?_
            obtain ⟨u8, hu8, h⟩ := bind_eq h
            refine sv rfl (opv_ix (f := eGNetLink) si29 (fun _ => rfl) rfl rfl rfl rfl hu8) ?_
            refine sv rfl (opv_loadNe (ys := [.i .i64 u8.ID, .i .i64 u8.Client, .i .i64 u8.Conn]) ti69 rfl (.cp _) rfl rfl) ?_
            refine salloc rfl zi69 ?_
            refine sstore sz69 rfl rfl rfl rfl (Nat.le_of_ble_eq_true rfl) ?_
            refine smem [.box a0, .box u3, .box u8] rfl ?_
            refine snil ?_
            refine cseq ?_
            refine cregion ?_
            refine sv rfl (opv_fieldAddr_lp fi69_0 rfl) ?_
            refine sv rfl (opv_load1 ti3 rfl (.lp _ _ _ rfl) rfl) ?_
            refine sv rfl (opv_fieldAddr_lp fi69_0 rfl) ?_
            refine sv rfl (opv_load1 ti3 rfl (.lp _ _ _ rfl) rfl) ?_
            refine sv rfl (opv_geq rfl rfl) ?_
            refine sv rfl (opv_mv rfl) ?_
            refine ssplit 47 rfl (fun hc => ?_) (fun hc => ?_)
            · replace h := ite_t hc h
              clear hc
              refine soff rfl rfl rfl rfl ?_
              refine soff rfl rfl rfl rfl ?_
              refine soff rfl rfl rfl rfl ?_
              refine soff rfl rfl rfl rfl ?_
              refine soff rfl rfl rfl rfl ?_
              refine sv rfl (opv_pick_t rfl rfl) ?_
              refine sv rfl (opv_mv rfl) ?_
              refine soff rfl rfl rfl rfl ?_
              refine soff rfl rfl rfl rfl ?_
              refine soff rfl rfl rfl rfl ?_
              refine soff rfl rfl rfl rfl ?_
              refine soff rfl rfl rfl rfl ?_
              refine sv rfl (opv_pick_t rfl rfl) ?_
              refine snil ?_
              refine ccond rfl (fun _ => ?_) (fun hx => Bool.noConfusion hx)
              refine cseq ?_
              refine cregion ?_
              refine sv rfl (opv_as rfl) ?_
              refine snil ?_
              refine cret ?_
              refine block_ret ?_
              refine then_ret ?_
              refine then_ret ?_
              refine block_ret ?_
              refine block_ret ?_
              refine then_ret ?_
              refine then_ret ?_
              refine block_ret ?_
              refine then_ret ?_
              obtain rfl := Option.some.inj h
              obtain rfl : Sum.inl _ = x7 := hk7
              replace ho7 : some _ = some _ := ho7
              obtain rfl := Option.some.inj ho7
              obtain rfl : Sum.inl _ = x2 := hk2
              replace ho2 : some _ = some _ := ho2
              obtain rfl := Option.some.inj ho2
              refine ⟨Or.inr rfl, _, _, _, (resVs_cons (ResV.tmp _ _ rfl) resVs_nil), (pubA_id rfl), ?_⟩
              rfl
            · replace h := ite_f hc h
              clear hc
              refine son rfl rfl rfl ?_
              refine sv rfl (opv_fieldAddr_lp fi69_1 rfl) ?_
              refine son rfl rfl rfl ?_
              refine sv rfl (opv_load1 ti3 rfl (.lp _ _ _ rfl) rfl) ?_
              refine son rfl rfl rfl ?_
              refine sv rfl (opv_fieldAddr_lp fi69_1 rfl) ?_
              refine son rfl rfl rfl ?_
              refine sv rfl (opv_load1 ti3 rfl (.lp _ _ _ rfl) rfl) ?_
              refine son rfl rfl rfl ?_
              refine sv rfl (opv_ieql rfl rfl) ?_
              refine sv rfl (opv_pick_f rfl rfl) ?_
              refine sv rfl (opv_mv rfl) ?_
              refine ssplit 54 rfl (fun hc => ?_) (fun hc => ?_)
              · replace h := ite_t hc h
                clear hc
                refine soff rfl rfl rfl rfl ?_
                refine soff rfl rfl rfl rfl ?_
                refine soff rfl rfl rfl rfl ?_
                refine soff rfl rfl rfl rfl ?_
                refine soff rfl rfl rfl rfl ?_
                refine sv rfl (opv_pick_t rfl rfl) ?_
                refine snil ?_
                refine ccond rfl (fun _ => ?_) (fun hx => Bool.noConfusion hx)
                refine cseq ?_
                refine cregion ?_
                refine sv rfl (opv_as rfl) ?_
                refine snil ?_
                refine cret ?_
                refine block_ret ?_
                refine then_ret ?_
                refine then_ret ?_
                refine block_ret ?_
                refine block_ret ?_
                refine then_ret ?_
                refine then_ret ?_
                refine block_ret ?_
                refine then_ret ?_
                obtain rfl := Option.some.inj h
                obtain rfl : Sum.inl _ = x7 := hk7
                replace ho7 : some _ = some _ := ho7
                obtain rfl := Option.some.inj ho7
                obtain rfl : Sum.inl _ = x2 := hk2
                replace ho2 : some _ = some _ := ho2
                obtain rfl := Option.some.inj ho2
                refine ⟨Or.inr rfl, _, _, _, (resVs_cons (ResV.tmp _ _ rfl) resVs_nil), (pubA_id rfl), ?_⟩
                rfl
              · replace h := ite_f hc h
                clear hc
                refine son rfl rfl rfl ?_
                refine sv rfl (opv_fieldAddr_lp fi69_2 rfl) ?_
                refine son rfl rfl rfl ?_
                refine sv rfl (opv_load1 ti3 rfl (.lp _ _ _ rfl) rfl) ?_
                refine son rfl rfl rfl ?_
                refine sv rfl (opv_fieldAddr_lp fi69_2 rfl) ?_
                refine son rfl rfl rfl ?_
                refine sv rfl (opv_load1 ti3 rfl (.lp _ _ _ rfl) rfl) ?_
                refine son rfl rfl rfl ?_
                refine sv rfl (opv_ieql rfl rfl) ?_
                refine sv rfl (opv_pick_f rfl rfl) ?_
                refine snil ?_
                refine ccond rfl (fun hc => ?_) (fun hc => ?_)
                · replace h := ite_t hc h
                  clear hc
                  refine cseq ?_
                  refine cregion ?_
                  refine sv rfl (opv_as rfl) ?_
                  refine snil ?_
                  refine cret ?_
                  refine block_ret ?_
                  refine then_ret ?_
                  refine then_ret ?_
                  refine block_ret ?_
                  refine block_ret ?_
                  refine then_ret ?_
                  refine then_ret ?_
                  refine block_ret ?_
                  refine then_ret ?_
                  obtain rfl := Option.some.inj h
                  obtain rfl : Sum.inl _ = x7 := hk7
                  replace ho7 : some _ = some _ := ho7
                  obtain rfl := Option.some.inj ho7
                  obtain rfl : Sum.inl _ = x2 := hk2
                  replace ho2 : some _ = some _ := ho2
                  obtain rfl := Option.some.inj ho2
                  refine ⟨Or.inr rfl, _, _, _, (resVs_cons (ResV.tmp _ _ rfl) resVs_nil), (pubA_id rfl), ?_⟩
                  rfl
                · replace h := ite_f hc h
                  clear hc
                  refine cskip ?_
                  refine block_normal ?_
                  refine then_normal ?_
                  refine cregion ?_
                  refine sv rfl (opv_add rfl rfl) ?_
                  refine sv rfl (opv_mv rfl) ?_
                  refine snil ?_
                  obtain rfl := Option.some.inj h
                  exact ⟨(n7, (wI (s7 + 1))), _, hk7, ⟨rfl, rfl, rfl, rfl, rfl, rfl, rfl, rfl, trivial⟩, rfl, Nat.lt_succ_self _⟩
          · replace h := ite_f hc h
            clear hc
            refine cexit ?_
            refine then_exit ?_
            refine then_exit ?_
            refine block_hit ?_
            refine block_normal ?_
            refine then_normal ?_
            obtain rfl := Option.some.inj h
            obtain rfl : _ = x7 := hk7
            exact ⟨(), _, ho7, ⟨rfl, rfl, rfl, rfl, trivial⟩, rfl⟩
      · skip
        refine cregion ?_
        refine sv rfl (opv_fieldAddr_lp fi69_0 rfl) ?_
        refine sv rfl (opv_load1 ti3 rfl (.lp _ _ _ rfl) rfl) ?_
        refine sv rfl (opv_lss rfl rfl) ?_
        refine sv rfl (opv_mv rfl) ?_
        refine ssplit 18 rfl (fun hc => ?_) (fun hc => ?_)
        · replace h := ite_t hc h
          clear hc
          refine soff rfl rfl rfl rfl ?_
          refine soff rfl rfl rfl rfl ?_
          refine soff rfl rfl rfl rfl ?_
          refine soff rfl rfl rfl rfl ?_
          refine soff rfl rfl rfl rfl ?_
          refine sv rfl (opv_pick_t rfl rfl) ?_
          refine sv rfl (opv_mv rfl) ?_
          refine soff rfl rfl rfl rfl ?_
          refine soff rfl rfl rfl rfl ?_
          refine soff rfl rfl rfl rfl ?_
          refine soff rfl rfl rfl rfl ?_
          refine soff rfl rfl rfl rfl ?_
          refine soff rfl rfl rfl rfl ?_
          refine sv rfl (opv_pick_t rfl rfl) ?_
          refine snil ?_
          refine ccond rfl (fun _ => ?_) (fun hx => Bool.noConfusion hx)
          refine cseq ?_
          refine cregion ?_
          refine sv rfl (opv_as rfl) ?_
          refine snil ?_
          refine cret ?_
          refine then_ret ?_
          refine block_ret ?_
          refine then_ret ?_
          refine then_ret ?_
          refine block_ret ?_
          refine then_ret ?_
          obtain rfl := Option.some.inj h
          obtain rfl : Sum.inl _ = x2 := hk2
          replace ho2 : some _ = some _ := ho2
          obtain rfl := Option.some.inj ho2
          refine ⟨Or.inr rfl, _, _, _, (resVs_cons (ResV.tmp _ _ rfl) resVs_nil), (pubA_id rfl), ?_⟩
          rfl
        · replace h := ite_f hc h
          clear hc
          refine son rfl rfl rfl ?_
          refine sv rfl (opv_fieldAddr_lp fi69_0 rfl) ?_
          refine son rfl rfl rfl ?_
          refine sv rfl (opv_load1 ti3 rfl (.lp _ _ _ rfl) rfl) ?_
          refine son rfl rfl rfl ?_
          refine sv rfl (opv_fieldAddr_lp fi32_2 rfl) ?_
          refine son rfl rfl rfl ?_
          refine sv rfl (opv_load1 ti3 rfl (.lp _ _ _ rfl) rfl) ?_
          refine son rfl rfl rfl ?_
          refine sv rfl (opv_geq rfl rfl) ?_
          refine sv rfl (opv_pick_f rfl rfl) ?_
          refine sv rfl (opv_mv rfl) ?_
          refine ssplit 25 rfl (fun hc => ?_) (fun hc => ?_)
          · replace h := ite_t hc h
            clear hc
            refine soff rfl rfl rfl rfl ?_
            refine soff rfl rfl rfl rfl ?_
            refine soff rfl rfl rfl rfl ?_
            refine soff rfl rfl rfl rfl ?_
            refine soff rfl rfl rfl rfl ?_
            refine soff rfl rfl rfl rfl ?_
            refine sv rfl (opv_pick_t rfl rfl) ?_
            refine snil ?_
            refine ccond rfl (fun _ => ?_) (fun hx => Bool.noConfusion hx)
            refine cseq ?_
            refine cregion ?_
            refine sv rfl (opv_as rfl) ?_
            refine snil ?_
            refine cret ?_
            refine then_ret ?_
            refine block_ret ?_
            refine then_ret ?_
            refine then_ret ?_
            refine block_ret ?_
            refine then_ret ?_
            obtain rfl := Option.some.inj h
            obtain rfl : Sum.inl _ = x2 := hk2
            replace ho2 : some _ = some _ := ho2
            obtain rfl := Option.some.inj ho2
            refine ⟨Or.inr rfl, _, _, _, (resVs_cons (ResV.tmp _ _ rfl) resVs_nil), (pubA_id rfl), ?_⟩
            rfl
          · replace h := ite_f hc h
            clear hc
            refine son rfl rfl rfl ?_
            refine sv rfl (opv_fieldAddr_lp fi69_1 rfl) ?_
            refine son rfl rfl rfl ?_
            refine sv rfl (opv_load1 ti3 rfl (.lp _ _ _ rfl) rfl) ?_
            refine son rfl rfl rfl ?_
            refine sv rfl (opv_fieldAddr_lp fi69_2 rfl) ?_
            refine son rfl rfl rfl ?_
            refine sv rfl (opv_load1 ti3 rfl (.lp _ _ _ rfl) rfl) ?_
            refine son rfl rfl rfl ?_
            obtain ⟨v10, hv10, h⟩ := bind_eq h
            refine scall1 rfl fn34 (opnds_cons rfl (opnds_cons rfl opnds_nil)) (pubA_id rfl) (m34_net_saneLink_c hv10) ?_
            refine son rfl rfl rfl ?_
            refine sv rfl (opv_not rfl) ?_
            refine sv rfl (opv_pick_f rfl rfl) ?_
            refine snil ?_
            refine ccond rfl (fun hc => ?_) (fun hc => ?_)
            · replace h := ite_t hc h
              clear hc
              refine cseq ?_
              refine cregion ?_
              refine sv rfl (opv_as rfl) ?_
              refine snil ?_
              refine cret ?_
              refine then_ret ?_
              refine block_ret ?_
              refine then_ret ?_
              refine then_ret ?_
              refine block_ret ?_
              refine then_ret ?_
              obtain rfl := Option.some.inj h
              obtain rfl : Sum.inl _ = x2 := hk2
              replace ho2 : some _ = some _ := ho2
              obtain rfl := Option.some.inj ho2
              refine ⟨Or.inr rfl, _, _, _, (resVs_cons (ResV.tmp _ _ rfl) resVs_nil), (pubA_id rfl), ?_⟩
              rfl
            · replace h := ite_f hc h
              clear hc
              refine cskip ?_
              refine then_normal ?_
              exact ⟨(), _, h, ⟨rfl, rfl, rfl, rfl, rfl, rfl, trivial⟩, rfl⟩
    · replace h := ite_f hc h
      clear hc
      refine cexit ?_
      refine then_exit ?_
      refine then_exit ?_
      refine block_hit ?_
      refine then_normal ?_
      obtain rfl := Option.some.inj h
      obtain rfl : _ = x2 := hk2
      exact ⟨(), _, ho2, ⟨rfl, trivial⟩, rfl⟩

def m30_net_Sane_k1 (a0 : GNetNet) (b1 : Unit) : Option Bool :=
  if (decide (0 ≤ a0.Next)) then (if (decide (a0.Next ≤ 1099511627776)) then (if (decide ((a0.Packets.length : Int) ≤ 64)) then ((m49_net_saneLinks (GNetNet.mk a0.Links a0.Packets a0.Next)).bind fun v2 => some v2) else (some false)) else (some false)) else (some false)

def m30_net_Sane_s3 (a0 : GNetNet) (s3 : Int) : Option (LR (Int) (Unit) (Bool)) :=
  if (decide (s3 < (a0.Packets.length : Int))) then ((idx a0.Packets s3).bind fun u4 => if (decide (u4.Link < 0)) then (some (.ret false)) else (if (decide (a0.Next ≤ u4.Link)) then (some (.ret false)) else ((m41_net_saneBytes u4.Bytes).bind fun v5 => if (!v5) then (some (.ret false)) else (some (.cont (wI (s3 + 1))))))) else (some (.brk ()))
def m30_net_Sane (a0 : GNetNet) : Option Bool :=
  (iter (m30_net_Sane_s3 a0) fuel 0).bind fun x => match x with | .inl r => some r | .inr e6 => m30_net_Sane_k1 a0 e6

set_option maxRecDepth 100000 in
theorem m30_net_Sane_c {a0 : GNetNet} {r : Bool} (h : m30_net_Sane a0 = some r) : CallsA Try.prog 30 [.agg a0] (· = .s (.one (.b r))) := by
  unfold m30_net_Sane at h
  refine callsA_of Try.func30 rfl (nt := 47) rfl (Nat.le_of_ble_eq_true rfl) ?_
  intro w0 S0
  refine cseq ?_
  refine cregion ?_
  refine sbox rfl rfl ?_
  refine sv rfl (opv_as rfl) ?_
  refine snil ?_
  refine cseq ?_
  refine cseq ?_
  refine cregion ?_
  refine sv rfl (opv_fieldAddr_lp fi32_1 rfl) ?_
  refine sv rfl (opv_load1 ti30 rfl (.lp _ _ _ rfl) rfl) ?_
  refine sv rfl (opv_len_sl si30 rfl) ?_
  refine sv rfl (opv_mv rfl) ?_
  refine snil ?_
  refine cjoin (Unit) (fun b1 => [(1, .s (.one (.lp 0 0)))]) (fun b1 => [.box a0]) (fun b1 => m30_net_Sane_k1 a0 b1 = some r) (fun _ _ => inbL_of rfl) (fun _ _ => blkinb_of rfl) (fun _ _ => Nat.le_of_ble_eq_true rfl) (fun b1 h => ?_) ?_
  · unfold m30_net_Sane_k1 at h
    refine cseq ?_
    refine cregion ?_
    refine sv rfl (opv_fieldAddr_lp fi32_2 rfl) ?_
    refine sv rfl (opv_load1 ti3 rfl (.lp _ _ _ rfl) rfl) ?_
    refine sv rfl (opv_geq rfl rfl) ?_
    refine sv rfl (opv_mv rfl) ?_
    refine ssplit 32 rfl (fun hc => ?_) (fun hc => ?_)
    · replace h := ite_t hc h
      clear hc
      refine son rfl rfl rfl ?_
      refine sv rfl (opv_fieldAddr_lp fi32_2 rfl) ?_
      refine son rfl rfl rfl ?_
      refine sv rfl (opv_load1 ti3 rfl (.lp _ _ _ rfl) rfl) ?_
      refine son rfl rfl rfl ?_
      refine sv rfl (opv_leq rfl rfl) ?_
      refine sv rfl (opv_pick_t rfl rfl) ?_
      refine sv rfl (opv_mv rfl) ?_
      refine ssplit 37 rfl (fun hc => ?_) (fun hc => ?_)
      · replace h := ite_t hc h
        clear hc
        refine son rfl rfl rfl ?_
        refine sv rfl (opv_fieldAddr_lp fi32_1 rfl) ?_
        refine son rfl rfl rfl ?_
        refine sv rfl (opv_load1 ti30 rfl (.lp _ _ _ rfl) rfl) ?_
        refine son rfl rfl rfl ?_
        refine sv rfl (opv_len_sl si30 rfl) ?_
        refine son rfl rfl rfl ?_
        refine sv rfl (opv_leq rfl rfl) ?_
        refine sv rfl (opv_pick_t rfl rfl) ?_
        refine sv rfl (opv_mv rfl) ?_
        refine ssplit 43 rfl (fun hc => ?_) (fun hc => ?_)
        · replace h := ite_t hc h
          clear hc
          refine son rfl rfl rfl ?_
          refine sv rfl (opv_loadN ti32 rfl (.lp _ _ _ rfl) (Nat.le_of_ble_eq_true rfl)) ?_
          refine son rfl rfl rfl ?_
          obtain ⟨v2, hv2, h⟩ := bind_eq h
          refine scall1 rfl fn49 (opnds_cons rfl opnds_nil) (pubA_id rfl) (m49_net_saneLinks_c hv2) ?_
          refine sv rfl (opv_pick_t rfl rfl) ?_
          refine sv rfl (opv_as rfl) ?_
          refine snil ?_
          refine cret ?_
          obtain rfl := Option.some.inj h
          refine ⟨Or.inr rfl, _, _, _, (resVs_cons (ResV.tmp _ _ rfl) resVs_nil), (pubA_id rfl), ?_⟩
          rfl
        · replace h := ite_f hc h
          clear hc
          refine soff rfl rfl rfl rfl ?_
          refine soff rfl rfl rfl rfl ?_
          refine sv rfl (opv_pick_f rfl rfl) ?_
          refine sv rfl (opv_as rfl) ?_
          refine snil ?_
          refine cret ?_
          obtain rfl := Option.some.inj h
          refine ⟨Or.inr rfl, _, _, _, (resVs_cons (ResV.tmp _ _ rfl) resVs_nil), (pubA_id rfl), ?_⟩
          rfl
      · replace h := ite_f hc h
        clear hc
        refine soff rfl rfl rfl rfl ?_
        refine soff rfl rfl rfl rfl ?_
        refine soff rfl rfl rfl rfl ?_
        refine soff rfl rfl rfl rfl ?_
        refine sv rfl (opv_pick_f rfl rfl) ?_
        refine sv rfl (opv_mv rfl) ?_
        refine soff rfl rfl rfl rfl ?_
        refine soff rfl rfl rfl rfl ?_
        refine sv rfl (opv_pick_f rfl rfl) ?_
        refine sv rfl (opv_as rfl) ?_
        refine snil ?_
        refine cret ?_
        obtain rfl := Option.some.inj h
        refine ⟨Or.inr rfl, _, _, _, (resVs_cons (ResV.tmp _ _ rfl) resVs_nil), (pubA_id rfl), ?_⟩
        rfl
    · replace h := ite_f hc h
      clear hc
      refine soff rfl rfl rfl rfl ?_
      refine soff rfl rfl rfl rfl ?_
      refine soff rfl rfl rfl rfl ?_
      refine sv rfl (opv_pick_f rfl rfl) ?_
      refine sv rfl (opv_mv rfl) ?_
      refine soff rfl rfl rfl rfl ?_
      refine soff rfl rfl rfl rfl ?_
      refine soff rfl rfl rfl rfl ?_
      refine soff rfl rfl rfl rfl ?_
      refine sv rfl (opv_pick_f rfl rfl) ?_
      refine sv rfl (opv_mv rfl) ?_
      refine soff rfl rfl rfl rfl ?_
      refine soff rfl rfl rfl rfl ?_
      refine sv rfl (opv_pick_f rfl rfl) ?_
      refine sv rfl (opv_as rfl) ?_
      refine snil ?_
      refine cret ?_
      obtain rfl := Option.some.inj h
      refine ⟨Or.inr rfl, _, _, _, (resVs_cons (ResV.tmp _ _ rfl) resVs_nil), (pubA_id rfl), ?_⟩
      rfl
  · skip
    refine cblock ?_
    obtain ⟨x3, hx3, ho3⟩ := bind_eq h
    refine awc_loop (G := Nat × (Int)) (fun g => [(1, .s (.one (.lp 0 0))), (6, .s (.one (.sl a0.Packets.length (a0.Packets.flatMap eGNetPacket)))), (7, .s (.one (.i .i64 (a0.Packets.length : Int)))), (8, .s (.one (.i .i64 g.2)))]) (fun g => [.box a0]) (fun g => iter (m30_net_Sane_s3 a0) g.1 g.2 = some x3) (fun g => g.1) (fuel, 0) hx3 ⟨rfl, rfl, rfl, rfl, trivial⟩ [] rfl (fun _ _ => inbL_of rfl) (fun _ _ => blkinb_of rfl) (fun _ _ => Nat.le_of_ble_eq_true rfl) ?_
    clear hx3 h
    rintro ⟨n3, s3⟩ h
    obtain ⟨n3, y3, rfl, h, hk3⟩ := iter_eq h
    unfold m30_net_Sane_s3 at h
    refine cseq ?_
    refine cregion ?_
    refine sv rfl (opv_lss rfl rfl) ?_
    refine snil ?_
    refine cseq ?_
    refine ccond rfl (fun hc => ?_) (fun hc => ?_)
    · replace h := ite_t hc h
      clear hc
      refine cskip ?_
      refine then_normal ?_
      refine cseq ?_
      refine cblock ?_
      refine cseq ?_
      refine cregion ?_
      obtain ⟨u4, hu4, h⟩ := bind_eq h
      refine sv rfl (opv_ix (f := eGNetPacket) si30 (fun _ => rfl) rfl rfl rfl rfl hu4) ?_
      refine sv rfl (opv_loadNe (ys := [.i .i64 u4.Link, .b u4.Up, .sl u4.Bytes.length (u4.Bytes.flatMap eU8)]) ti46 rfl (.cp _) rfl rfl) ?_
      refine salloc rfl zi46 ?_
      refine sstore sz46 rfl rfl rfl rfl (Nat.le_of_ble_eq_true rfl) ?_
      refine smem [.box a0, .box u4] rfl ?_
      refine snil ?_
      refine cseq ?_
      refine cregion ?_
      refine sv rfl (opv_fieldAddr_lp fi46_0 rfl) ?_
      refine sv rfl (opv_load1 ti3 rfl (.lp _ _ _ rfl) rfl) ?_
      refine sv rfl (opv_lss rfl rfl) ?_
      refine sv rfl (opv_mv rfl) ?_
      refine ssplit 15 rfl (fun hc => ?_) (fun hc => ?_)
      · replace h := ite_t hc h
        clear hc
        refine soff rfl rfl rfl rfl ?_
        refine soff rfl rfl rfl rfl ?_
        refine soff rfl rfl rfl rfl ?_
        refine soff rfl rfl rfl rfl ?_
        refine soff rfl rfl rfl rfl ?_
        refine sv rfl (opv_pick_t rfl rfl) ?_
        refine sv rfl (opv_mv rfl) ?_
        refine soff rfl rfl rfl rfl ?_
        refine soff rfl rfl rfl rfl ?_
        refine soff rfl rfl rfl rfl ?_
        refine soff rfl rfl rfl rfl ?_
        refine sv rfl (opv_pick_t rfl rfl) ?_
        refine snil ?_
        refine ccond rfl (fun _ => ?_) (fun hx => Bool.noConfusion hx)
        refine cseq ?_
        refine cregion ?_
        refine sv rfl (opv_as rfl) ?_
        refine snil ?_
        refine cret ?_
        refine block_ret ?_
        refine then_ret ?_
        refine then_ret ?_
        refine block_ret ?_
        refine then_ret ?_
        obtain rfl := Option.some.inj h
        obtain rfl : Sum.inl _ = x3 := hk3
        replace ho3 : some _ = some _ := ho3
        obtain rfl := Option.some.inj ho3
        refine ⟨Or.inr rfl, _, _, _, (resVs_cons (ResV.tmp _ _ rfl) resVs_nil), (pubA_id rfl), ?_⟩
        rfl
      · replace h := ite_f hc h
        clear hc
        refine son rfl rfl rfl ?_
        refine sv rfl (opv_fieldAddr_lp fi46_0 rfl) ?_
        refine son rfl rfl rfl ?_
        refine sv rfl (opv_load1 ti3 rfl (.lp _ _ _ rfl) rfl) ?_
        refine son rfl rfl rfl ?_
        refine sv rfl (opv_fieldAddr_lp fi32_2 rfl) ?_
        refine son rfl rfl rfl ?_
        refine sv rfl (opv_load1 ti3 rfl (.lp _ _ _ rfl) rfl) ?_
        refine son rfl rfl rfl ?_
        refine sv rfl (opv_geq rfl rfl) ?_
        refine sv rfl (opv_pick_f rfl rfl) ?_
        refine sv rfl (opv_mv rfl) ?_
        refine ssplit 22 rfl (fun hc => ?_) (fun hc => ?_)
        · replace h := ite_t hc h
          clear hc
          refine soff rfl rfl rfl rfl ?_
          refine soff rfl rfl rfl rfl ?_
          refine soff rfl rfl rfl rfl ?_
          refine soff rfl rfl rfl rfl ?_
          refine sv rfl (opv_pick_t rfl rfl) ?_
          refine snil ?_
          refine ccond rfl (fun _ => ?_) (fun hx => Bool.noConfusion hx)
          refine cseq ?_
          refine cregion ?_
          refine sv rfl (opv_as rfl) ?_
          refine snil ?_
          refine cret ?_
          refine block_ret ?_
          refine then_ret ?_
          refine then_ret ?_
          refine block_ret ?_
          refine then_ret ?_
          obtain rfl := Option.some.inj h
          obtain rfl : Sum.inl _ = x3 := hk3
          replace ho3 : some _ = some _ := ho3
          obtain rfl := Option.some.inj ho3
          refine ⟨Or.inr rfl, _, _, _, (resVs_cons (ResV.tmp _ _ rfl) resVs_nil), (pubA_id rfl), ?_⟩
          rfl
        · replace h := ite_f hc h
          clear hc
          refine son rfl rfl rfl ?_
          refine sv rfl (opv_fieldAddr_lp fi46_2 rfl) ?_
          refine son rfl rfl rfl ?_
          refine sv rfl (opv_load1 ti26 rfl (.lp _ _ _ rfl) rfl) ?_
          refine son rfl rfl rfl ?_
          obtain ⟨v5, hv5, h⟩ := bind_eq h
          refine scall1 rfl fn41 (opnds_cons rfl opnds_nil) (pubA_id rfl) (m41_net_saneBytes_c hv5) ?_
          refine son rfl rfl rfl ?_
          refine sv rfl (opv_not rfl) ?_
          refine sv rfl (opv_pick_f rfl rfl) ?_
          refine snil ?_
          refine ccond rfl (fun hc => ?_) (fun hc => ?_)
          · replace h := ite_t hc h
            clear hc
            refine cseq ?_
            refine cregion ?_
            refine sv rfl (opv_as rfl) ?_
            refine snil ?_
            refine cret ?_
            refine block_ret ?_
            refine then_ret ?_
            refine then_ret ?_
            refine block_ret ?_
            refine then_ret ?_
            obtain rfl := Option.some.inj h
            obtain rfl : Sum.inl _ = x3 := hk3
            replace ho3 : some _ = some _ := ho3
            obtain rfl := Option.some.inj ho3
            refine ⟨Or.inr rfl, _, _, _, (resVs_cons (ResV.tmp _ _ rfl) resVs_nil), (pubA_id rfl), ?_⟩
            rfl
          · replace h := ite_f hc h
            clear hc
            refine cskip ?_
            refine block_normal ?_
            refine then_normal ?_
            refine cregion ?_
            refine sv rfl (opv_add rfl rfl) ?_
            refine sv rfl (opv_mv rfl) ?_
            refine snil ?_
            obtain rfl := Option.some.inj h
            exact ⟨(n3, (wI (s3 + 1))), _, hk3, ⟨rfl, rfl, rfl, rfl, trivial⟩, rfl, Nat.lt_succ_self _⟩
    · replace h := ite_f hc h
      clear hc
      refine cexit ?_
      refine then_exit ?_
      refine then_exit ?_
      refine block_hit ?_
      refine then_normal ?_
      obtain rfl := Option.some.inj h
      obtain rfl : _ = x3 := hk3
      exact ⟨(), _, ho3, ⟨rfl, trivial⟩, rfl⟩

def m36_net_Open_1s (a0 : GNetLink) (a1 : Int) (a2 : Int) : Option Bool :=
  if (decide (a0.Client = a1)) then (some true) else (some (decide (a0.Conn = a2)))

set_option maxRecDepth 100000 in
theorem m36_net_Open_1s_c {a0 : GNetLink} {a1 : Int} {a2 : Int} {r : Bool} (h : m36_net_Open_1s a0 a1 a2 = some r) : CallsB Try.prog 36 [.box [.i .i64 a1], .box [.i .i64 a2]] [.agg a0, .one (.lp 0 0), .one (.lp 1 0)] (fun y m' => y = .s (.one (.b r)) ∧ m' = [.box [.i .i64 a1], .box [.i .i64 a2]]) := by
  unfold m36_net_Open_1s at h
  refine callsB_of Try.func36 rfl (nt := 15) rfl (Nat.le_of_ble_eq_true rfl) ?_
  intro w0 S0 X0 H0
  refine cseq ?_
  refine cregion ?_
  refine sbox rfl rfl ?_
  refine sv rfl (opv_as rfl) ?_
  refine snil ?_
  refine cseq ?_
  refine cregion ?_
  refine sv rfl (opv_fieldAddr_lp fi69_1 rfl) ?_
  refine sv rfl (opv_load1 ti3 rfl (.lp _ _ _ rfl) rfl) ?_
  refine sv rfl (opv_load1 ti3 rfl (.lp _ _ _ rfl) rfl) ?_
  refine sv rfl (opv_ieql rfl rfl) ?_
  refine sv rfl (opv_mv rfl) ?_
  refine ssplit 9 rfl (fun hc => ?_) (fun hc => ?_)
  · replace h := ite_t hc h
    clear hc
    refine soff rfl rfl rfl rfl ?_
    refine soff rfl rfl rfl rfl ?_
    refine soff rfl rfl rfl rfl ?_
    refine soff rfl rfl rfl rfl ?_
    refine sv rfl (opv_pick_t rfl rfl) ?_
    refine sv rfl (opv_as rfl) ?_
    refine snil ?_
    refine cret ?_
    obtain rfl := Option.some.inj h
    exact ⟨Or.inr rfl, _, [0, 1], [.one (.b true)], [.box [.i .i64 a1], .box [.i .i64 a2]], (resVs_cons (ResV.tmp _ _ rfl) resVs_nil), rfl, rfl, ⟨by decide, rfl⟩, rfl, rfl, ⟨rfl, rfl⟩⟩
  · replace h := ite_f hc h
    clear hc
    refine son rfl rfl rfl ?_
    refine sv rfl (opv_fieldAddr_lp fi69_2 rfl) ?_
    refine son rfl rfl rfl ?_
    refine sv rfl (opv_load1 ti3 rfl (.lp _ _ _ rfl) rfl) ?_
    refine son rfl rfl rfl ?_
    refine sv rfl (opv_load1 ti3 rfl (.lp _ _ _ rfl) rfl) ?_
    refine son rfl rfl rfl ?_
    refine sv rfl (opv_ieql rfl rfl) ?_
    refine sv rfl (opv_pick_f rfl rfl) ?_
    refine sv rfl (opv_as rfl) ?_
    refine snil ?_
    refine cret ?_
    obtain rfl := Option.some.inj h
    exact ⟨Or.inr rfl, _, [0, 1], [.one (.b (decide (a0.Conn = a2)))], [.box [.i .i64 a1], .box [.i .i64 a2]], (resVs_cons (ResV.tmp _ _ rfl) resVs_nil), rfl, rfl, ⟨by decide, rfl⟩, rfl, rfl, ⟨rfl, rfl⟩⟩

def m52_slices_IndexFuncs_k1 (b1 : Unit) : Option Int :=
  some (-1)

def m52_slices_IndexFuncs_s2 (a0 : List GNetLink) (a1 : Int) (a2 : Int) (s2 : Int) : Option (LR (Int) (Unit) (Int)) :=
  if (decide (s2 < (a0.length : Int))) then ((idx a0 s2).bind fun u3 => (m36_net_Open_1s u3 a1 a2).bind fun v4 => if v4 then (some (.ret s2)) else (some (.cont (wI (s2 + 1))))) else (some (.brk ()))
def m52_slices_IndexFuncs (a0 : List GNetLink) (a1 : Int) (a2 : Int) : Option Int :=
  (iter (m52_slices_IndexFuncs_s2 a0 a1 a2) fuel 0).bind fun x => match x with | .inl r => some r | .inr e5 => m52_slices_IndexFuncs_k1 e5

set_option maxRecDepth 100000 in
theorem m52_slices_IndexFuncs_c {a0 : List GNetLink} {a1 : Int} {a2 : Int} {r : Int} (h : m52_slices_IndexFuncs a0 a1 a2 = some r) : CallsB Try.prog 52 [.box [.i .i64 a1], .box [.i .i64 a2]] [.one (.sl a0.length (a0.flatMap eGNetLink)), .one (.fn 36 [] [.lp 0 0, .lp 1 0])] (fun y m' => y = .s (.one (.i .i64 r)) ∧ m' = [.box [.i .i64 a1], .box [.i .i64 a2]]) := by
  unfold m52_slices_IndexFuncs at h
  refine callsB_of Try.func52 rfl (nt := 19) rfl (Nat.le_of_ble_eq_true rfl) ?_
  intro w0 S0 X0 H0
  refine cseq ?_
  refine cregion ?_
  refine sv rfl (opv_as rfl) ?_
  refine snil ?_
  refine cseq ?_
  refine cseq ?_
  refine cregion ?_
  refine sv rfl (opv_mv rfl) ?_
  refine sv rfl (opv_len_sl si29 rfl) ?_
  refine sv rfl (opv_mv rfl) ?_
  refine snil ?_
  refine cjoin (Unit) (fun b1 => []) (fun b1 => [.box [.i .i64 a1], .box [.i .i64 a2]]) (fun b1 => m52_slices_IndexFuncs_k1 b1 = some r) (fun _ _ => inbL_of rfl) (fun _ _ => blkinb_of rfl) (fun _ _ => Nat.le_of_ble_eq_true rfl) (fun b1 h => ?_) ?_
  · unfold m52_slices_IndexFuncs_k1 at h
    refine cseq ?_
    refine cregion ?_
    refine sv rfl (opv_as rfl) ?_
    refine snil ?_
    refine cret ?_
    obtain rfl := Option.some.inj h
    exact ⟨Or.inr rfl, _, [0, 1], [.one (.i .i64 (-1))], [.box [.i .i64 a1], .box [.i .i64 a2]], (resVs_cons (ResV.tmp _ _ rfl) resVs_nil), rfl, rfl, ⟨by decide, rfl⟩, rfl, rfl, ⟨rfl, rfl⟩⟩
  · skip
    refine cblock ?_
    obtain ⟨x2, hx2, ho2⟩ := bind_eq h
    refine awc_loop (G := Nat × (Int)) (fun g => [(0, .s (.one (.sl a0.length (a0.flatMap eGNetLink)))), (1, .s (.one (.fn 36 [] [.lp 0 0, .lp 1 0]))), (7, .s (.one (.i .i64 (a0.length : Int)))), (8, .s (.one (.i .i64 g.2)))]) (fun g => [.box [.i .i64 a1], .box [.i .i64 a2]]) (fun g => iter (m52_slices_IndexFuncs_s2 a0 a1 a2) g.1 g.2 = some x2) (fun g => g.1) (fuel, 0) hx2 ⟨rfl, rfl, rfl, rfl, trivial⟩ [] rfl (fun _ _ => inbL_of rfl) (fun _ _ => blkinb_of rfl) (fun _ _ => Nat.le_of_ble_eq_true rfl) ?_
    clear hx2 h
    rintro ⟨n2, s2⟩ h
    obtain ⟨n2, y2, rfl, h, hk2⟩ := iter_eq h
    unfold m52_slices_IndexFuncs_s2 at h
    refine cseq ?_
    refine cregion ?_
    refine sv rfl (opv_lss rfl rfl) ?_
    refine snil ?_
    refine cseq ?_
    refine ccond rfl (fun hc => ?_) (fun hc => ?_)
    · replace h := ite_t hc h
      clear hc
      refine cskip ?_
      refine then_normal ?_
      refine cseq ?_
      refine cblock ?_
      refine cseq ?_
      refine cregion ?_
      refine sv rfl (opv_mv rfl) ?_
      refine sv rfl (opv_as rfl) ?_
      refine snil ?_
      refine cseq ?_
      refine cregion ?_
      refine sv rfl (opv_mv rfl) ?_
      refine sv rfl (opv_mv rfl) ?_
      refine sv rfl (opv_mv rfl) ?_
      obtain ⟨u3, hu3, h⟩ := bind_eq h
      refine sv rfl (opv_ix (f := eGNetLink) si29 (fun _ => rfl) rfl rfl rfl rfl hu3) ?_
      refine sv rfl (opv_loadNe (ys := [.i .i64 u3.ID, .i .i64 u3.Client, .i .i64 u3.Conn]) ti69 rfl (.cp _) rfl rfl) ?_
      obtain ⟨v4, hv4, h⟩ := bind_eq h
      refine scallB (x' := .s (.one (.b v4))) (M' := [.box [.i .i64 a1], .box [.i .i64 a2]]) [0, 1] rfl fn36 (.fn _ _ _ _ rfl) (opnds_cons rfl opnds_nil) (m36_net_Open_1s_c hv4) rfl rfl (by decide) rfl rfl rfl ?_
      refine snil ?_
      refine ccond rfl (fun hc => ?_) (fun hc => ?_)
      · replace h := ite_t hc h
        clear hc
        refine cseq ?_
        refine cregion ?_
        refine sv rfl (opv_mv rfl) ?_
        refine sv rfl (opv_as rfl) ?_
        refine snil ?_
        refine cret ?_
        refine block_ret ?_
        refine then_ret ?_
        refine then_ret ?_
        refine block_ret ?_
        refine then_ret ?_
        obtain rfl := Option.some.inj h
        obtain rfl : Sum.inl _ = x2 := hk2
        replace ho2 : some _ = some _ := ho2
        obtain rfl := Option.some.inj ho2
        exact ⟨Or.inr rfl, _, [0, 1], [.one (.i .i64 s2)], [.box [.i .i64 a1], .box [.i .i64 a2]], (resVs_cons (ResV.tmp _ _ rfl) resVs_nil), rfl, rfl, ⟨by decide, rfl⟩, rfl, rfl, ⟨rfl, rfl⟩⟩
      · replace h := ite_f hc h
        clear hc
        refine cskip ?_
        refine block_normal ?_
        refine then_normal ?_
        refine cregion ?_
        refine sv rfl (opv_add rfl rfl) ?_
        refine sv rfl (opv_mv rfl) ?_
        refine snil ?_
        obtain rfl := Option.some.inj h
        exact ⟨(n2, (wI (s2 + 1))), _, hk2, ⟨rfl, rfl, rfl, rfl, trivial⟩, rfl, Nat.lt_succ_self _⟩
    · replace h := ite_f hc h
      clear hc
      refine cexit ?_
      refine then_exit ?_
      refine then_exit ?_
      refine block_hit ?_
      refine then_normal ?_
      obtain rfl := Option.some.inj h
      obtain rfl : _ = x2 := hk2
      exact ⟨(), _, ho2, trivial, rfl⟩

def m35_net_finds_k2 (a0 : GNetNet) (v1 : Int) (b2 : Unit) : Option (GNetLink × Bool) :=
  (idx a0.Links v1).bind fun u3 => some (u3, true)
def m35_net_finds (a0 : GNetNet) (a1 : Int) (a2 : Int) : Option (GNetLink × Bool) :=
  (m52_slices_IndexFuncs a0.Links a1 a2).bind fun v1 => if (decide (v1 < 0)) then (some ((GNetLink.mk 0 0 0), false)) else ((m30_net_Sane (GNetNet.mk a0.Links a0.Packets a0.Next)).bind fun v4 => if (!v4) then (some ((GNetLink.mk 0 0 0), false)) else (m35_net_finds_k2 a0 v1 ()))

set_option maxRecDepth 100000 in
theorem m35_net_finds_c {a0 : GNetNet} {a1 : Int} {a2 : Int} {r : GNetLink × Bool} (h : m35_net_finds a0 a1 a2 = some r) : CallsB Try.prog 35 [.box [.i .i64 a1], .box [.i .i64 a2]] [.agg a0, .one (.fn 36 [] [.lp 0 0, .lp 1 0])] (fun y m' => y = .tup [.agg r.1, .one (.b r.2)] ∧ m' = [.box [.i .i64 a1], .box [.i .i64 a2]]) := by
  unfold m35_net_finds at h
  refine callsB_of Try.func35 rfl (nt := 24) rfl (Nat.le_of_ble_eq_true rfl) ?_
  intro w0 S0 X0 H0
  refine cseq ?_
  refine cregion ?_
  refine sbox rfl rfl ?_
  refine salloc rfl zi69 ?_
  refine sv rfl (opv_as rfl) ?_
  refine snil ?_
  refine cseq ?_
  refine cregion ?_
  refine sv rfl (opv_fieldAddr_lp fi32_0 rfl) ?_
  refine sv rfl (opv_load1 ti29 rfl (.lp _ _ _ rfl) rfl) ?_
  refine sv rfl (opv_mv rfl) ?_
  obtain ⟨v1, hv1, h⟩ := bind_eq h
  refine scallB (x' := .s (.one (.i .i64 v1))) (M' := [.box [.i .i64 a1], .box [.i .i64 a2], .box a0, .box [.i .i64 0, .i .i64 0, .i .i64 0]]) [0, 1] rfl fn52 (.func _) (opnds_cons rfl (opnds_cons rfl opnds_nil)) (m52_slices_IndexFuncs_c hv1) rfl rfl (by decide) rfl rfl rfl ?_
  refine sv rfl (opv_as rfl) ?_
  refine snil ?_
  refine cseq ?_
  refine cseq ?_
  refine cjoin3 (Unit) (fun b2 => [(2, .s (.one (.lp 2 0))), (4, .s (.one (.lp 3 0))), (6, .s (.one (.i .i64 v1)))]) (fun b2 => [.box [.i .i64 a1], .box [.i .i64 a2], .box a0, .box [.i .i64 0, .i .i64 0, .i .i64 0]]) (fun b2 => m35_net_finds_k2 a0 v1 b2 = some r) (fun _ _ => inbL_of rfl) (fun _ _ => blkinb_of rfl) (fun _ _ => Nat.le_of_ble_eq_true rfl) (fun b2 h => ?_) ?_
  · unfold m35_net_finds_k2 at h
    refine cseq ?_
    refine cregion ?_
    refine sv rfl (opv_fieldAddr_lp fi32_0 rfl) ?_
    refine sv rfl (opv_load1 ti29 rfl (.lp _ _ _ rfl) rfl) ?_
    refine sv rfl (opv_mv rfl) ?_
    obtain ⟨u3, hu3, h⟩ := bind_eq h
    refine sv rfl (opv_ix (f := eGNetLink) si29 (fun _ => rfl) rfl rfl rfl rfl hu3) ?_
    refine sv rfl (opv_loadNe (ys := [.i .i64 u3.ID, .i .i64 u3.Client, .i .i64 u3.Conn]) ti69 rfl (.cp _) rfl rfl) ?_
    refine sstore sz69 rfl rfl rfl rfl (Nat.le_of_ble_eq_true rfl) ?_
    refine smem [.box [.i .i64 a1], .box [.i .i64 a2], .box a0, .box u3] rfl ?_
    refine sv rfl (opv_as rfl) ?_
    refine snil ?_
    refine cret ?_
    obtain rfl := Option.some.inj h
    exact ⟨Or.inr rfl, _, [0, 1], [.agg u3, .one (.b true)], [.box [.i .i64 a1], .box [.i .i64 a2]], (resVs_cons (ResV.agg _ _ _ _ _ ti69 rfl (.lp _ _ _ rfl) (Nat.le_of_ble_eq_true rfl)) (resVs_cons (ResV.tmp _ _ rfl) resVs_nil)), rfl, rfl, ⟨by decide, rfl⟩, rfl, rfl, ⟨rfl, rfl⟩⟩
  · skip
    refine cregion ?_
    refine sv rfl (opv_mv rfl) ?_
    refine sv rfl (opv_lss rfl rfl) ?_
    refine sv rfl (opv_mv rfl) ?_
    refine ssplit 13 rfl (fun hc => ?_) (fun hc => ?_)
    · replace h := ite_t hc h
      clear hc
      refine soff rfl rfl rfl rfl ?_
      refine soff rfl rfl rfl rfl ?_
      refine soff rfl rfl rfl rfl ?_
      refine sv rfl (opv_pick_t rfl rfl) ?_
      refine snil ?_
      refine ccond rfl (fun _ => ?_) (fun hx => Bool.noConfusion hx)
      refine cseq ?_
      refine cregion ?_
      refine sv rfl (opv_build zi69 pi69 parts_nil (.nil _)) ?_
      refine sstore sz69 rfl rfl rfl rfl (Nat.le_of_ble_eq_true rfl) ?_
      refine smem [.box [.i .i64 a1], .box [.i .i64 a2], .box a0, .box [.i .i64 0, .i .i64 0, .i .i64 0]] rfl ?_
      refine sv rfl (opv_as rfl) ?_
      refine snil ?_
      refine cret ?_
      refine then_ret ?_
      obtain rfl := Option.some.inj h
      exact ⟨Or.inr rfl, _, [0, 1], [.agg [.i .i64 0, .i .i64 0, .i .i64 0], .one (.b false)], [.box [.i .i64 a1], .box [.i .i64 a2]], (resVs_cons (ResV.agg _ _ _ _ _ ti69 rfl (.lp _ _ _ rfl) (Nat.le_of_ble_eq_true rfl)) (resVs_cons (ResV.tmp _ _ rfl) resVs_nil)), rfl, rfl, ⟨by decide, rfl⟩, rfl, rfl, ⟨rfl, rfl⟩⟩
    · replace h := ite_f hc h
      clear hc
      refine son rfl rfl rfl ?_
      refine sv rfl (opv_loadN ti32 rfl (.lp _ _ _ rfl) (Nat.le_of_ble_eq_true rfl)) ?_
      refine son rfl rfl rfl ?_
      obtain ⟨v4, hv4, h⟩ := bind_eq h
      refine scall1 rfl fn30 (opnds_cons rfl opnds_nil) (pubA_id rfl) (m30_net_Sane_c hv4) ?_
      refine son rfl rfl rfl ?_
      refine sv rfl (opv_not rfl) ?_
      refine sv rfl (opv_pick_f rfl rfl) ?_
      refine snil ?_
      refine ccond rfl (fun hc => ?_) (fun hc => ?_)
      · replace h := ite_t hc h
        clear hc
        refine cseq ?_
        refine cregion ?_
        refine sv rfl (opv_build zi69 pi69 parts_nil (.nil _)) ?_
        refine sstore sz69 rfl rfl rfl rfl (Nat.le_of_ble_eq_true rfl) ?_
        refine smem [.box [.i .i64 a1], .box [.i .i64 a2], .box a0, .box [.i .i64 0, .i .i64 0, .i .i64 0]] rfl ?_
        refine sv rfl (opv_as rfl) ?_
        refine snil ?_
        refine cret ?_
        refine then_ret ?_
        obtain rfl := Option.some.inj h
        exact ⟨Or.inr rfl, _, [0, 1], [.agg [.i .i64 0, .i .i64 0, .i .i64 0], .one (.b false)], [.box [.i .i64 a1], .box [.i .i64 a2]], (resVs_cons (ResV.agg _ _ _ _ _ ti69 rfl (.lp _ _ _ rfl) (Nat.le_of_ble_eq_true rfl)) (resVs_cons (ResV.tmp _ _ rfl) resVs_nil)), rfl, rfl, ⟨by decide, rfl⟩, rfl, rfl, ⟨rfl, rfl⟩⟩
      · replace h := ite_f hc h
        clear hc
        refine cskip ?_
        refine then_normal ?_
        exact ⟨(), _, h, ⟨rfl, rfl, rfl, trivial⟩, rfl⟩

def m53_slices_Growo_k1 (a0 : Int) (b1 : Unit) : Option (List GNetLink) :=
  if (decide (0 < (wI (a0 - (wI (0 - 0)))))) then (if 0 < (wI (a0 - (wI (0 - 0)))) ∧ (wI (a0 - (wI (0 - 0)))) * ((24 : Nat) : Int) ≤ 281474976710656 then (if (0 : Int) ≤ 0 ∧ 0 ≤ ((List.replicate (wI (a0 - (wI (0 - 0)))).toNat (GNetLink.mk 0 0 0)).length : Int) then (some ((List.replicate (wI (a0 - (wI (0 - 0)))).toNat (GNetLink.mk 0 0 0)).take (0 : Int).toNat)) else none) else none) else (some ([] : List GNetLink))
def m53_slices_Growo (a0 : Int) : Option (List GNetLink) :=
  if (decide (a0 < 0)) then none else (m53_slices_Growo_k1 a0 ())

set_option maxRecDepth 100000 in
theorem m53_slices_Growo_c {a0 : Int} {r : (List GNetLink)} (h : m53_slices_Growo a0 = some r) : CallsB Try.prog 53 [] [.one (.raw (.slice none 0 0)), .one (.i .i64 a0)] (fun y m' => y = .s (.one (.ls 0 r.length)) ∧ m' = [.arr 69 3 0 (r.flatMap eGNetLink)]) := by
  unfold m53_slices_Growo at h
  refine callsB_of Try.func53 rfl (nt := 27) rfl (Nat.le_of_ble_eq_true rfl) ?_
  intro w0 S0 X0 H0
  refine cseq ?_
  refine cregion ?_
  refine sv rfl (opv_as rfl) ?_
  refine snil ?_
  refine cseq ?_
  refine cseq ?_
  refine cregion ?_
  refine sv rfl (opv_mv rfl) ?_
  refine sv rfl (opv_lss rfl rfl) ?_
  refine snil ?_
  refine cjoin (Unit) (fun b1 => [(0, .s (.one (.raw (.slice none 0 0)))), (1, .s (.one (.i .i64 a0)))]) (fun b1 => []) (fun b1 => m53_slices_Growo_k1 a0 b1 = some r) (fun _ _ => inbL_of rfl) (fun _ _ => blkinb_of rfl) (fun _ _ => Nat.le_of_ble_eq_true rfl) (fun b1 h => ?_) ?_
  · unfold m53_slices_Growo_k1 at h
    refine cseq ?_
    refine cseq ?_
    refine cregion ?_
    refine sv rfl (opv_mv rfl) ?_
    refine sv rfl (opv_mv rfl) ?_
    refine sv rfl (opv_cap_nil si29 rfl) ?_
    refine sv rfl (opv_mv rfl) ?_
    refine sv rfl (opv_len_nil si29 rfl) ?_
    refine sv rfl (opv_sub rfl rfl) ?_
    refine sv rfl (opv_sub rfl rfl) ?_
    refine sv rfl (opv_as rfl) ?_
    refine snil ?_
    refine cseq ?_
    refine cregion ?_
    refine sv rfl (opv_mv rfl) ?_
    refine sv rfl (opv_gtr rfl rfl) ?_
    refine snil ?_
    refine ccond rfl (fun hc => ?_) (fun hc => ?_)
    · replace h := ite_t hc h
      clear hc
      refine cregion ?_
      refine sv rfl (opv_mv rfl) ?_
      refine sv rfl (opv_mv rfl) ?_
      refine sv rfl (opv_cap_nil si29 rfl) ?_
      refine sv rfl (opv_slice_nil si29 rfl rfl) ?_
      refine sv rfl (opv_mv rfl) ?_
      obtain ⟨hm2, h⟩ := chk_eq h
      refine sappz (f := eGNetLink) (z := (GNetLink.mk 0 0 0)) rfl Try.underlying29 ei69 Try.underlying3 (fun _ => rfl) rfl rfl rfl hm2 (by decide) ?_
      refine sv rfl (opv_mv rfl) ?_
      refine sv rfl (opv_len_nil si29 rfl) ?_
      obtain ⟨hs3, h⟩ := chk_eq h
      refine strunc (f := eGNetLink) rfl si29 (fun _ => rfl) rfl rfl rfl rfl rfl hs3 ?_
      refine sv rfl (opv_as rfl) ?_
      refine snil ?_
      refine cseq ?_
      refine cregion ?_
      refine sv rfl (opv_mv rfl) ?_
      refine sv rfl (opv_as rfl) ?_
      refine snil ?_
      refine cret ?_
      obtain rfl := Option.some.inj h
      exact ⟨Or.inr rfl, _, [1], [.one (.ls 0 ((List.replicate (wI (a0 - (wI (0 - 0)))).toNat (GNetLink.mk 0 0 0)).take (0 : Int).toNat).length)], [.arr 69 3 0 (((List.replicate (wI (a0 - (wI (0 - 0)))).toNat (GNetLink.mk 0 0 0)).take (0 : Int).toNat).flatMap eGNetLink)], (resVs_cons (ResV.tmp _ _ rfl) resVs_nil), rfl, rfl, ⟨by decide, rfl⟩, rfl, rfl, ⟨rfl, rfl⟩⟩
    · replace h := ite_f hc h
      clear hc
      refine cskip ?_
      refine then_normal ?_
      refine cseq ?_
      refine cregion ?_
      refine sv rfl (opv_mv rfl) ?_
      refine sv rfl (opv_as rfl) ?_
      refine snil ?_
      refine sadopt_c 69 3 4 (by decide) rfl ?_
      refine cret ?_
      obtain rfl := Option.some.inj h
      exact ⟨Or.inr rfl, _, [0], [.one (.ls 0 ([] : List GNetLink).length)], [.arr 69 3 0 (([] : List GNetLink).flatMap eGNetLink)], (resVs_cons (ResV.tmp _ _ rfl) resVs_nil), rfl, rfl, ⟨by decide, rfl⟩, rfl, rfl, ⟨rfl, rfl⟩⟩
  · skip
    refine ccond rfl (fun hc => ?_) (fun hc => ?_)
    · replace h := ite_t hc h
      clear hc
      cases h
    · replace h := ite_f hc h
      clear hc
      refine cskip ?_
      refine then_normal ?_
      exact ⟨(), _, h, ⟨rfl, rfl, trivial⟩, rfl⟩

def m37_slices_Concat_k3 (b3 : (List GNetLink)) : Option (List GNetLink) :=
  some b3

def m37_slices_Concat_s4 (a0 : List (List GNetLink)) (s4 : Int × (List GNetLink)) : Option (LB (Int × (List GNetLink)) ((List GNetLink))) :=
  if (decide (s4.1 < (a0.length : Int))) then ((idx a0 s4.1).bind fun u5 => if (s4.2.length + u5.length) * 24 ≤ 140737488355328 then (some (.cont ((wI (s4.1 + 1)), (s4.2 ++ u5)))) else none) else (some (.brk s4.2))

def m37_slices_Concat_k1 (a0 : List (List GNetLink)) (b1 : Int) : Option (List GNetLink) :=
  (m53_slices_Growo b1).bind fun v2 => (iterB (m37_slices_Concat_s4 a0) fuel (0, v2)).bind fun e7 => m37_slices_Concat_k3 e7

def m37_slices_Concat_s8 (a0 : List (List GNetLink)) (s8 : Int × Int) : Option (LB (Int × Int) (Int)) :=
  if (decide (s8.2 < (a0.length : Int))) then ((idx a0 s8.2).bind fun u9 => if (decide ((wI (s8.1 + (u9.length : Int))) < 0)) then none else (some (.cont ((wI (s8.1 + (u9.length : Int))), (wI (s8.2 + 1)))))) else (some (.brk s8.1))
def m37_slices_Concat (a0 : List (List GNetLink)) : Option (List GNetLink) :=
  (iterB (m37_slices_Concat_s8 a0) fuel (0, 0)).bind fun e10 => m37_slices_Concat_k1 a0 e10

set_option maxRecDepth 100000 in
theorem m37_slices_Concat_c {a0 : List (List GNetLink)} {r : (List GNetLink)} (h : m37_slices_Concat a0 = some r) : CallsA Try.prog 37 [.one (.sl a0.length (a0.flatMap (eL eGNetLink)))] (· = .s (.one (.sl r.length (r.flatMap eGNetLink)))) := by
  unfold m37_slices_Concat at h
  refine callsA_of Try.func37 rfl (nt := 36) rfl (Nat.le_of_ble_eq_true rfl) ?_
  intro w0 S0
  refine cseq ?_
  refine cregion ?_
  refine sv rfl (opv_as rfl) ?_
  refine snil ?_
  refine cseq ?_
  refine cregion ?_
  refine sv rfl (opv_as rfl) ?_
  refine snil ?_
  refine cseq ?_
  refine cseq ?_
  refine cregion ?_
  refine sv rfl (opv_mv rfl) ?_
  refine sv rfl (opv_len_sl si91 rfl) ?_
  refine sv rfl (opv_mv rfl) ?_
  refine snil ?_
  refine cjoin (Int) (fun b1 => [(0, .s (.one (.sl a0.length (a0.flatMap (eL eGNetLink))))), (3, .s (.one (.i .i64 b1)))]) (fun b1 => []) (fun b1 => m37_slices_Concat_k1 a0 b1 = some r) (fun _ _ => inbL_of rfl) (fun _ _ => blkinb_of rfl) (fun _ _ => Nat.le_of_ble_eq_true rfl) (fun b1 h => ?_) ?_
  · unfold m37_slices_Concat_k1 at h
    refine cseq ?_
    refine cregion ?_
    refine sv rfl (opv_mv rfl) ?_
    obtain ⟨v2, hv2, h⟩ := bind_eq h
    refine scallB (x' := .s (.one (.ls 0 v2.length))) (M' := [.arr 69 3 0 (v2.flatMap eGNetLink)]) [] rfl fn53 (.func _) (opnds_cons rfl (opnds_cons rfl opnds_nil)) (m53_slices_Growo_c hv2) rfl rfl (by decide) rfl rfl rfl ?_
    refine sv rfl (opv_as rfl) ?_
    refine snil ?_
    refine cseq ?_
    refine cseq ?_
    refine cregion ?_
    refine sv rfl (opv_mv rfl) ?_
    refine sv rfl (opv_len_sl si91 rfl) ?_
    refine sv rfl (opv_mv rfl) ?_
    refine snil ?_
    refine cjoin ((List GNetLink)) (fun b3 => [(6, .s (.one (.ls 0 b3.length)))]) (fun b3 => [.arr 69 3 0 (b3.flatMap eGNetLink)]) (fun b3 => m37_slices_Concat_k3 b3 = some r) (fun _ _ => inbL_of rfl) (fun _ _ => blkinb_of rfl) (fun _ _ => Nat.le_of_ble_eq_true rfl) (fun b3 h => ?_) ?_
    · unfold m37_slices_Concat_k3 at h
      refine cseq ?_
      refine cregion ?_
      refine sv rfl (opv_mv rfl) ?_
      refine sv rfl (opv_as rfl) ?_
      refine snil ?_
      refine cret ?_
      obtain rfl := Option.some.inj h
      refine ⟨Or.inr rfl, _, _, _, (resVs_cons (ResV.tmp _ _ rfl) resVs_nil), (by (repeat' first | exact PubA.nil _ | apply PubA.cons | apply PubV.one | apply PubV.agg | exact PubL.nil | exact PubL.ls _ _ _ _ _ _ rfl (flat_len (f := eGNetLink) (fun _ => rfl) _).symm | exact PubL.id _ rfl | exact PubLs.nil _ | apply PubLs.cons)), ?_⟩
      rfl
    · skip
      refine cblock ?_
      obtain ⟨x4, hx4, ho4⟩ := bind_eq h
      refine awc_loop (G := Nat × (Int × (List GNetLink))) (fun g => [(6, .s (.one (.ls 0 g.2.2.length))), (25, .s (.one (.sl a0.length (a0.flatMap (eL eGNetLink))))), (26, .s (.one (.i .i64 (a0.length : Int)))), (27, .s (.one (.i .i64 g.2.1)))]) (fun g => [.arr 69 3 0 (g.2.2.flatMap eGNetLink)]) (fun g => iterB (m37_slices_Concat_s4 a0) g.1 g.2 = some x4) (fun g => g.1) (fuel, (0, v2)) hx4 ⟨rfl, rfl, rfl, rfl, trivial⟩ [] rfl (fun _ _ => inbL_of rfl) (fun _ _ => blkinb_of rfl) (fun _ _ => Nat.le_of_ble_eq_true rfl) ?_
      clear hx4 h
      rintro ⟨n4, s4⟩ h
      obtain ⟨n4, y4, rfl, h, hk4⟩ := iterB_eq h
      unfold m37_slices_Concat_s4 at h
      refine cseq ?_
      refine cregion ?_
      refine sv rfl (opv_lss rfl rfl) ?_
      refine snil ?_
      refine cseq ?_
      refine ccond rfl (fun hc => ?_) (fun hc => ?_)
      · replace h := ite_t hc h
        clear hc
        refine cskip ?_
        refine then_normal ?_
        refine cseq ?_
        refine cblock ?_
        refine cseq ?_
        refine cregion ?_
        obtain ⟨u5, hu5, h⟩ := bind_eq h
        refine sv rfl (opv_ix (f := (eL eGNetLink)) si91 (fun _ => rfl) rfl rfl rfl rfl hu5) ?_
        refine sv rfl (opv_load1 ti29 rfl (.cp _) rfl) ?_
        refine sv rfl (opv_as rfl) ?_
        refine snil ?_
        refine cregion ?_
        refine sv rfl (opv_mv rfl) ?_
        refine sv rfl (opv_mv rfl) ?_
        obtain ⟨hb6, h⟩ := chk_eq h
        refine sapp (f := eGNetLink) (xs := s4.2) (us := u5) rfl Try.underlying29 ei69 ni29 (fun _ => rfl) rfl rfl (.one _ _ _ _ (.id _ rfl)) rfl rfl rfl (.sl _ _ _ (flat_len (f := eGNetLink) (fun _ => rfl) _)) rfl rfl hb6 (by decide) ?_
        refine sv rfl (opv_as rfl) ?_
        refine snil0 ?_
        refine block_normal ?_
        refine then_normal ?_
        refine cregion ?_
        refine sv rfl (opv_add rfl rfl) ?_
        refine sv rfl (opv_mv rfl) ?_
        refine snil ?_
        obtain rfl := Option.some.inj h
        exact ⟨(n4, ((wI (s4.1 + 1)), (s4.2 ++ u5))), _, hk4, ⟨rfl, rfl, rfl, rfl, trivial⟩, rfl, Nat.lt_succ_self _⟩
      · replace h := ite_f hc h
        clear hc
        refine cexit ?_
        refine then_exit ?_
        refine then_exit ?_
        refine block_hit ?_
        refine then_normal ?_
        obtain rfl := Option.some.inj h
        obtain rfl : _ = x4 := hk4
        exact ⟨s4.2, _, ho4, ⟨rfl, trivial⟩, rfl⟩
  · skip
    refine cblock ?_
    obtain ⟨x8, hx8, ho8⟩ := bind_eq h
    refine awc_loop (G := Nat × (Int × Int)) (fun g => [(0, .s (.one (.sl a0.length (a0.flatMap (eL eGNetLink))))), (3, .s (.one (.i .i64 g.2.1))), (9, .s (.one (.sl a0.length (a0.flatMap (eL eGNetLink))))), (10, .s (.one (.i .i64 (a0.length : Int)))), (11, .s (.one (.i .i64 g.2.2)))]) (fun g => []) (fun g => iterB (m37_slices_Concat_s8 a0) g.1 g.2 = some x8) (fun g => g.1) (fuel, (0, 0)) hx8 ⟨rfl, rfl, rfl, rfl, rfl, trivial⟩ [] rfl (fun _ _ => inbL_of rfl) (fun _ _ => blkinb_of rfl) (fun _ _ => Nat.le_of_ble_eq_true rfl) ?_
    clear hx8 h
    rintro ⟨n8, s8⟩ h
    obtain ⟨n8, y8, rfl, h, hk8⟩ := iterB_eq h
    unfold m37_slices_Concat_s8 at h
    refine cseq ?_
    refine cregion ?_
    refine sv rfl (opv_lss rfl rfl) ?_
    refine snil ?_
    refine cseq ?_
    refine ccond rfl (fun hc => ?_) (fun hc => ?_)
    · replace h := ite_t hc h
      clear hc
      refine cskip ?_
      refine then_normal ?_
      refine cseq ?_
      refine cblock ?_
      refine cseq ?_
      refine cregion ?_
      obtain ⟨u9, hu9, h⟩ := bind_eq h
      refine sv rfl (opv_ix (f := (eL eGNetLink)) si91 (fun _ => rfl) rfl rfl rfl rfl hu9) ?_
      refine sv rfl (opv_load1 ti29 rfl (.cp _) rfl) ?_
      refine sv rfl (opv_as rfl) ?_
      refine snil ?_
      refine cseq ?_
      refine cregion ?_
      refine sv rfl (opv_mv rfl) ?_
      refine sv rfl (opv_mv rfl) ?_
      refine sv rfl (opv_len_sl si29 rfl) ?_
      refine sv rfl (opv_add rfl rfl) ?_
      refine sv rfl (opv_as rfl) ?_
      refine snil ?_
      refine cseq ?_
      refine cregion ?_
      refine sv rfl (opv_mv rfl) ?_
      refine sv rfl (opv_lss rfl rfl) ?_
      refine snil ?_
      refine ccond rfl (fun hc => ?_) (fun hc => ?_)
      · replace h := ite_t hc h
        clear hc
        cases h
      · replace h := ite_f hc h
        clear hc
        refine cskip ?_
        refine block_normal ?_
        refine then_normal ?_
        refine cregion ?_
        refine sv rfl (opv_add rfl rfl) ?_
        refine sv rfl (opv_mv rfl) ?_
        refine snil ?_
        obtain rfl := Option.some.inj h
        exact ⟨(n8, ((wI (s8.1 + (u9.length : Int))), (wI (s8.2 + 1)))), _, hk8, ⟨rfl, rfl, rfl, rfl, rfl, trivial⟩, rfl, Nat.lt_succ_self _⟩
    · replace h := ite_f hc h
      clear hc
      refine cexit ?_
      refine then_exit ?_
      refine then_exit ?_
      refine block_hit ?_
      refine then_normal ?_
      obtain rfl := Option.some.inj h
      obtain rfl : _ = x8 := hk8
      exact ⟨s8.1, _, ho8, ⟨rfl, rfl, trivial⟩, rfl⟩

def m11_net_Open_k1 (a0 : GNetNet) (a1 : Int) (a2 : Int) (b1 : Unit) : Option (GNetNet × Int × Int) :=
  (m35_net_finds (GNetNet.mk a0.Links a0.Packets a0.Next) a1 a2).bind fun v2 => if v2.2 then (some ((GNetNet.mk ([] : List GNetLink) ([] : List GNetPacket) 0), 0, 7)) else (if (decide (1099511627776 ≤ a0.Next)) then (some ((GNetNet.mk ([] : List GNetLink) ([] : List GNetPacket) 0), 0, 11)) else (if (decide (8 ≤ (a0.Links.length : Int))) then (some ((GNetNet.mk ([] : List GNetLink) ([] : List GNetPacket) 0), 0, 8)) else ((m37_slices_Concat ([a0.Links, ([(GNetLink.mk a0.Next a1 a2)] : List GNetLink)] : List (List GNetLink))).bind fun v3 => some ((GNetNet.mk v3 a0.Packets (wI (a0.Next + 1))), a0.Next, 0))))
def m11_net_Open (a0 : GNetNet) (a1 : Int) (a2 : Int) : Option (GNetNet × Int × Int) :=
  (m30_net_Sane (GNetNet.mk a0.Links a0.Packets a0.Next)).bind fun v4 => if (!v4) then (some ((GNetNet.mk ([] : List GNetLink) ([] : List GNetPacket) 0), 0, 1)) else ((m34_net_saneLink a1 a2).bind fun v5 => if (!v5) then (some ((GNetNet.mk ([] : List GNetLink) ([] : List GNetPacket) 0), 0, 1)) else (m11_net_Open_k1 a0 a1 a2 ()))

set_option maxRecDepth 100000 in
theorem m11_net_Open_c {a0 : GNetNet} {a1 : Int} {a2 : Int} {r : GNetNet × Int × Int} (h : m11_net_Open a0 a1 a2 = some r) : CallsA Try.prog 11 [.agg a0, .one (.i .i64 a1), .one (.i .i64 a2)] (· = .tup [.agg r.1, .one (.i .i64 r.2.1), .one (.i .i64 r.2.2)]) := by
  unfold m11_net_Open at h
  refine callsA_of Try.func11 rfl (nt := 61) rfl (Nat.le_of_ble_eq_true rfl) ?_
  intro w0 S0
  refine cseq ?_
  refine cregion ?_
  refine sbox rfl rfl ?_
  refine sbox rfl rfl ?_
  refine sbox rfl rfl ?_
  refine salloc rfl zi32 ?_
  refine sv rfl (opv_as rfl) ?_
  refine sv rfl (opv_as rfl) ?_
  refine snil ?_
  refine cseq ?_
  refine cseq ?_
  refine cjoin3 (Unit) (fun b1 => [(3, .s (.one (.lp 0 0))), (4, .s (.one (.lp 1 0))), (5, .s (.one (.lp 2 0))), (6, .s (.one (.lp 3 0)))]) (fun b1 => [.box a0, .box [.i .i64 a1], .box [.i .i64 a2], .box [.raw (.slice none 0 0), .raw (.slice none 0 0), .i .i64 0]]) (fun b1 => m11_net_Open_k1 a0 a1 a2 b1 = some r) (fun _ _ => inbL_of rfl) (fun _ _ => blkinb_of rfl) (fun _ _ => Nat.le_of_ble_eq_true rfl) (fun b1 h => ?_) ?_
  · unfold m11_net_Open_k1 at h
    refine cseq ?_
    refine cregion ?_
    refine sv rfl (opv_loadN ti32 rfl (.lp _ _ _ rfl) (Nat.le_of_ble_eq_true rfl)) ?_
    refine sv rfl (opv_makeFunc opnds1_nil (opnds1_cons rfl rfl (opnds1_cons rfl rfl opnds1_nil))) ?_
    obtain ⟨v2, hv2, h⟩ := bind_eq h
    refine scallB (x' := .tup [.agg v2.1, .one (.b v2.2)]) (M' := [.box a0, .box [.i .i64 a1], .box [.i .i64 a2], .box [.raw (.slice none 0 0), .raw (.slice none 0 0), .i .i64 0]]) [1, 2] rfl fn35 (.func _) (opnds_cons rfl (opnds_cons rfl opnds_nil)) (m35_net_finds_c hv2) rfl rfl (by decide) rfl rfl rfl ?_
    refine sv rfl (opv_mvt rfl) ?_
    refine sv rfl (opv_extract rfl rfl) ?_
    refine sv rfl (opv_extract rfl rfl) ?_
    refine salloc rfl zi69 ?_
    refine sstore sz69 rfl rfl rfl rfl (Nat.le_of_ble_eq_true rfl) ?_
    refine smem [.box a0, .box [.i .i64 a1], .box [.i .i64 a2], .box [.raw (.slice none 0 0), .raw (.slice none 0 0), .i .i64 0], .box v2.1] rfl ?_
    refine sv rfl (opv_as rfl) ?_
    refine snil ?_
    refine cseq ?_
    refine cblock ?_
    refine cseq ?_
    refine cregion ?_
    refine sv rfl (opv_mv rfl) ?_
    refine sv rfl (opv_as rfl) ?_
    refine snil ?_
    refine ccond rfl (fun hc => ?_) (fun hc => ?_)
    · replace h := ite_t hc h
      clear hc
      refine cseq ?_
      refine cregion ?_
      refine sv rfl (opv_build zi32 pi32 parts_nil (.nil _)) ?_
      refine sstore sz32 rfl rfl rfl rfl (Nat.le_of_ble_eq_true rfl) ?_
      refine smem [.box a0, .box [.i .i64 a1], .box [.i .i64 a2], .box [.raw (.slice none 0 0), .raw (.slice none 0 0), .i .i64 0], .box v2.1] rfl ?_
      refine sv rfl (opv_as rfl) ?_
      refine sv rfl (opv_as rfl) ?_
      refine snil ?_
      refine cret ?_
      refine block_ret ?_
      refine then_ret ?_
      obtain rfl := Option.some.inj h
      refine ⟨Or.inr rfl, _, _, _, (resVs_cons (ResV.agg _ _ _ _ _ ti32 rfl (.lp _ _ _ rfl) (Nat.le_of_ble_eq_true rfl)) (resVs_cons (ResV.tmp _ _ rfl) (resVs_cons (ResV.tmp _ _ rfl) resVs_nil))), (pubC rfl), ?_⟩
      rfl
    · replace h := ite_f hc h
      clear hc
      refine cseq ?_
      refine cregion ?_
      refine sv rfl (opv_fieldAddr_lp fi32_2 rfl) ?_
      refine sv rfl (opv_load1 ti3 rfl (.lp _ _ _ rfl) rfl) ?_
      refine sv rfl (opv_geq rfl rfl) ?_
      refine sv rfl (opv_as rfl) ?_
      refine snil ?_
      refine ccond rfl (fun hc => ?_) (fun hc => ?_)
      · replace h := ite_t hc h
        clear hc
        refine cseq ?_
        refine cregion ?_
        refine sv rfl (opv_build zi32 pi32 parts_nil (.nil _)) ?_
        refine sstore sz32 rfl rfl rfl rfl (Nat.le_of_ble_eq_true rfl) ?_
        refine smem [.box a0, .box [.i .i64 a1], .box [.i .i64 a2], .box [.raw (.slice none 0 0), .raw (.slice none 0 0), .i .i64 0], .box v2.1] rfl ?_
        refine sv rfl (opv_as rfl) ?_
        refine sv rfl (opv_as rfl) ?_
        refine snil ?_
        refine cret ?_
        refine block_ret ?_
        refine then_ret ?_
        obtain rfl := Option.some.inj h
        refine ⟨Or.inr rfl, _, _, _, (resVs_cons (ResV.agg _ _ _ _ _ ti32 rfl (.lp _ _ _ rfl) (Nat.le_of_ble_eq_true rfl)) (resVs_cons (ResV.tmp _ _ rfl) (resVs_cons (ResV.tmp _ _ rfl) resVs_nil))), (pubC rfl), ?_⟩
        rfl
      · replace h := ite_f hc h
        clear hc
        refine cseq ?_
        refine cregion ?_
        refine sv rfl (opv_fieldAddr_lp fi32_0 rfl) ?_
        refine sv rfl (opv_load1 ti29 rfl (.lp _ _ _ rfl) rfl) ?_
        refine sv rfl (opv_len_sl si29 rfl) ?_
        refine sv rfl (opv_geq rfl rfl) ?_
        refine sv rfl (opv_as rfl) ?_
        refine snil ?_
        refine ccond rfl (fun hc => ?_) (fun hc => ?_)
        · replace h := ite_t hc h
          clear hc
          refine cseq ?_
          refine cregion ?_
          refine sv rfl (opv_build zi32 pi32 parts_nil (.nil _)) ?_
          refine sstore sz32 rfl rfl rfl rfl (Nat.le_of_ble_eq_true rfl) ?_
          refine smem [.box a0, .box [.i .i64 a1], .box [.i .i64 a2], .box [.raw (.slice none 0 0), .raw (.slice none 0 0), .i .i64 0], .box v2.1] rfl ?_
          refine sv rfl (opv_as rfl) ?_
          refine sv rfl (opv_as rfl) ?_
          refine snil ?_
          refine cret ?_
          refine block_ret ?_
          refine then_ret ?_
          obtain rfl := Option.some.inj h
          refine ⟨Or.inr rfl, _, _, _, (resVs_cons (ResV.agg _ _ _ _ _ ti32 rfl (.lp _ _ _ rfl) (Nat.le_of_ble_eq_true rfl)) (resVs_cons (ResV.tmp _ _ rfl) (resVs_cons (ResV.tmp _ _ rfl) resVs_nil))), (pubC rfl), ?_⟩
          rfl
        · replace h := ite_f hc h
          clear hc
          refine cskip ?_
          refine block_normal ?_
          refine then_normal ?_
          refine cseq ?_
          refine cregion ?_
          refine sv rfl (opv_fieldAddr_lp fi32_2 rfl) ?_
          refine sv rfl (opv_load1 ti3 rfl (.lp _ _ _ rfl) rfl) ?_
          refine sv rfl (opv_load1 ti3 rfl (.lp _ _ _ rfl) rfl) ?_
          refine sv rfl (opv_load1 ti3 rfl (.lp _ _ _ rfl) rfl) ?_
          refine sv rfl (opv_build zi69 pi69 (parts_cons rfl (parts_cons rfl (parts_cons rfl parts_nil))) (.cons _ _ _ _ _ _ _ rfl rfl (Nat.le_of_ble_eq_true rfl) (.cons _ _ _ _ _ _ _ rfl rfl (Nat.le_of_ble_eq_true rfl) (.cons _ _ _ _ _ _ _ rfl rfl (Nat.le_of_ble_eq_true rfl) (.nil _))))) ?_
          refine salloc rfl zi69 ?_
          refine sstore sz69 rfl rfl rfl rfl (Nat.le_of_ble_eq_true rfl) ?_
          refine smem [.box a0, .box [.i .i64 a1], .box [.i .i64 a2], .box [.raw (.slice none 0 0), .raw (.slice none 0 0), .i .i64 0], .box v2.1, .box [.i .i64 a0.Next, .i .i64 a1, .i .i64 a2]] rfl ?_
          refine snil ?_
          refine cseq ?_
          obtain ⟨v3, hv3, h⟩ := bind_eq h
          refine cdraw_e [14] [0, 1, 0, 4, 15, 31, 0, 64, 0, 256, 768, 2047, 0, 4096, 4095, 32767, 65535] [[.box a0, .box [.i .i64 a1], .box [.i .i64 a2], .box [.raw (.slice none 0 0), .raw (.slice none 0 0), .i .i64 0], .box v2.1, .box [.i .i64 a0.Next, .i .i64 a1, .i .i64 a2]], [.box a0, .box [.i .i64 a1], .box [.i .i64 a2], .box [.sl v3.length (v3.flatMap eGNetLink), .sl a0.Packets.length (a0.Packets.flatMap eGNetPacket), .i .i64 (wI (a0.Next + 1))], .box v2.1, .box [.i .i64 a0.Next, .i .i64 a1, .i .i64 a2]]] (by kernel_rfl) mixed (by kernel_rfl) (by decide) rfl rfl rfl rfl ?_
          refine ev (sees_at 0 rfl rfl) rfl rfl (opv_fieldAddr_lp fi32_0 rfl) ?_
          refine ev (sees_at 0 rfl rfl) rfl rfl (opv_load1 ti29 rfl (.lp _ _ _ rfl) rfl) ?_
          refine ev (sees_at 0 rfl rfl) rfl rfl (opv_loadN ti69 rfl (.lp _ _ _ rfl) (Nat.le_of_ble_eq_true rfl)) ?_
          refine ed (sees_at 0 rfl rfl) rfl rfl (opD_bld (out := ([(GNetLink.mk a0.Next a1 a2)] : List GNetLink).flatMap eGNetLink) Try.underlying29 ei69 (parts_cons rfl parts_nil) (.cons _ _ _ _ _ _ _ rfl rfl (Nat.le_of_ble_eq_true rfl) (.nil _)) rfl (by decide)) ?_
          refine ed (sees_at 0 rfl rfl) rfl rfl (opD_bld (out := ([a0.Links, ([(GNetLink.mk a0.Next a1 a2)] : List GNetLink)] : List (List GNetLink)).flatMap (eL eGNetLink)) Try.underlying91 ei29 (parts_cons rfl (parts_cons rfl parts_nil)) (.cons _ _ _ _ _ _ _ rfl rfl (Nat.le_of_ble_eq_true rfl) (.cons _ _ _ _ _ _ _ rfl rfl (Nat.le_of_ble_eq_true rfl) (.nil _))) rfl (by decide)) ?_
          refine ed (sees_at 0 rfl rfl) rfl rfl (opD_call fn37 (opnds_cons rfl opnds_nil) rfl (m37_slices_Concat_c hv3)) ?_
          refine ev (sees_at 0 rfl rfl) rfl rfl (opv_fieldAddr_lp fi32_1 rfl) ?_
          refine ev (sees_at 0 rfl rfl) rfl rfl (opv_load1 ti30 rfl (.lp _ _ _ rfl) rfl) ?_
          refine ev (sees_at 0 rfl rfl) rfl rfl (opv_fieldAddr_lp fi32_2 rfl) ?_
          refine ev (sees_at 0 rfl rfl) rfl rfl (opv_load1 ti3 rfl (.lp _ _ _ rfl) rfl) ?_
          refine ev (sees_at 0 rfl rfl) rfl rfl (opv_add rfl rfl) ?_
          refine ev (sees_at 0 rfl rfl) rfl rfl (opv_build zi32 pi32 (parts_cons rfl (parts_cons rfl (parts_cons rfl parts_nil))) (.cons _ _ _ _ _ _ _ rfl rfl (Nat.le_of_ble_eq_true rfl) (.cons _ _ _ _ _ _ _ rfl rfl (Nat.le_of_ble_eq_true rfl) (.cons _ _ _ _ _ _ _ rfl rfl (Nat.le_of_ble_eq_true rfl) (.nil _))))) ?_
          refine ev (sees_all (md := [.box a0, .box [.i .i64 a1], .box [.i .i64 a2], .dead, .box v2.1, .box [.i .i64 a0.Next, .i .i64 a1, .i .i64 a2]]) ⟨⟨rfl, ⟨rfl, ⟨rfl, ⟨trivial, ⟨rfl, ⟨rfl, trivial⟩⟩⟩⟩⟩⟩, ⟨⟨rfl, ⟨rfl, ⟨rfl, ⟨trivial, ⟨rfl, ⟨rfl, trivial⟩⟩⟩⟩⟩⟩, trivial⟩⟩) rfl rfl (opv_fieldAddr_lp fi69_0 rfl) ?_
          refine ev (sees_all (md := [.box a0, .box [.i .i64 a1], .box [.i .i64 a2], .dead, .box v2.1, .box [.i .i64 a0.Next, .i .i64 a1, .i .i64 a2]]) ⟨⟨rfl, ⟨rfl, ⟨rfl, ⟨trivial, ⟨rfl, ⟨rfl, trivial⟩⟩⟩⟩⟩⟩, ⟨⟨rfl, ⟨rfl, ⟨rfl, ⟨trivial, ⟨rfl, ⟨rfl, trivial⟩⟩⟩⟩⟩⟩, trivial⟩⟩) rfl rfl (opv_load1 ti3 rfl (.lp _ _ _ rfl) rfl) ?_
          refine ee0 0 rfl rfl rfl rfl (fun ζ => ?_) ?_
          · refine sstore sz32 rfl rfl rfl rfl (Nat.le_of_ble_eq_true rfl) ?_
            refine smem [.box a0, .box [.i .i64 a1], .box [.i .i64 a2], .box [.sl v3.length (v3.flatMap eGNetLink), .sl a0.Packets.length (a0.Packets.flatMap eGNetPacket), .i .i64 (wI (a0.Next + 1))], .box v2.1, .box [.i .i64 a0.Next, .i .i64 a1, .i .i64 a2]] rfl ?_
            exact eend
          refine ev (sees_at 1 rfl rfl) rfl rfl (opv_as rfl) ?_
          refine ev (sees_at 1 rfl rfl) rfl rfl (opv_as rfl) ?_
          refine enil ?_
          refine then_normal ?_
          refine cret ?_
          obtain rfl := Option.some.inj h
          refine ⟨Or.inr rfl, _, _, _, (resVs_cons (ResV.agg _ _ _ _ _ ti32 rfl (.lp _ _ _ rfl) (Nat.le_of_ble_eq_true rfl)) (resVs_cons (ResV.tmp _ _ rfl) (resVs_cons (ResV.tmp _ _ rfl) resVs_nil))), (pubA_id rfl), ?_⟩
          rfl
  · skip
    refine cregion ?_
    refine sv rfl (opv_loadN ti32 rfl (.lp _ _ _ rfl) (Nat.le_of_ble_eq_true rfl)) ?_
    obtain ⟨v4, hv4, h⟩ := bind_eq h
    refine scall1 rfl fn30 (opnds_cons rfl opnds_nil) (pubA_id rfl) (m30_net_Sane_c hv4) ?_
    refine sv rfl (opv_not rfl) ?_
    refine sv rfl (opv_mv rfl) ?_
    refine ssplit 15 rfl (fun hc => ?_) (fun hc => ?_)
    · replace h := ite_t hc h
      clear hc
      refine soff rfl rfl rfl rfl ?_
      refine soff rfl rfl rfl rfl ?_
      refine soff rfl rfl rfl rfl ?_
      refine soff rfl rfl rfl rfl ?_
      refine sv rfl (opv_pick_t rfl rfl) ?_
      refine snil ?_
      refine ccond rfl (fun _ => ?_) (fun hx => Bool.noConfusion hx)
      refine cseq ?_
      refine cregion ?_
      refine sv rfl (opv_build zi32 pi32 parts_nil (.nil _)) ?_
      refine sstore sz32 rfl rfl rfl rfl (Nat.le_of_ble_eq_true rfl) ?_
      refine smem [.box a0, .box [.i .i64 a1], .box [.i .i64 a2], .box [.raw (.slice none 0 0), .raw (.slice none 0 0), .i .i64 0]] rfl ?_
      refine sv rfl (opv_as rfl) ?_
      refine sv rfl (opv_as rfl) ?_
      refine snil ?_
      refine cret ?_
      refine then_ret ?_
      obtain rfl := Option.some.inj h
      refine ⟨Or.inr rfl, _, _, _, (resVs_cons (ResV.agg _ _ _ _ _ ti32 rfl (.lp _ _ _ rfl) (Nat.le_of_ble_eq_true rfl)) (resVs_cons (ResV.tmp _ _ rfl) (resVs_cons (ResV.tmp _ _ rfl) resVs_nil))), (pubC rfl), ?_⟩
      rfl
    · replace h := ite_f hc h
      clear hc
      refine son rfl rfl rfl ?_
      refine sv rfl (opv_load1 ti3 rfl (.lp _ _ _ rfl) rfl) ?_
      refine son rfl rfl rfl ?_
      refine sv rfl (opv_load1 ti3 rfl (.lp _ _ _ rfl) rfl) ?_
      refine son rfl rfl rfl ?_
      obtain ⟨v5, hv5, h⟩ := bind_eq h
      refine scall1 rfl fn34 (opnds_cons rfl (opnds_cons rfl opnds_nil)) (pubA_id rfl) (m34_net_saneLink_c hv5) ?_
      refine son rfl rfl rfl ?_
      refine sv rfl (opv_not rfl) ?_
      refine sv rfl (opv_pick_f rfl rfl) ?_
      refine snil ?_
      refine ccond rfl (fun hc => ?_) (fun hc => ?_)
      · replace h := ite_t hc h
        clear hc
        refine cseq ?_
        refine cregion ?_
        refine sv rfl (opv_build zi32 pi32 parts_nil (.nil _)) ?_
        refine sstore sz32 rfl rfl rfl rfl (Nat.le_of_ble_eq_true rfl) ?_
        refine smem [.box a0, .box [.i .i64 a1], .box [.i .i64 a2], .box [.raw (.slice none 0 0), .raw (.slice none 0 0), .i .i64 0]] rfl ?_
        refine sv rfl (opv_as rfl) ?_
        refine sv rfl (opv_as rfl) ?_
        refine snil ?_
        refine cret ?_
        refine then_ret ?_
        obtain rfl := Option.some.inj h
        refine ⟨Or.inr rfl, _, _, _, (resVs_cons (ResV.agg _ _ _ _ _ ti32 rfl (.lp _ _ _ rfl) (Nat.le_of_ble_eq_true rfl)) (resVs_cons (ResV.tmp _ _ rfl) (resVs_cons (ResV.tmp _ _ rfl) resVs_nil))), (pubC rfl), ?_⟩
        rfl
      · replace h := ite_f hc h
        clear hc
        refine cskip ?_
        refine then_normal ?_
        exact ⟨(), _, h, ⟨rfl, rfl, rfl, rfl, trivial⟩, rfl⟩

def m40_net_Send_1s (a0 : GNetLink) (a1 : Int) : Option Bool :=
  some (decide (a0.ID = a1))

set_option maxRecDepth 100000 in
theorem m40_net_Send_1s_c {a0 : GNetLink} {a1 : Int} {r : Bool} (h : m40_net_Send_1s a0 a1 = some r) : CallsB Try.prog 40 [.box [.i .i64 a1]] [.agg a0, .one (.lp 0 0)] (fun y m' => y = .s (.one (.b r)) ∧ m' = [.box [.i .i64 a1]]) := by
  unfold m40_net_Send_1s at h
  refine callsB_of Try.func40 rfl (nt := 8) rfl (Nat.le_of_ble_eq_true rfl) ?_
  intro w0 S0 X0 H0
  refine cseq ?_
  refine cregion ?_
  refine sbox rfl rfl ?_
  refine sv rfl (opv_as rfl) ?_
  refine snil ?_
  refine cseq ?_
  refine cregion ?_
  refine sv rfl (opv_fieldAddr_lp fi69_0 rfl) ?_
  refine sv rfl (opv_load1 ti3 rfl (.lp _ _ _ rfl) rfl) ?_
  refine sv rfl (opv_load1 ti3 rfl (.lp _ _ _ rfl) rfl) ?_
  refine sv rfl (opv_ieql rfl rfl) ?_
  refine sv rfl (opv_as rfl) ?_
  refine snil ?_
  refine cret ?_
  obtain rfl := Option.some.inj h
  exact ⟨Or.inr rfl, _, [0], [.one (.b (decide (a0.ID = a1)))], [.box [.i .i64 a1]], (resVs_cons (ResV.tmp _ _ rfl) resVs_nil), rfl, rfl, ⟨by decide, rfl⟩, rfl, rfl, ⟨rfl, rfl⟩⟩

def m52_slices_IndexFuncs1_k1 (b1 : Unit) : Option Int :=
  some (-1)

def m52_slices_IndexFuncs1_s2 (a0 : List GNetLink) (a1 : Int) (s2 : Int) : Option (LR (Int) (Unit) (Int)) :=
  if (decide (s2 < (a0.length : Int))) then ((idx a0 s2).bind fun u3 => (m40_net_Send_1s u3 a1).bind fun v4 => if v4 then (some (.ret s2)) else (some (.cont (wI (s2 + 1))))) else (some (.brk ()))
def m52_slices_IndexFuncs1 (a0 : List GNetLink) (a1 : Int) : Option Int :=
  (iter (m52_slices_IndexFuncs1_s2 a0 a1) fuel 0).bind fun x => match x with | .inl r => some r | .inr e5 => m52_slices_IndexFuncs1_k1 e5

set_option maxRecDepth 100000 in
theorem m52_slices_IndexFuncs1_c {a0 : List GNetLink} {a1 : Int} {r : Int} (h : m52_slices_IndexFuncs1 a0 a1 = some r) : CallsB Try.prog 52 [.box [.i .i64 a1]] [.one (.sl a0.length (a0.flatMap eGNetLink)), .one (.fn 40 [] [.lp 0 0])] (fun y m' => y = .s (.one (.i .i64 r)) ∧ m' = [.box [.i .i64 a1]]) := by
  unfold m52_slices_IndexFuncs1 at h
  refine callsB_of Try.func52 rfl (nt := 19) rfl (Nat.le_of_ble_eq_true rfl) ?_
  intro w0 S0 X0 H0
  refine cseq ?_
  refine cregion ?_
  refine sv rfl (opv_as rfl) ?_
  refine snil ?_
  refine cseq ?_
  refine cseq ?_
  refine cregion ?_
  refine sv rfl (opv_mv rfl) ?_
  refine sv rfl (opv_len_sl si29 rfl) ?_
  refine sv rfl (opv_mv rfl) ?_
  refine snil ?_
  refine cjoin (Unit) (fun b1 => []) (fun b1 => [.box [.i .i64 a1]]) (fun b1 => m52_slices_IndexFuncs1_k1 b1 = some r) (fun _ _ => inbL_of rfl) (fun _ _ => blkinb_of rfl) (fun _ _ => Nat.le_of_ble_eq_true rfl) (fun b1 h => ?_) ?_
  · unfold m52_slices_IndexFuncs1_k1 at h
    refine cseq ?_
    refine cregion ?_
    refine sv rfl (opv_as rfl) ?_
    refine snil ?_
    refine cret ?_
    obtain rfl := Option.some.inj h
    exact ⟨Or.inr rfl, _, [0], [.one (.i .i64 (-1))], [.box [.i .i64 a1]], (resVs_cons (ResV.tmp _ _ rfl) resVs_nil), rfl, rfl, ⟨by decide, rfl⟩, rfl, rfl, ⟨rfl, rfl⟩⟩
  · skip
    refine cblock ?_
    obtain ⟨x2, hx2, ho2⟩ := bind_eq h
    refine awc_loop (G := Nat × (Int)) (fun g => [(0, .s (.one (.sl a0.length (a0.flatMap eGNetLink)))), (1, .s (.one (.fn 40 [] [.lp 0 0]))), (7, .s (.one (.i .i64 (a0.length : Int)))), (8, .s (.one (.i .i64 g.2)))]) (fun g => [.box [.i .i64 a1]]) (fun g => iter (m52_slices_IndexFuncs1_s2 a0 a1) g.1 g.2 = some x2) (fun g => g.1) (fuel, 0) hx2 ⟨rfl, rfl, rfl, rfl, trivial⟩ [] rfl (fun _ _ => inbL_of rfl) (fun _ _ => blkinb_of rfl) (fun _ _ => Nat.le_of_ble_eq_true rfl) ?_
    clear hx2 h
    rintro ⟨n2, s2⟩ h
    obtain ⟨n2, y2, rfl, h, hk2⟩ := iter_eq h
    unfold m52_slices_IndexFuncs1_s2 at h
    refine cseq ?_
    refine cregion ?_
    refine sv rfl (opv_lss rfl rfl) ?_
    refine snil ?_
    refine cseq ?_
    refine ccond rfl (fun hc => ?_) (fun hc => ?_)
    · replace h := ite_t hc h
      clear hc
      refine cskip ?_
      refine then_normal ?_
      refine cseq ?_
      refine cblock ?_
      refine cseq ?_
      refine cregion ?_
      refine sv rfl (opv_mv rfl) ?_
      refine sv rfl (opv_as rfl) ?_
      refine snil ?_
      refine cseq ?_
      refine cregion ?_
      refine sv rfl (opv_mv rfl) ?_
      refine sv rfl (opv_mv rfl) ?_
      refine sv rfl (opv_mv rfl) ?_
      obtain ⟨u3, hu3, h⟩ := bind_eq h
      refine sv rfl (opv_ix (f := eGNetLink) si29 (fun _ => rfl) rfl rfl rfl rfl hu3) ?_
      refine sv rfl (opv_loadNe (ys := [.i .i64 u3.ID, .i .i64 u3.Client, .i .i64 u3.Conn]) ti69 rfl (.cp _) rfl rfl) ?_
      obtain ⟨v4, hv4, h⟩ := bind_eq h
      refine scallB (x' := .s (.one (.b v4))) (M' := [.box [.i .i64 a1]]) [0] rfl fn40 (.fn _ _ _ _ rfl) (opnds_cons rfl opnds_nil) (m40_net_Send_1s_c hv4) rfl rfl (by decide) rfl rfl rfl ?_
      refine snil ?_
      refine ccond rfl (fun hc => ?_) (fun hc => ?_)
      · replace h := ite_t hc h
        clear hc
        refine cseq ?_
        refine cregion ?_
        refine sv rfl (opv_mv rfl) ?_
        refine sv rfl (opv_as rfl) ?_
        refine snil ?_
        refine cret ?_
        refine block_ret ?_
        refine then_ret ?_
        refine then_ret ?_
        refine block_ret ?_
        refine then_ret ?_
        obtain rfl := Option.some.inj h
        obtain rfl : Sum.inl _ = x2 := hk2
        replace ho2 : some _ = some _ := ho2
        obtain rfl := Option.some.inj ho2
        exact ⟨Or.inr rfl, _, [0], [.one (.i .i64 s2)], [.box [.i .i64 a1]], (resVs_cons (ResV.tmp _ _ rfl) resVs_nil), rfl, rfl, ⟨by decide, rfl⟩, rfl, rfl, ⟨rfl, rfl⟩⟩
      · replace h := ite_f hc h
        clear hc
        refine cskip ?_
        refine block_normal ?_
        refine then_normal ?_
        refine cregion ?_
        refine sv rfl (opv_add rfl rfl) ?_
        refine sv rfl (opv_mv rfl) ?_
        refine snil ?_
        obtain rfl := Option.some.inj h
        exact ⟨(n2, (wI (s2 + 1))), _, hk2, ⟨rfl, rfl, rfl, rfl, trivial⟩, rfl, Nat.lt_succ_self _⟩
    · replace h := ite_f hc h
      clear hc
      refine cexit ?_
      refine then_exit ?_
      refine then_exit ?_
      refine block_hit ?_
      refine then_normal ?_
      obtain rfl := Option.some.inj h
      obtain rfl : _ = x2 := hk2
      exact ⟨(), _, ho2, trivial, rfl⟩

def m35_net_finds1_k2 (a0 : GNetNet) (v1 : Int) (b2 : Unit) : Option (GNetLink × Bool) :=
  (idx a0.Links v1).bind fun u3 => some (u3, true)
def m35_net_finds1 (a0 : GNetNet) (a1 : Int) : Option (GNetLink × Bool) :=
  (m52_slices_IndexFuncs1 a0.Links a1).bind fun v1 => if (decide (v1 < 0)) then (some ((GNetLink.mk 0 0 0), false)) else ((m30_net_Sane (GNetNet.mk a0.Links a0.Packets a0.Next)).bind fun v4 => if (!v4) then (some ((GNetLink.mk 0 0 0), false)) else (m35_net_finds1_k2 a0 v1 ()))

set_option maxRecDepth 100000 in
theorem m35_net_finds1_c {a0 : GNetNet} {a1 : Int} {r : GNetLink × Bool} (h : m35_net_finds1 a0 a1 = some r) : CallsB Try.prog 35 [.box [.i .i64 a1]] [.agg a0, .one (.fn 40 [] [.lp 0 0])] (fun y m' => y = .tup [.agg r.1, .one (.b r.2)] ∧ m' = [.box [.i .i64 a1]]) := by
  unfold m35_net_finds1 at h
  refine callsB_of Try.func35 rfl (nt := 24) rfl (Nat.le_of_ble_eq_true rfl) ?_
  intro w0 S0 X0 H0
  refine cseq ?_
  refine cregion ?_
  refine sbox rfl rfl ?_
  refine salloc rfl zi69 ?_
  refine sv rfl (opv_as rfl) ?_
  refine snil ?_
  refine cseq ?_
  refine cregion ?_
  refine sv rfl (opv_fieldAddr_lp fi32_0 rfl) ?_
  refine sv rfl (opv_load1 ti29 rfl (.lp _ _ _ rfl) rfl) ?_
  refine sv rfl (opv_mv rfl) ?_
  obtain ⟨v1, hv1, h⟩ := bind_eq h
  refine scallB (x' := .s (.one (.i .i64 v1))) (M' := [.box [.i .i64 a1], .box a0, .box [.i .i64 0, .i .i64 0, .i .i64 0]]) [0] rfl fn52 (.func _) (opnds_cons rfl (opnds_cons rfl opnds_nil)) (m52_slices_IndexFuncs1_c hv1) rfl rfl (by decide) rfl rfl rfl ?_
  refine sv rfl (opv_as rfl) ?_
  refine snil ?_
  refine cseq ?_
  refine cseq ?_
  refine cjoin3 (Unit) (fun b2 => [(2, .s (.one (.lp 1 0))), (4, .s (.one (.lp 2 0))), (6, .s (.one (.i .i64 v1)))]) (fun b2 => [.box [.i .i64 a1], .box a0, .box [.i .i64 0, .i .i64 0, .i .i64 0]]) (fun b2 => m35_net_finds1_k2 a0 v1 b2 = some r) (fun _ _ => inbL_of rfl) (fun _ _ => blkinb_of rfl) (fun _ _ => Nat.le_of_ble_eq_true rfl) (fun b2 h => ?_) ?_
  · unfold m35_net_finds1_k2 at h
    refine cseq ?_
    refine cregion ?_
    refine sv rfl (opv_fieldAddr_lp fi32_0 rfl) ?_
    refine sv rfl (opv_load1 ti29 rfl (.lp _ _ _ rfl) rfl) ?_
    refine sv rfl (opv_mv rfl) ?_
    obtain ⟨u3, hu3, h⟩ := bind_eq h
    refine sv rfl (opv_ix (f := eGNetLink) si29 (fun _ => rfl) rfl rfl rfl rfl hu3) ?_
    refine sv rfl (opv_loadNe (ys := [.i .i64 u3.ID, .i .i64 u3.Client, .i .i64 u3.Conn]) ti69 rfl (.cp _) rfl rfl) ?_
    refine sstore sz69 rfl rfl rfl rfl (Nat.le_of_ble_eq_true rfl) ?_
    refine smem [.box [.i .i64 a1], .box a0, .box u3] rfl ?_
    refine sv rfl (opv_as rfl) ?_
    refine snil ?_
    refine cret ?_
    obtain rfl := Option.some.inj h
    exact ⟨Or.inr rfl, _, [0], [.agg u3, .one (.b true)], [.box [.i .i64 a1]], (resVs_cons (ResV.agg _ _ _ _ _ ti69 rfl (.lp _ _ _ rfl) (Nat.le_of_ble_eq_true rfl)) (resVs_cons (ResV.tmp _ _ rfl) resVs_nil)), rfl, rfl, ⟨by decide, rfl⟩, rfl, rfl, ⟨rfl, rfl⟩⟩
  · skip
    refine cregion ?_
    refine sv rfl (opv_mv rfl) ?_
    refine sv rfl (opv_lss rfl rfl) ?_
    refine sv rfl (opv_mv rfl) ?_
    refine ssplit 13 rfl (fun hc => ?_) (fun hc => ?_)
    · replace h := ite_t hc h
      clear hc
      refine soff rfl rfl rfl rfl ?_
      refine soff rfl rfl rfl rfl ?_
      refine soff rfl rfl rfl rfl ?_
      refine sv rfl (opv_pick_t rfl rfl) ?_
      refine snil ?_
      refine ccond rfl (fun _ => ?_) (fun hx => Bool.noConfusion hx)
      refine cseq ?_
      refine cregion ?_
      refine sv rfl (opv_build zi69 pi69 parts_nil (.nil _)) ?_
      refine sstore sz69 rfl rfl rfl rfl (Nat.le_of_ble_eq_true rfl) ?_
      refine smem [.box [.i .i64 a1], .box a0, .box [.i .i64 0, .i .i64 0, .i .i64 0]] rfl ?_
      refine sv rfl (opv_as rfl) ?_
      refine snil ?_
      refine cret ?_
      refine then_ret ?_
      obtain rfl := Option.some.inj h
      exact ⟨Or.inr rfl, _, [0], [.agg [.i .i64 0, .i .i64 0, .i .i64 0], .one (.b false)], [.box [.i .i64 a1]], (resVs_cons (ResV.agg _ _ _ _ _ ti69 rfl (.lp _ _ _ rfl) (Nat.le_of_ble_eq_true rfl)) (resVs_cons (ResV.tmp _ _ rfl) resVs_nil)), rfl, rfl, ⟨by decide, rfl⟩, rfl, rfl, ⟨rfl, rfl⟩⟩
    · replace h := ite_f hc h
      clear hc
      refine son rfl rfl rfl ?_
      refine sv rfl (opv_loadN ti32 rfl (.lp _ _ _ rfl) (Nat.le_of_ble_eq_true rfl)) ?_
      refine son rfl rfl rfl ?_
      obtain ⟨v4, hv4, h⟩ := bind_eq h
      refine scall1 rfl fn30 (opnds_cons rfl opnds_nil) (pubA_id rfl) (m30_net_Sane_c hv4) ?_
      refine son rfl rfl rfl ?_
      refine sv rfl (opv_not rfl) ?_
      refine sv rfl (opv_pick_f rfl rfl) ?_
      refine snil ?_
      refine ccond rfl (fun hc => ?_) (fun hc => ?_)
      · replace h := ite_t hc h
        clear hc
        refine cseq ?_
        refine cregion ?_
        refine sv rfl (opv_build zi69 pi69 parts_nil (.nil _)) ?_
        refine sstore sz69 rfl rfl rfl rfl (Nat.le_of_ble_eq_true rfl) ?_
        refine smem [.box [.i .i64 a1], .box a0, .box [.i .i64 0, .i .i64 0, .i .i64 0]] rfl ?_
        refine sv rfl (opv_as rfl) ?_
        refine snil ?_
        refine cret ?_
        refine then_ret ?_
        obtain rfl := Option.some.inj h
        exact ⟨Or.inr rfl, _, [0], [.agg [.i .i64 0, .i .i64 0, .i .i64 0], .one (.b false)], [.box [.i .i64 a1]], (resVs_cons (ResV.agg _ _ _ _ _ ti69 rfl (.lp _ _ _ rfl) (Nat.le_of_ble_eq_true rfl)) (resVs_cons (ResV.tmp _ _ rfl) resVs_nil)), rfl, rfl, ⟨by decide, rfl⟩, rfl, rfl, ⟨rfl, rfl⟩⟩
      · replace h := ite_f hc h
        clear hc
        refine cskip ?_
        refine then_normal ?_
        exact ⟨(), _, h, ⟨rfl, rfl, rfl, trivial⟩, rfl⟩

def m55_slices_Growo_k1 (a0 : Int) (b1 : Unit) : Option (List GNetPacket) :=
  if (decide (0 < (wI (a0 - (wI (0 - 0)))))) then (if 0 < (wI (a0 - (wI (0 - 0)))) ∧ (wI (a0 - (wI (0 - 0)))) * ((40 : Nat) : Int) ≤ 281474976710656 then (if (0 : Int) ≤ 0 ∧ 0 ≤ ((List.replicate (wI (a0 - (wI (0 - 0)))).toNat (GNetPacket.mk 0 false ([] : List UInt8))).length : Int) then (some ((List.replicate (wI (a0 - (wI (0 - 0)))).toNat (GNetPacket.mk 0 false ([] : List UInt8))).take (0 : Int).toNat)) else none) else none) else (some ([] : List GNetPacket))
def m55_slices_Growo (a0 : Int) : Option (List GNetPacket) :=
  if (decide (a0 < 0)) then none else (m55_slices_Growo_k1 a0 ())

set_option maxRecDepth 100000 in
theorem m55_slices_Growo_c {a0 : Int} {r : (List GNetPacket)} (h : m55_slices_Growo a0 = some r) : CallsB Try.prog 55 [] [.one (.raw (.slice none 0 0)), .one (.i .i64 a0)] (fun y m' => y = .s (.one (.ls 0 r.length)) ∧ m' = [.arr 46 3 0 (r.flatMap eGNetPacket)]) := by
  unfold m55_slices_Growo at h
  refine callsB_of Try.func55 rfl (nt := 27) rfl (Nat.le_of_ble_eq_true rfl) ?_
  intro w0 S0 X0 H0
  refine cseq ?_
  refine cregion ?_
  refine sv rfl (opv_as rfl) ?_
  refine snil ?_
  refine cseq ?_
  refine cseq ?_
  refine cregion ?_
  refine sv rfl (opv_mv rfl) ?_
  refine sv rfl (opv_lss rfl rfl) ?_
  refine snil ?_
  refine cjoin (Unit) (fun b1 => [(0, .s (.one (.raw (.slice none 0 0)))), (1, .s (.one (.i .i64 a0)))]) (fun b1 => []) (fun b1 => m55_slices_Growo_k1 a0 b1 = some r) (fun _ _ => inbL_of rfl) (fun _ _ => blkinb_of rfl) (fun _ _ => Nat.le_of_ble_eq_true rfl) (fun b1 h => ?_) ?_
  · unfold m55_slices_Growo_k1 at h
    refine cseq ?_
    refine cseq ?_
    refine cregion ?_
    refine sv rfl (opv_mv rfl) ?_
    refine sv rfl (opv_mv rfl) ?_
    refine sv rfl (opv_cap_nil si30 rfl) ?_
    refine sv rfl (opv_mv rfl) ?_
    refine sv rfl (opv_len_nil si30 rfl) ?_
    refine sv rfl (opv_sub rfl rfl) ?_
    refine sv rfl (opv_sub rfl rfl) ?_
    refine sv rfl (opv_as rfl) ?_
    refine snil ?_
    refine cseq ?_
    refine cregion ?_
    refine sv rfl (opv_mv rfl) ?_
    refine sv rfl (opv_gtr rfl rfl) ?_
    refine snil ?_
    refine ccond rfl (fun hc => ?_) (fun hc => ?_)
    · replace h := ite_t hc h
      clear hc
      refine cregion ?_
      refine sv rfl (opv_mv rfl) ?_
      refine sv rfl (opv_mv rfl) ?_
      refine sv rfl (opv_cap_nil si30 rfl) ?_
      refine sv rfl (opv_slice_nil si30 rfl rfl) ?_
      refine sv rfl (opv_mv rfl) ?_
      obtain ⟨hm2, h⟩ := chk_eq h
      refine sappzc (f := eGNetPacket) (z := (GNetPacket.mk 0 false ([] : List UInt8))) rfl Try.underlying30 ei46 Try.underlying3 (fun _ => rfl) rfl rfl rfl hm2 (by decide) ?_
      refine sv rfl (opv_mv rfl) ?_
      refine sv rfl (opv_len_nil si30 rfl) ?_
      obtain ⟨hs3, h⟩ := chk_eq h
      refine strunc (f := eGNetPacket) rfl si30 (fun _ => rfl) rfl rfl rfl rfl rfl hs3 ?_
      refine sv rfl (opv_as rfl) ?_
      refine snil ?_
      refine cseq ?_
      refine cregion ?_
      refine sv rfl (opv_mv rfl) ?_
      refine sv rfl (opv_as rfl) ?_
      refine snil ?_
      refine cret ?_
      obtain rfl := Option.some.inj h
      exact ⟨Or.inr rfl, _, [1], [.one (.ls 0 ((List.replicate (wI (a0 - (wI (0 - 0)))).toNat (GNetPacket.mk 0 false ([] : List UInt8))).take (0 : Int).toNat).length)], [.arr 46 3 0 (((List.replicate (wI (a0 - (wI (0 - 0)))).toNat (GNetPacket.mk 0 false ([] : List UInt8))).take (0 : Int).toNat).flatMap eGNetPacket)], (resVs_cons (ResV.tmp _ _ rfl) resVs_nil), rfl, rfl, ⟨by decide, rfl⟩, rfl, rfl, ⟨rfl, rfl⟩⟩
    · replace h := ite_f hc h
      clear hc
      refine cskip ?_
      refine then_normal ?_
      refine cseq ?_
      refine cregion ?_
      refine sv rfl (opv_mv rfl) ?_
      refine sv rfl (opv_as rfl) ?_
      refine snil ?_
      refine sadopt_c 46 3 4 (by decide) rfl ?_
      refine cret ?_
      obtain rfl := Option.some.inj h
      exact ⟨Or.inr rfl, _, [0], [.one (.ls 0 ([] : List GNetPacket).length)], [.arr 46 3 0 (([] : List GNetPacket).flatMap eGNetPacket)], (resVs_cons (ResV.tmp _ _ rfl) resVs_nil), rfl, rfl, ⟨by decide, rfl⟩, rfl, rfl, ⟨rfl, rfl⟩⟩
  · skip
    refine ccond rfl (fun hc => ?_) (fun hc => ?_)
    · replace h := ite_t hc h
      clear hc
      cases h
    · replace h := ite_f hc h
      clear hc
      refine cskip ?_
      refine then_normal ?_
      exact ⟨(), _, h, ⟨rfl, rfl, trivial⟩, rfl⟩

def m46_slices_Concato_k3 (b3 : (List GNetPacket)) : Option (List GNetPacket) :=
  some b3

def m46_slices_Concato_s4 (a0 : List (List GNetPacket)) (s4 : Int × (List GNetPacket)) : Option (LB (Int × (List GNetPacket)) ((List GNetPacket))) :=
  if (decide (s4.1 < (a0.length : Int))) then ((idx a0 s4.1).bind fun u5 => if (s4.2.length + u5.length) * 40 ≤ 140737488355328 then (some (.cont ((wI (s4.1 + 1)), (s4.2 ++ u5)))) else none) else (some (.brk s4.2))

def m46_slices_Concato_k1 (a0 : List (List GNetPacket)) (b1 : Int) : Option (List GNetPacket) :=
  (m55_slices_Growo b1).bind fun v2 => (iterB (m46_slices_Concato_s4 a0) fuel (0, v2)).bind fun e7 => m46_slices_Concato_k3 e7

def m46_slices_Concato_s8 (a0 : List (List GNetPacket)) (s8 : Int × Int) : Option (LB (Int × Int) (Int)) :=
  if (decide (s8.2 < (a0.length : Int))) then ((idx a0 s8.2).bind fun u9 => if (decide ((wI (s8.1 + (u9.length : Int))) < 0)) then none else (some (.cont ((wI (s8.1 + (u9.length : Int))), (wI (s8.2 + 1)))))) else (some (.brk s8.1))
def m46_slices_Concato (a0 : List (List GNetPacket)) : Option (List GNetPacket) :=
  (iterB (m46_slices_Concato_s8 a0) fuel (0, 0)).bind fun e10 => m46_slices_Concato_k1 a0 e10

set_option maxRecDepth 100000 in
theorem m46_slices_Concato_c {a0 : List (List GNetPacket)} {r : (List GNetPacket)} (h : m46_slices_Concato a0 = some r) : CallsB Try.prog 46 [] [.one (.sl a0.length (a0.flatMap (eL eGNetPacket)))] (fun y m' => y = .s (.one (.ls 0 r.length)) ∧ m' = [.arr 46 3 0 (r.flatMap eGNetPacket)]) := by
  unfold m46_slices_Concato at h
  refine callsB_of Try.func46 rfl (nt := 36) rfl (Nat.le_of_ble_eq_true rfl) ?_
  intro w0 S0 X0 H0
  refine cseq ?_
  refine cregion ?_
  refine sv rfl (opv_as rfl) ?_
  refine snil ?_
  refine cseq ?_
  refine cregion ?_
  refine sv rfl (opv_as rfl) ?_
  refine snil ?_
  refine cseq ?_
  refine cseq ?_
  refine cregion ?_
  refine sv rfl (opv_mv rfl) ?_
  refine sv rfl (opv_len_sl si95 rfl) ?_
  refine sv rfl (opv_mv rfl) ?_
  refine snil ?_
  refine cjoin (Int) (fun b1 => [(0, .s (.one (.sl a0.length (a0.flatMap (eL eGNetPacket))))), (3, .s (.one (.i .i64 b1)))]) (fun b1 => []) (fun b1 => m46_slices_Concato_k1 a0 b1 = some r) (fun _ _ => inbL_of rfl) (fun _ _ => blkinb_of rfl) (fun _ _ => Nat.le_of_ble_eq_true rfl) (fun b1 h => ?_) ?_
  · unfold m46_slices_Concato_k1 at h
    refine cseq ?_
    refine cregion ?_
    refine sv rfl (opv_mv rfl) ?_
    obtain ⟨v2, hv2, h⟩ := bind_eq h
    refine scallB (x' := .s (.one (.ls 0 v2.length))) (M' := [.arr 46 3 0 (v2.flatMap eGNetPacket)]) [] rfl fn55 (.func _) (opnds_cons rfl (opnds_cons rfl opnds_nil)) (m55_slices_Growo_c hv2) rfl rfl (by decide) rfl rfl rfl ?_
    refine sv rfl (opv_as rfl) ?_
    refine snil ?_
    refine cseq ?_
    refine cseq ?_
    refine cregion ?_
    refine sv rfl (opv_mv rfl) ?_
    refine sv rfl (opv_len_sl si95 rfl) ?_
    refine sv rfl (opv_mv rfl) ?_
    refine snil ?_
    refine cjoin ((List GNetPacket)) (fun b3 => [(6, .s (.one (.ls 0 b3.length)))]) (fun b3 => [.arr 46 3 0 (b3.flatMap eGNetPacket)]) (fun b3 => m46_slices_Concato_k3 b3 = some r) (fun _ _ => inbL_of rfl) (fun _ _ => blkinb_of rfl) (fun _ _ => Nat.le_of_ble_eq_true rfl) (fun b3 h => ?_) ?_
    · unfold m46_slices_Concato_k3 at h
      refine cseq ?_
      refine cregion ?_
      refine sv rfl (opv_mv rfl) ?_
      refine sv rfl (opv_as rfl) ?_
      refine snil ?_
      refine cret ?_
      obtain rfl := Option.some.inj h
      exact ⟨Or.inr rfl, _, [0], [.one (.ls 0 b3.length)], [.arr 46 3 0 (b3.flatMap eGNetPacket)], (resVs_cons (ResV.tmp _ _ rfl) resVs_nil), rfl, rfl, ⟨by decide, rfl⟩, rfl, rfl, ⟨rfl, rfl⟩⟩
    · skip
      refine cblock ?_
      obtain ⟨x4, hx4, ho4⟩ := bind_eq h
      refine awc_loop (G := Nat × (Int × (List GNetPacket))) (fun g => [(6, .s (.one (.ls 0 g.2.2.length))), (25, .s (.one (.sl a0.length (a0.flatMap (eL eGNetPacket))))), (26, .s (.one (.i .i64 (a0.length : Int)))), (27, .s (.one (.i .i64 g.2.1)))]) (fun g => [.arr 46 3 0 (g.2.2.flatMap eGNetPacket)]) (fun g => iterB (m46_slices_Concato_s4 a0) g.1 g.2 = some x4) (fun g => g.1) (fuel, (0, v2)) hx4 ⟨rfl, rfl, rfl, rfl, trivial⟩ [] rfl (fun _ _ => inbL_of rfl) (fun _ _ => blkinb_of rfl) (fun _ _ => Nat.le_of_ble_eq_true rfl) ?_
      clear hx4 h
      rintro ⟨n4, s4⟩ h
      obtain ⟨n4, y4, rfl, h, hk4⟩ := iterB_eq h
      unfold m46_slices_Concato_s4 at h
      refine cseq ?_
      refine cregion ?_
      refine sv rfl (opv_lss rfl rfl) ?_
      refine snil ?_
      refine cseq ?_
      refine ccond rfl (fun hc => ?_) (fun hc => ?_)
      · replace h := ite_t hc h
        clear hc
        refine cskip ?_
        refine then_normal ?_
        refine cseq ?_
        refine cblock ?_
        refine cseq ?_
        refine cregion ?_
        obtain ⟨u5, hu5, h⟩ := bind_eq h
        refine sv rfl (opv_ix (f := (eL eGNetPacket)) si95 (fun _ => rfl) rfl rfl rfl rfl hu5) ?_
        refine sv rfl (opv_load1 ti30 rfl (.cp _) rfl) ?_
        refine sv rfl (opv_as rfl) ?_
        refine snil ?_
        refine cregion ?_
        refine sv rfl (opv_mv rfl) ?_
        refine sv rfl (opv_mv rfl) ?_
        obtain ⟨hb6, h⟩ := chk_eq h
        refine sapp (f := eGNetPacket) (xs := s4.2) (us := u5) rfl Try.underlying30 ei46 ni30 (fun _ => rfl) rfl rfl (.one _ _ _ _ (.id _ rfl)) rfl rfl rfl (.sl _ _ _ (flat_len (f := eGNetPacket) (fun _ => rfl) _)) rfl rfl hb6 (by decide) ?_
        refine sv rfl (opv_as rfl) ?_
        refine snil0 ?_
        refine block_normal ?_
        refine then_normal ?_
        refine cregion ?_
        refine sv rfl (opv_add rfl rfl) ?_
        refine sv rfl (opv_mv rfl) ?_
        refine snil ?_
        obtain rfl := Option.some.inj h
        exact ⟨(n4, ((wI (s4.1 + 1)), (s4.2 ++ u5))), _, hk4, ⟨rfl, rfl, rfl, rfl, trivial⟩, rfl, Nat.lt_succ_self _⟩
      · replace h := ite_f hc h
        clear hc
        refine cexit ?_
        refine then_exit ?_
        refine then_exit ?_
        refine block_hit ?_
        refine then_normal ?_
        obtain rfl := Option.some.inj h
        obtain rfl : _ = x4 := hk4
        exact ⟨s4.2, _, ho4, ⟨rfl, trivial⟩, rfl⟩
  · skip
    refine cblock ?_
    obtain ⟨x8, hx8, ho8⟩ := bind_eq h
    refine awc_loop (G := Nat × (Int × Int)) (fun g => [(0, .s (.one (.sl a0.length (a0.flatMap (eL eGNetPacket))))), (3, .s (.one (.i .i64 g.2.1))), (9, .s (.one (.sl a0.length (a0.flatMap (eL eGNetPacket))))), (10, .s (.one (.i .i64 (a0.length : Int)))), (11, .s (.one (.i .i64 g.2.2)))]) (fun g => []) (fun g => iterB (m46_slices_Concato_s8 a0) g.1 g.2 = some x8) (fun g => g.1) (fuel, (0, 0)) hx8 ⟨rfl, rfl, rfl, rfl, rfl, trivial⟩ [] rfl (fun _ _ => inbL_of rfl) (fun _ _ => blkinb_of rfl) (fun _ _ => Nat.le_of_ble_eq_true rfl) ?_
    clear hx8 h
    rintro ⟨n8, s8⟩ h
    obtain ⟨n8, y8, rfl, h, hk8⟩ := iterB_eq h
    unfold m46_slices_Concato_s8 at h
    refine cseq ?_
    refine cregion ?_
    refine sv rfl (opv_lss rfl rfl) ?_
    refine snil ?_
    refine cseq ?_
    refine ccond rfl (fun hc => ?_) (fun hc => ?_)
    · replace h := ite_t hc h
      clear hc
      refine cskip ?_
      refine then_normal ?_
      refine cseq ?_
      refine cblock ?_
      refine cseq ?_
      refine cregion ?_
      obtain ⟨u9, hu9, h⟩ := bind_eq h
      refine sv rfl (opv_ix (f := (eL eGNetPacket)) si95 (fun _ => rfl) rfl rfl rfl rfl hu9) ?_
      refine sv rfl (opv_load1 ti30 rfl (.cp _) rfl) ?_
      refine sv rfl (opv_as rfl) ?_
      refine snil ?_
      refine cseq ?_
      refine cregion ?_
      refine sv rfl (opv_mv rfl) ?_
      refine sv rfl (opv_mv rfl) ?_
      refine sv rfl (opv_len_sl si30 rfl) ?_
      refine sv rfl (opv_add rfl rfl) ?_
      refine sv rfl (opv_as rfl) ?_
      refine snil ?_
      refine cseq ?_
      refine cregion ?_
      refine sv rfl (opv_mv rfl) ?_
      refine sv rfl (opv_lss rfl rfl) ?_
      refine snil ?_
      refine ccond rfl (fun hc => ?_) (fun hc => ?_)
      · replace h := ite_t hc h
        clear hc
        cases h
      · replace h := ite_f hc h
        clear hc
        refine cskip ?_
        refine block_normal ?_
        refine then_normal ?_
        refine cregion ?_
        refine sv rfl (opv_add rfl rfl) ?_
        refine sv rfl (opv_mv rfl) ?_
        refine snil ?_
        obtain rfl := Option.some.inj h
        exact ⟨(n8, ((wI (s8.1 + (u9.length : Int))), (wI (s8.2 + 1)))), _, hk8, ⟨rfl, rfl, rfl, rfl, rfl, trivial⟩, rfl, Nat.lt_succ_self _⟩
    · replace h := ite_f hc h
      clear hc
      refine cexit ?_
      refine then_exit ?_
      refine then_exit ?_
      refine block_hit ?_
      refine then_normal ?_
      obtain rfl := Option.some.inj h
      obtain rfl : _ = x8 := hk8
      exact ⟨s8.1, _, ho8, ⟨rfl, rfl, trivial⟩, rfl⟩

def m54_net_lay_k3 (b3 : (List GNetPacket) × (List GNetPacket)) : Option ((List GNetPacket) × Int) :=
  some (b3.2, 0)

def m54_net_lay_s4 (s4 : (List GNetPacket) × (List GNetPacket)) : Option (LB ((List GNetPacket) × (List GNetPacket)) ((List GNetPacket) × (List GNetPacket))) :=
  if (decide (0 < (s4.1.length : Int))) then ((idx s4.1 0).bind fun u6 => if (s4.2.length + [u6].length) * 40 ≤ 140737488355328 then (some (.cont ((s4.1.drop 1), (s4.2 ++ [u6])))) else none) else (some (.brk (s4.1, s4.2)))

def m54_net_lay_k2 (b2 : (List GNetPacket)) : Option ((List GNetPacket) × Int) :=
  (iterB m54_net_lay_s4 fuel (b2, ([] : List GNetPacket))).bind fun e8 => m54_net_lay_k3 e8

def m54_net_lay_s9 (v1 : (List GNetPacket)) (s9 : Int × (List GNetPacket)) : Option (LR (Int × (List GNetPacket)) ((List GNetPacket)) ((List GNetPacket) × Int)) :=
  if (decide (s9.1 < (v1.length : Int))) then ((idx v1 s9.1).bind fun u10 => if (decide (s9.2.length < 64)) then (if (decide (0 = 0)) then (some (.cont ((wI (s9.1 + 1)), (s9.2 ++ [u10])))) else (some (.ret (([] : List GNetPacket), 8)))) else (if (decide ((-1) = 0)) then (some (.cont ((wI (s9.1 + 1)), s9.2))) else (some (.ret (([] : List GNetPacket), 8))))) else (some (.brk s9.2))
def m54_net_lay (a0 : List GNetPacket) (a1 : GNetPacket) : Option ((List GNetPacket) × Int) :=
  (m46_slices_Concato [a0, [a1]]).bind fun v1 => (iter (m54_net_lay_s9 v1) fuel (0, ([] : List GNetPacket))).bind fun x => match x with | .inl r => some r | .inr e12 => m54_net_lay_k2 e12

set_option maxRecDepth 100000 in
theorem m54_net_lay_c {a0 : List GNetPacket} {a1 : GNetPacket} {r : (List GNetPacket) × Int} (h : m54_net_lay a0 a1 = some r) : CallsA Try.prog 54 [.one (.sl a0.length (a0.flatMap eGNetPacket)), .agg a1] (· = .tup [.one (.sl r.1.length (r.1.flatMap eGNetPacket)), .one (.i .i64 r.2)]) := by
  unfold m54_net_lay at h
  refine callsA_of Try.func54 rfl (nt := 38) rfl (Nat.le_of_ble_eq_true rfl) ?_
  intro w0 S0
  refine cseq ?_
  refine cregion ?_
  refine sbox rfl rfl ?_
  refine sv rfl (opv_as rfl) ?_
  refine sv rfl (opv_as rfl) ?_
  refine snil ?_
  refine cseq ?_
  refine cregion ?_
  refine smakechn (n := 64) eGNetPacket rfl Try.underlying97 rfl (by kernel_rfl) ?_
  refine sv rfl (opv_as rfl) ?_
  refine snil ?_
  refine cseq ?_
  refine cseq ?_
  refine cregion ?_
  refine sv rfl (opv_mv rfl) ?_
  refine sv rfl (opv_loadN ti46 rfl (.lp _ _ _ rfl) (Nat.le_of_ble_eq_true rfl)) ?_
  refine sbuild1 rfl Try.underlying30 ei46 rfl rfl (List.all_eq_true.1 rfl) (by decide) ?_
  refine smem [.box a1, chnBlk eGNetPacket 64 false ([] : List GNetPacket), .arr 46 3 0 ([a1].flatMap eGNetPacket)] rfl ?_
  refine spub 14 rfl (by (repeat' first | exact PubA.nil _ | apply PubA.cons | apply PubV.one | apply PubV.agg | exact PubL.nil | exact PubL.ls _ _ _ _ _ _ rfl (flat_len (f := eGNetPacket) (fun _ => rfl) ([a1] : List GNetPacket)).symm | exact PubL.ls _ _ _ _ _ _ rfl (flat_len (f := eGNetPacket) (fun _ => rfl) _).symm | exact PubL.id _ rfl | exact PubLs.nil _ | apply PubLs.cons)) ?_
  refine sbuildN (out := ([a0, [a1]] : List (List GNetPacket)).flatMap (eL eGNetPacket)) rfl Try.underlying95 ei30 (parts_cons rfl (parts_cons rfl parts_nil)) (.cons _ _ _ _ _ _ _ rfl rfl (Nat.le_of_ble_eq_true rfl) (.cons _ _ _ _ _ _ _ rfl rfl (Nat.le_of_ble_eq_true rfl) (.nil _))) rfl (by decide) ?_
  refine spub 15 rfl (by (repeat' first | exact PubA.nil _ | apply PubA.cons | apply PubV.one | apply PubV.agg | exact PubL.nil | exact PubL.ls _ _ _ _ _ _ rfl (flat_len (f := (eL eGNetPacket)) (fun _ => rfl) ([a0, [a1]] : List (List GNetPacket))).symm | exact PubL.ls _ _ _ _ _ _ rfl (flat_len (f := (eL eGNetPacket)) (fun _ => rfl) _).symm | exact PubL.ls _ _ _ _ _ _ rfl (flat_len (f := eGNetPacket) (fun _ => rfl) _).symm | exact PubL.id _ rfl | exact PubLs.nil _ | apply PubLs.cons)) ?_
  obtain ⟨v1, hv1, h⟩ := bind_eq h
  refine scallB (x' := .s (.one (.ls 4 v1.length))) (M' := [.box a1, chnBlk eGNetPacket 64 false ([] : List GNetPacket), .arr 46 3 ([a1].flatMap eGNetPacket).length ([a1].flatMap eGNetPacket), .arr 30 1 ([a0, [a1]].flatMap (eL eGNetPacket)).length ([a0, [a1]].flatMap (eL eGNetPacket)), .arr 46 3 0 (v1.flatMap eGNetPacket)]) [] rfl fn46 (.func _) (opnds_cons rfl opnds_nil) (m46_slices_Concato_c hv1) rfl rfl (by decide) rfl rfl rfl ?_
  refine sv rfl (opv_len_ls si30 rfl rfl (flat_len (f := eGNetPacket) (fun _ => rfl) _).symm) ?_
  refine sv rfl (opv_mv rfl) ?_
  refine snil ?_
  refine cjoin ((List GNetPacket)) (fun b2 => [(6, .s (.one (.mp 1 1)))]) (fun b2 => [.box a1, chnBlk eGNetPacket 64 false b2, .arr 46 3 ([a1].flatMap eGNetPacket).length ([a1].flatMap eGNetPacket), .arr 30 1 ([a0, [a1]].flatMap (eL eGNetPacket)).length ([a0, [a1]].flatMap (eL eGNetPacket)), .arr 46 3 0 (v1.flatMap eGNetPacket)]) (fun b2 => m54_net_lay_k2 b2 = some r) (fun _ _ => inbL_of rfl) (fun _ _ => blkinb_of rfl) (fun _ _ => Nat.le_of_ble_eq_true rfl) (fun b2 h => ?_) ?_
  · unfold m54_net_lay_k2 at h
    refine cseq ?_
    refine cregion ?_
    refine sv rfl (opv_mv rfl) ?_
    refine sclose (e := eGNetPacket) (xs := b2) rfl rfl ?_
    refine smem [.box a1, chnBlk eGNetPacket 64 true b2, .arr 46 3 ([a1].flatMap eGNetPacket).length ([a1].flatMap eGNetPacket), .arr 30 1 ([a0, [a1]].flatMap (eL eGNetPacket)).length ([a0, [a1]].flatMap (eL eGNetPacket)), .arr 46 3 0 (v1.flatMap eGNetPacket)] rfl ?_
    refine snil ?_
    refine cseq ?_
    refine cregion ?_
    refine sv rfl (opv_as rfl) ?_
    refine snil ?_
    refine cseq ?_
    refine cseq ?_
    refine cregion ?_
    refine sv rfl (opv_mv rfl) ?_
    refine snil ?_
    refine sadopt_c 46 3 9 (by decide) rfl ?_
    refine cjoin ((List GNetPacket) × (List GNetPacket)) (fun b3 => [(9, .s (.one (.ls 5 b3.2.length)))]) (fun b3 => [.box a1, chnBlk eGNetPacket 64 true b3.1, .arr 46 3 ([a1].flatMap eGNetPacket).length ([a1].flatMap eGNetPacket), .arr 30 1 ([a0, [a1]].flatMap (eL eGNetPacket)).length ([a0, [a1]].flatMap (eL eGNetPacket)), .arr 46 3 0 (v1.flatMap eGNetPacket), .arr 46 3 0 (b3.2.flatMap eGNetPacket)]) (fun b3 => m54_net_lay_k3 b3 = some r) (fun _ _ => inbL_of rfl) (fun _ _ => blkinb_of rfl) (fun _ _ => Nat.le_of_ble_eq_true rfl) (fun b3 h => ?_) ?_
    · unfold m54_net_lay_k3 at h
      refine cseq ?_
      refine cregion ?_
      refine sv rfl (opv_mv rfl) ?_
      refine sv rfl (opv_as rfl) ?_
      refine sv rfl (opv_as rfl) ?_
      refine snil ?_
      refine cret ?_
      obtain rfl := Option.some.inj h
      refine ⟨Or.inr rfl, _, _, _, (resVs_cons (ResV.tmp _ _ rfl) (resVs_cons (ResV.tmp _ _ rfl) resVs_nil)), (by (repeat' first | exact PubA.nil _ | apply PubA.cons | apply PubV.one | apply PubV.agg | exact PubL.nil | exact PubL.ls _ _ _ _ _ _ rfl (flat_len (f := (eL eGNetPacket)) (fun _ => rfl) _).symm | exact PubL.ls _ _ _ _ _ _ rfl (flat_len (f := eGNetPacket) (fun _ => rfl) _).symm | exact PubL.id _ rfl | exact PubLs.nil _ | apply PubLs.cons)), ?_⟩
      rfl
    · skip
      refine cblock ?_
      obtain ⟨x4, hx4, ho4⟩ := bind_eq h
      refine awc_loop (G := Nat × ((List GNetPacket) × (List GNetPacket))) (fun g => [(9, .s (.one (.ls 5 g.2.2.length))), (29, .s (.one (.mp 1 1)))]) (fun g => [.box a1, chnBlk eGNetPacket 64 true g.2.1, .arr 46 3 ([a1].flatMap eGNetPacket).length ([a1].flatMap eGNetPacket), .arr 30 1 ([a0, [a1]].flatMap (eL eGNetPacket)).length ([a0, [a1]].flatMap (eL eGNetPacket)), .arr 46 3 0 (v1.flatMap eGNetPacket), .arr 46 3 0 (g.2.2.flatMap eGNetPacket)]) (fun g => iterB m54_net_lay_s4 g.1 g.2 = some x4) (fun g => g.1) (fuel, (b2, ([] : List GNetPacket))) hx4 ⟨rfl, rfl, trivial⟩ [] rfl (fun _ _ => inbL_of rfl) (fun _ _ => blkinb_of rfl) (fun _ _ => Nat.le_of_ble_eq_true rfl) ?_
      clear hx4 h
      rintro ⟨n4, s4⟩ h
      obtain ⟨n4, y4, rfl, h, hk4⟩ := iterB_eq h
      unfold m54_net_lay_s4 at h
      refine cseq ?_
      rcases Bool.eq_false_or_eq_true (decide (0 < (s4.1.length : Int))) with hg5 | hg5
      · replace h := ite_t hg5 h
        obtain ⟨u6, hu6, h⟩ := bind_eq h
        refine ccomm rfl (comm_recv (e := eGNetPacket) (xs := s4.1) Try.underlying97 hz46 rfl rfl hu6) ?_
        refine smem [.box a1, chnBlk eGNetPacket 64 true (s4.1.drop 1), .arr 46 3 ([a1].flatMap eGNetPacket).length ([a1].flatMap eGNetPacket), .arr 30 1 ([a0, [a1]].flatMap (eL eGNetPacket)).length ([a0, [a1]].flatMap (eL eGNetPacket)), .arr 46 3 0 (v1.flatMap eGNetPacket), .arr 46 3 0 (s4.2.flatMap eGNetPacket)] rfl ?_
        refine sv rfl (opv_extract rfl rfl) ?_
        refine snil ?_
        refine cseq ?_
        refine ccond rfl (fun _ => ?_) (fun hx => Bool.noConfusion hx)
        refine cskip ?_
        refine then_normal ?_
        refine cblock ?_
        refine cseq ?_
        refine cregion ?_
        refine sv rfl (opv_extract rfl rfl) ?_
        refine salloc rfl zi46 ?_
        refine sstore sz46 rfl rfl rfl rfl (Nat.le_of_ble_eq_true rfl) ?_
        refine smem [.box a1, chnBlk eGNetPacket 64 true (s4.1.drop 1), .arr 46 3 ([a1].flatMap eGNetPacket).length ([a1].flatMap eGNetPacket), .arr 30 1 ([a0, [a1]].flatMap (eL eGNetPacket)).length ([a0, [a1]].flatMap (eL eGNetPacket)), .arr 46 3 0 (v1.flatMap eGNetPacket), .arr 46 3 0 (s4.2.flatMap eGNetPacket), .box u6] rfl ?_
        refine snil ?_
        refine cregion ?_
        refine sv rfl (opv_mv rfl) ?_
        refine sv rfl (opv_loadN ti46 rfl (.lp _ _ _ rfl) (Nat.le_of_ble_eq_true rfl)) ?_
        refine sbuild1 rfl Try.underlying30 ei46 rfl rfl (List.all_eq_true.1 rfl) (by decide) ?_
        refine smem [.box a1, chnBlk eGNetPacket 64 true (s4.1.drop 1), .arr 46 3 ([a1].flatMap eGNetPacket).length ([a1].flatMap eGNetPacket), .arr 30 1 ([a0, [a1]].flatMap (eL eGNetPacket)).length ([a0, [a1]].flatMap (eL eGNetPacket)), .arr 46 3 0 (v1.flatMap eGNetPacket), .arr 46 3 0 (s4.2.flatMap eGNetPacket), .box u6, .arr 46 3 0 ([u6].flatMap eGNetPacket)] rfl ?_
        obtain ⟨hb7, h⟩ := chk_eq h
        refine sapp (f := eGNetPacket) (xs := s4.2) (us := [u6]) rfl Try.underlying30 ei46 ni30 (fun _ => rfl) rfl rfl (.one _ _ _ _ (.ls _ _ _ _ _ _ rfl (flat_len (f := eGNetPacket) (fun _ => rfl) [u6]).symm)) rfl rfl rfl (.sl _ _ _ (flat_len (f := eGNetPacket) (fun _ => rfl) _)) rfl rfl hb7 (by decide) ?_
        refine sv rfl (opv_as rfl) ?_
        refine snil0 ?_
        refine block_normal ?_
        refine then_normal ?_
        obtain rfl := Option.some.inj h
        exact ⟨(n4, ((s4.1.drop 1), (s4.2 ++ [u6]))), _, hk4, ⟨rfl, rfl, trivial⟩, rfl, Nat.lt_succ_self _⟩
      · replace h := ite_f hg5 h
        refine ccomm rfl (comm_end (e := eGNetPacket) (xs := s4.1) Try.underlying97 zi46 hag46 rfl rfl (of_decide_eq_false hg5)) ?_
        refine sv rfl (opv_extract rfl rfl) ?_
        refine snil ?_
        refine cseq ?_
        refine ccond rfl (fun hx => Bool.noConfusion hx) (fun _ => ?_)
        refine cexit ?_
        refine then_exit ?_
        refine then_exit ?_
        refine block_hit ?_
        refine then_normal ?_
        obtain rfl := Option.some.inj h
        obtain rfl : _ = x4 := hk4
        exact ⟨(s4.1, s4.2), _, ho4, ⟨rfl, trivial⟩, rfl⟩
  · skip
    refine cblock ?_
    obtain ⟨x9, hx9, ho9⟩ := bind_eq h
    refine awc_loop (G := Nat × (Int × (List GNetPacket))) (fun g => [(6, .s (.one (.mp 1 1))), (16, .s (.one (.ls 4 v1.length))), (17, .s (.one (.i .i64 (v1.length : Int)))), (18, .s (.one (.i .i64 g.2.1)))]) (fun g => [.box a1, chnBlk eGNetPacket 64 false g.2.2, .arr 46 3 ([a1].flatMap eGNetPacket).length ([a1].flatMap eGNetPacket), .arr 30 1 ([a0, [a1]].flatMap (eL eGNetPacket)).length ([a0, [a1]].flatMap (eL eGNetPacket)), .arr 46 3 0 (v1.flatMap eGNetPacket)]) (fun g => iter (m54_net_lay_s9 v1) g.1 g.2 = some x9) (fun g => g.1) (fuel, (0, ([] : List GNetPacket))) hx9 ⟨rfl, rfl, rfl, rfl, trivial⟩ [] rfl (fun _ _ => inbL_of rfl) (fun _ _ => blkinb_of rfl) (fun _ _ => Nat.le_of_ble_eq_true rfl) ?_
    clear hx9 h
    rintro ⟨n9, s9⟩ h
    obtain ⟨n9, y9, rfl, h, hk9⟩ := iter_eq h
    unfold m54_net_lay_s9 at h
    refine cseq ?_
    refine cregion ?_
    refine sv rfl (opv_lss rfl rfl) ?_
    refine snil ?_
    refine cseq ?_
    refine ccond rfl (fun hc => ?_) (fun hc => ?_)
    · replace h := ite_t hc h
      clear hc
      refine cskip ?_
      refine then_normal ?_
      refine cseq ?_
      refine cblock ?_
      refine cseq ?_
      refine cregion ?_
      obtain ⟨u10, hu10, h⟩ := bind_eq h
      refine sv rfl (opv_ixo (f := eGNetPacket) si30 (fun _ => rfl) rfl rfl rfl rfl rfl hu10) ?_
      refine sv rfl (opv_ldNo (f := eGNetPacket) (sz := 3) 0 ti46 (fun _ => rfl) rfl rfl rfl rfl (idx_eq hu10).2 (Nat.le_of_ble_eq_true rfl) rfl) ?_
      refine salloc rfl zi46 ?_
      refine sstore sz46 rfl rfl rfl rfl (Nat.le_of_ble_eq_true rfl) ?_
      refine smem [.box a1, chnBlk eGNetPacket 64 false s9.2, .arr 46 3 ([a1].flatMap eGNetPacket).length ([a1].flatMap eGNetPacket), .arr 30 1 ([a0, [a1]].flatMap (eL eGNetPacket)).length ([a0, [a1]].flatMap (eL eGNetPacket)), .arr 46 3 0 (v1.flatMap eGNetPacket), .box u10] rfl ?_
      refine snil ?_
      refine cseq ?_
      refine cseq ?_
      refine cregion ?_
      refine sv rfl (opv_mv rfl) ?_
      refine snil ?_
      refine cregion ?_
      refine sv rfl (opv_loadN ti46 rfl (.lp _ _ _ rfl) (Nat.le_of_ble_eq_true rfl)) ?_
      refine snil ?_
      refine cseq ?_
      rcases Bool.eq_false_or_eq_true (decide (s9.2.length < 64)) with hg11 | hg11
      · replace h := ite_t hg11 h
        refine ccomm rfl (comm_send (e := eGNetPacket) (xs := s9.2) (u := u10) hz46 rfl rfl rfl rfl (of_decide_eq_true hg11)) ?_
        refine smem [.box a1, chnBlk eGNetPacket 64 false (s9.2 ++ [u10]), .arr 46 3 ([a1].flatMap eGNetPacket).length ([a1].flatMap eGNetPacket), .arr 30 1 ([a0, [a1]].flatMap (eL eGNetPacket)).length ([a0, [a1]].flatMap (eL eGNetPacket)), .arr 46 3 0 (v1.flatMap eGNetPacket), .box u10] rfl ?_
        refine sv rfl (opv_extract rfl rfl) ?_
        refine sv rfl (opv_ieql rfl rfl) ?_
        refine snil ?_
        refine cblock ?_
        refine ccond rfl (fun hc => ?_) (fun hc => ?_)
        · replace h := ite_t hc h
          clear hc
          refine cskip ?_
          refine block_normal ?_
          refine block_normal ?_
          refine then_normal ?_
          refine cregion ?_
          refine sv rfl (opv_add rfl rfl) ?_
          refine sv rfl (opv_mv rfl) ?_
          refine snil ?_
          obtain rfl := Option.some.inj h
          exact ⟨(n9, ((wI (s9.1 + 1)), (s9.2 ++ [u10]))), _, hk9, ⟨rfl, rfl, rfl, rfl, trivial⟩, rfl, Nat.lt_succ_self _⟩
        · replace h := ite_f hc h
          clear hc
          refine cseq ?_
          refine cregion ?_
          refine sv rfl (opv_as rfl) ?_
          refine sv rfl (opv_as rfl) ?_
          refine snil ?_
          refine cret ?_
          refine block_ret ?_
          refine block_ret ?_
          refine then_ret ?_
          refine then_ret ?_
          refine block_ret ?_
          refine then_ret ?_
          obtain rfl := Option.some.inj h
          obtain rfl : Sum.inl _ = x9 := hk9
          replace ho9 : some _ = some _ := ho9
          obtain rfl := Option.some.inj ho9
          refine ⟨Or.inr rfl, _, _, _, (resVs_cons (ResV.tmp _ _ rfl) (resVs_cons (ResV.tmp _ _ rfl) resVs_nil)), (pubC rfl), ?_⟩
          rfl
      · replace h := ite_f hg11 h
        refine ccomm rfl (comm_full (e := eGNetPacket) (xs := s9.2) (u := u10) hz46 rfl rfl rfl (Nat.le_of_not_lt (of_decide_eq_false hg11))) ?_
        refine sv rfl (opv_extract rfl rfl) ?_
        refine sv rfl (opv_ieql rfl rfl) ?_
        refine snil ?_
        refine cblock ?_
        refine ccond rfl (fun hc => ?_) (fun hc => ?_)
        · replace h := ite_t hc h
          clear hc
          refine cskip ?_
          refine block_normal ?_
          refine block_normal ?_
          refine then_normal ?_
          refine cregion ?_
          refine sv rfl (opv_add rfl rfl) ?_
          refine sv rfl (opv_mv rfl) ?_
          refine snil ?_
          obtain rfl := Option.some.inj h
          exact ⟨(n9, ((wI (s9.1 + 1)), s9.2)), _, hk9, ⟨rfl, rfl, rfl, rfl, trivial⟩, rfl, Nat.lt_succ_self _⟩
        · replace h := ite_f hc h
          clear hc
          refine cseq ?_
          refine cregion ?_
          refine sv rfl (opv_as rfl) ?_
          refine sv rfl (opv_as rfl) ?_
          refine snil ?_
          refine cret ?_
          refine block_ret ?_
          refine block_ret ?_
          refine then_ret ?_
          refine then_ret ?_
          refine block_ret ?_
          refine then_ret ?_
          obtain rfl := Option.some.inj h
          obtain rfl : Sum.inl _ = x9 := hk9
          replace ho9 : some _ = some _ := ho9
          obtain rfl := Option.some.inj ho9
          refine ⟨Or.inr rfl, _, _, _, (resVs_cons (ResV.tmp _ _ rfl) (resVs_cons (ResV.tmp _ _ rfl) resVs_nil)), (pubC rfl), ?_⟩
          rfl
    · replace h := ite_f hc h
      clear hc
      refine cexit ?_
      refine then_exit ?_
      refine then_exit ?_
      refine block_hit ?_
      refine then_normal ?_
      obtain rfl := Option.some.inj h
      obtain rfl : _ = x9 := hk9
      exact ⟨s9.2, _, ho9, ⟨rfl, trivial⟩, rfl⟩

def m42_net_with (a0 : GNetNet) (a1 : GNetPacket) : Option (GNetNet × Int) :=
  (m54_net_lay a0.Packets a1).bind fun v1 => if (!decide (v1.2 = 0)) then (some ((GNetNet.mk ([] : List GNetLink) ([] : List GNetPacket) 0), v1.2)) else (some ((GNetNet.mk a0.Links v1.1 a0.Next), 0))

set_option maxRecDepth 100000 in
theorem m42_net_with_c {a0 : GNetNet} {a1 : GNetPacket} {r : GNetNet × Int} (h : m42_net_with a0 a1 = some r) : CallsA Try.prog 42 [.agg a0, .agg a1] (· = .tup [.agg r.1, .one (.i .i64 r.2)]) := by
  unfold m42_net_with at h
  refine callsA_of Try.func42 rfl (nt := 22) rfl (Nat.le_of_ble_eq_true rfl) ?_
  intro w0 S0
  refine cseq ?_
  refine cregion ?_
  refine sbox rfl rfl ?_
  refine sbox rfl rfl ?_
  refine salloc rfl zi32 ?_
  refine sv rfl (opv_as rfl) ?_
  refine snil ?_
  refine cseq ?_
  refine cregion ?_
  refine sv rfl (opv_fieldAddr_lp fi32_1 rfl) ?_
  refine sv rfl (opv_load1 ti30 rfl (.lp _ _ _ rfl) rfl) ?_
  refine sv rfl (opv_loadN ti46 rfl (.lp _ _ _ rfl) (Nat.le_of_ble_eq_true rfl)) ?_
  obtain ⟨v1, hv1, h⟩ := bind_eq h
  refine scall1 rfl fn54 (opnds_cons rfl (opnds_cons rfl opnds_nil)) (pubA_id rfl) (m54_net_lay_c hv1) ?_
  refine sv rfl (opv_mvt rfl) ?_
  refine sv rfl (opv_extract rfl rfl) ?_
  refine sv rfl (opv_extract rfl rfl) ?_
  refine sv rfl (opv_as rfl) ?_
  refine sv rfl (opv_as rfl) ?_
  refine snil ?_
  refine cseq ?_
  refine cseq ?_
  refine cregion ?_
  refine sv rfl (opv_mv rfl) ?_
  refine sv rfl (opv_ineq rfl rfl) ?_
  refine snil ?_
  refine ccond rfl (fun hc => ?_) (fun hc => ?_)
  · replace h := ite_t hc h
    clear hc
    refine cseq ?_
    refine cregion ?_
    refine sv rfl (opv_build zi32 pi32 parts_nil (.nil _)) ?_
    refine sv rfl (opv_mv rfl) ?_
    refine sstore sz32 rfl rfl rfl rfl (Nat.le_of_ble_eq_true rfl) ?_
    refine smem [.box a0, .box a1, .box [.raw (.slice none 0 0), .raw (.slice none 0 0), .i .i64 0]] rfl ?_
    refine sv rfl (opv_as rfl) ?_
    refine snil ?_
    refine cret ?_
    refine then_ret ?_
    obtain rfl := Option.some.inj h
    refine ⟨Or.inr rfl, _, _, _, (resVs_cons (ResV.agg _ _ _ _ _ ti32 rfl (.lp _ _ _ rfl) (Nat.le_of_ble_eq_true rfl)) (resVs_cons (ResV.tmp _ _ rfl) resVs_nil)), (pubC rfl), ?_⟩
    rfl
  · replace h := ite_f hc h
    clear hc
    refine cskip ?_
    refine then_normal ?_
    refine cseq ?_
    refine cregion ?_
    refine sv rfl (opv_mv rfl) ?_
    refine sv rfl (opv_fieldAddr_lp fi32_1 rfl) ?_
    refine sstore sz30 rfl rfl rfl rfl (Nat.le_of_ble_eq_true rfl) ?_
    refine smem [.box [.sl a0.Links.length (a0.Links.flatMap eGNetLink), .sl v1.1.length (v1.1.flatMap eGNetPacket), .i .i64 a0.Next], .box a1, .box [.raw (.slice none 0 0), .raw (.slice none 0 0), .i .i64 0]] rfl ?_
    refine snil ?_
    refine cseq ?_
    refine cregion ?_
    refine sv rfl (opv_loadN ti32 rfl (.lp _ _ _ rfl) (Nat.le_of_ble_eq_true rfl)) ?_
    refine sstore sz32 rfl rfl rfl rfl (Nat.le_of_ble_eq_true rfl) ?_
    refine smem [.box [.sl a0.Links.length (a0.Links.flatMap eGNetLink), .sl v1.1.length (v1.1.flatMap eGNetPacket), .i .i64 a0.Next], .box a1, .box [.sl a0.Links.length (a0.Links.flatMap eGNetLink), .sl v1.1.length (v1.1.flatMap eGNetPacket), .i .i64 a0.Next]] rfl ?_
    refine sv rfl (opv_as rfl) ?_
    refine snil ?_
    refine cret ?_
    obtain rfl := Option.some.inj h
    refine ⟨Or.inr rfl, _, _, _, (resVs_cons (ResV.agg _ _ _ _ _ ti32 rfl (.lp _ _ _ rfl) (Nat.le_of_ble_eq_true rfl)) (resVs_cons (ResV.tmp _ _ rfl) resVs_nil)), (pubA_id rfl), ?_⟩
    rfl

def m13_net_Send (a0 : GNetNet) (a1 : Int) (a2 : Bool) (a3 : List UInt8) : Option (GNetNet × Int) :=
  (m30_net_Sane a0).bind fun v1 => if (!v1) then (some ((GNetNet.mk ([] : List GNetLink) ([] : List GNetPacket) 0), 1)) else ((m35_net_finds1 a0 a1).bind fun v2 => if (!v2.2) then (some ((GNetNet.mk ([] : List GNetLink) ([] : List GNetPacket) 0), 6)) else ((m41_net_saneBytes a3).bind fun v3 => if (!v3) then (some ((GNetNet.mk ([] : List GNetLink) ([] : List GNetPacket) 0), 1)) else ((m42_net_with (GNetNet.mk a0.Links a0.Packets a0.Next) (GNetPacket.mk a1 a2 a3)).bind fun v4 => some (v4.1, v4.2))))

set_option maxRecDepth 100000 in
theorem m13_net_Send_c {a0 : GNetNet} {a1 : Int} {a2 : Bool} {a3 : List UInt8} {r : GNetNet × Int} (h : m13_net_Send a0 a1 a2 a3 = some r) : CallsA Try.prog 13 [.agg a0, .one (.i .i64 a1), .one (.b a2), .one (.sl a3.length (a3.flatMap eU8))] (· = .tup [.agg r.1, .one (.i .i64 r.2)]) := by
  unfold m13_net_Send at h
  refine callsA_of Try.func13 rfl (nt := 37) rfl (Nat.le_of_ble_eq_true rfl) ?_
  intro w0 S0
  refine cseq ?_
  refine cregion ?_
  refine sbox rfl rfl ?_
  refine sbox rfl rfl ?_
  refine salloc rfl zi32 ?_
  refine sv rfl (opv_as rfl) ?_
  refine snil ?_
  refine cseq ?_
  refine cseq ?_
  refine cregion ?_
  refine sv rfl (opv_loadN ti32 rfl (.lp _ _ _ rfl) (Nat.le_of_ble_eq_true rfl)) ?_
  obtain ⟨v1, hv1, h⟩ := bind_eq h
  refine scall1 rfl fn30 (opnds_cons rfl opnds_nil) (pubA_id rfl) (m30_net_Sane_c hv1) ?_
  refine sv rfl (opv_not rfl) ?_
  refine snil ?_
  refine ccond rfl (fun hc => ?_) (fun hc => ?_)
  · replace h := ite_t hc h
    clear hc
    refine cseq ?_
    refine cregion ?_
    refine sv rfl (opv_build zi32 pi32 parts_nil (.nil _)) ?_
    refine sstore sz32 rfl rfl rfl rfl (Nat.le_of_ble_eq_true rfl) ?_
    refine smem [.box a0, .box [.i .i64 a1], .box [.raw (.slice none 0 0), .raw (.slice none 0 0), .i .i64 0]] rfl ?_
    refine sv rfl (opv_as rfl) ?_
    refine snil ?_
    refine cret ?_
    refine then_ret ?_
    obtain rfl := Option.some.inj h
    refine ⟨Or.inr rfl, _, _, _, (resVs_cons (ResV.agg _ _ _ _ _ ti32 rfl (.lp _ _ _ rfl) (Nat.le_of_ble_eq_true rfl)) (resVs_cons (ResV.tmp _ _ rfl) resVs_nil)), (pubC rfl), ?_⟩
    rfl
  · replace h := ite_f hc h
    clear hc
    refine cskip ?_
    refine then_normal ?_
    refine cseq ?_
    refine cseq ?_
    refine cregion ?_
    refine sv rfl (opv_loadN ti32 rfl (.lp _ _ _ rfl) (Nat.le_of_ble_eq_true rfl)) ?_
    refine sv rfl (opv_makeFunc opnds1_nil (opnds1_cons rfl rfl opnds1_nil)) ?_
    obtain ⟨v2, hv2, h⟩ := bind_eq h
    refine scallB (x' := .tup [.agg v2.1, .one (.b v2.2)]) (M' := [.box a0, .box [.i .i64 a1], .box [.raw (.slice none 0 0), .raw (.slice none 0 0), .i .i64 0]]) [1] rfl fn35 (.func _) (opnds_cons rfl (opnds_cons rfl opnds_nil)) (m35_net_finds1_c hv2) rfl rfl (by decide) rfl rfl rfl ?_
    refine sv rfl (opv_mvt rfl) ?_
    refine sv rfl (opv_extract rfl rfl) ?_
    refine sv rfl (opv_extract rfl rfl) ?_
    refine salloc rfl zi69 ?_
    refine sstore sz69 rfl rfl rfl rfl (Nat.le_of_ble_eq_true rfl) ?_
    refine smem [.box a0, .box [.i .i64 a1], .box [.raw (.slice none 0 0), .raw (.slice none 0 0), .i .i64 0], .box v2.1] rfl ?_
    refine sv rfl (opv_as rfl) ?_
    refine snil ?_
    refine cseq ?_
    refine cregion ?_
    refine sv rfl (opv_mv rfl) ?_
    refine sv rfl (opv_not rfl) ?_
    refine snil ?_
    refine ccond rfl (fun hc => ?_) (fun hc => ?_)
    · replace h := ite_t hc h
      clear hc
      refine cseq ?_
      refine cregion ?_
      refine sv rfl (opv_build zi32 pi32 parts_nil (.nil _)) ?_
      refine sstore sz32 rfl rfl rfl rfl (Nat.le_of_ble_eq_true rfl) ?_
      refine smem [.box a0, .box [.i .i64 a1], .box [.raw (.slice none 0 0), .raw (.slice none 0 0), .i .i64 0], .box v2.1] rfl ?_
      refine sv rfl (opv_as rfl) ?_
      refine snil ?_
      refine cret ?_
      refine then_ret ?_
      obtain rfl := Option.some.inj h
      refine ⟨Or.inr rfl, _, _, _, (resVs_cons (ResV.agg _ _ _ _ _ ti32 rfl (.lp _ _ _ rfl) (Nat.le_of_ble_eq_true rfl)) (resVs_cons (ResV.tmp _ _ rfl) resVs_nil)), (pubC rfl), ?_⟩
      rfl
    · replace h := ite_f hc h
      clear hc
      refine cskip ?_
      refine then_normal ?_
      refine cseq ?_
      refine cseq ?_
      refine cregion ?_
      refine sv rfl (opv_mv rfl) ?_
      obtain ⟨v3, hv3, h⟩ := bind_eq h
      refine scall1 rfl fn41 (opnds_cons rfl opnds_nil) (pubA_id rfl) (m41_net_saneBytes_c hv3) ?_
      refine sv rfl (opv_not rfl) ?_
      refine snil ?_
      refine ccond rfl (fun hc => ?_) (fun hc => ?_)
      · replace h := ite_t hc h
        clear hc
        refine cseq ?_
        refine cregion ?_
        refine sv rfl (opv_build zi32 pi32 parts_nil (.nil _)) ?_
        refine sstore sz32 rfl rfl rfl rfl (Nat.le_of_ble_eq_true rfl) ?_
        refine smem [.box a0, .box [.i .i64 a1], .box [.raw (.slice none 0 0), .raw (.slice none 0 0), .i .i64 0], .box v2.1] rfl ?_
        refine sv rfl (opv_as rfl) ?_
        refine snil ?_
        refine cret ?_
        refine then_ret ?_
        obtain rfl := Option.some.inj h
        refine ⟨Or.inr rfl, _, _, _, (resVs_cons (ResV.agg _ _ _ _ _ ti32 rfl (.lp _ _ _ rfl) (Nat.le_of_ble_eq_true rfl)) (resVs_cons (ResV.tmp _ _ rfl) resVs_nil)), (pubC rfl), ?_⟩
        rfl
      · replace h := ite_f hc h
        clear hc
        refine cskip ?_
        refine then_normal ?_
        refine cseq ?_
        refine cregion ?_
        refine sv rfl (opv_loadN ti32 rfl (.lp _ _ _ rfl) (Nat.le_of_ble_eq_true rfl)) ?_
        refine sv rfl (opv_load1 ti3 rfl (.lp _ _ _ rfl) rfl) ?_
        refine sv rfl (opv_mv rfl) ?_
        refine sv rfl (opv_mv rfl) ?_
        refine sv rfl (opv_build zi46 pi46 (parts_cons rfl (parts_cons rfl (parts_cons rfl parts_nil))) (.cons _ _ _ _ _ _ _ rfl rfl (Nat.le_of_ble_eq_true rfl) (.cons _ _ _ _ _ _ _ rfl rfl (Nat.le_of_ble_eq_true rfl) (.cons _ _ _ _ _ _ _ rfl rfl (Nat.le_of_ble_eq_true rfl) (.nil _))))) ?_
        obtain ⟨v4, hv4, h⟩ := bind_eq h
        refine scall1 rfl fn42 (opnds_cons rfl (opnds_cons rfl opnds_nil)) (pubA_id rfl) (m42_net_with_c hv4) ?_
        refine sv rfl (opv_extract rfl rfl) ?_
        refine sv rfl (opv_extract rfl rfl) ?_
        refine sstore sz32 rfl rfl rfl rfl (Nat.le_of_ble_eq_true rfl) ?_
        refine smem [.box a0, .box [.i .i64 a1], .box v4.1, .box v2.1] rfl ?_
        refine sv rfl (opv_as rfl) ?_
        refine snil ?_
        refine cret ?_
        obtain rfl := Option.some.inj h
        refine ⟨Or.inr rfl, _, _, _, (resVs_cons (ResV.agg _ _ _ _ _ ti32 rfl (.lp _ _ _ rfl) (Nat.le_of_ble_eq_true rfl)) (resVs_cons (ResV.tmp _ _ rfl) resVs_nil)), (pubA_id rfl), ?_⟩
        rfl

def m45_net_there (a0 : GNetNet) (a1 : Int) : Option Bool :=
  if (decide (0 ≤ a1)) then (some (decide (a1 < (a0.Packets.length : Int)))) else (some false)

set_option maxRecDepth 100000 in
theorem m45_net_there_c {a0 : GNetNet} {a1 : Int} {r : Bool} (h : m45_net_there a0 a1 = some r) : CallsA Try.prog 45 [.agg a0, .one (.i .i64 a1)] (· = .s (.one (.b r))) := by
  unfold m45_net_there at h
  refine callsA_of Try.func45 rfl (nt := 14) rfl (Nat.le_of_ble_eq_true rfl) ?_
  intro w0 S0
  refine cseq ?_
  refine cregion ?_
  refine sbox rfl rfl ?_
  refine sv rfl (opv_as rfl) ?_
  refine snil ?_
  refine cseq ?_
  refine cregion ?_
  refine sv rfl (opv_mv rfl) ?_
  refine sv rfl (opv_geq rfl rfl) ?_
  refine sv rfl (opv_mv rfl) ?_
  refine ssplit 7 rfl (fun hc => ?_) (fun hc => ?_)
  · replace h := ite_t hc h
    clear hc
    refine son rfl rfl rfl ?_
    refine sv rfl (opv_mv rfl) ?_
    refine son rfl rfl rfl ?_
    refine sv rfl (opv_fieldAddr_lp fi32_1 rfl) ?_
    refine son rfl rfl rfl ?_
    refine sv rfl (opv_load1 ti30 rfl (.lp _ _ _ rfl) rfl) ?_
    refine son rfl rfl rfl ?_
    refine sv rfl (opv_len_sl si30 rfl) ?_
    refine son rfl rfl rfl ?_
    refine sv rfl (opv_lss rfl rfl) ?_
    refine sv rfl (opv_pick_t rfl rfl) ?_
    refine sv rfl (opv_as rfl) ?_
    refine snil ?_
    refine cret ?_
    obtain rfl := Option.some.inj h
    refine ⟨Or.inr rfl, _, _, _, (resVs_cons (ResV.tmp _ _ rfl) resVs_nil), (pubA_id rfl), ?_⟩
    rfl
  · replace h := ite_f hc h
    clear hc
    refine soff rfl rfl rfl rfl ?_
    refine soff rfl rfl rfl rfl ?_
    refine soff rfl rfl rfl rfl ?_
    refine soff rfl rfl rfl rfl ?_
    refine soff rfl rfl rfl rfl ?_
    refine sv rfl (opv_pick_f rfl rfl) ?_
    refine sv rfl (opv_as rfl) ?_
    refine snil ?_
    refine cret ?_
    obtain rfl := Option.some.inj h
    refine ⟨Or.inr rfl, _, _, _, (resVs_cons (ResV.tmp _ _ rfl) resVs_nil), (pubA_id rfl), ?_⟩
    rfl

def m19_net_Dup (a0 : GNetNet) (a1 : Int) : Option (GNetNet × Int) :=
  (m30_net_Sane a0).bind fun v1 => if (!v1) then (some ((GNetNet.mk ([] : List GNetLink) ([] : List GNetPacket) 0), 1)) else ((m45_net_there a0 a1).bind fun v2 => if (!v2) then (some ((GNetNet.mk ([] : List GNetLink) ([] : List GNetPacket) 0), 6)) else ((idx a0.Packets a1).bind fun u3 => (m42_net_with a0 u3).bind fun v4 => some (v4.1, v4.2)))

set_option maxRecDepth 100000 in
theorem m19_net_Dup_c {a0 : GNetNet} {a1 : Int} {r : GNetNet × Int} (h : m19_net_Dup a0 a1 = some r) : CallsA Try.prog 19 [.agg a0, .one (.i .i64 a1)] (· = .tup [.agg r.1, .one (.i .i64 r.2)]) := by
  unfold m19_net_Dup at h
  refine callsA_of Try.func19 rfl (nt := 24) rfl (Nat.le_of_ble_eq_true rfl) ?_
  intro w0 S0
  refine cseq ?_
  refine cregion ?_
  refine sbox rfl rfl ?_
  refine salloc rfl zi32 ?_
  refine sv rfl (opv_as rfl) ?_
  refine snil ?_
  refine cseq ?_
  refine cseq ?_
  refine cregion ?_
  refine sv rfl (opv_loadN ti32 rfl (.lp _ _ _ rfl) (Nat.le_of_ble_eq_true rfl)) ?_
  obtain ⟨v1, hv1, h⟩ := bind_eq h
  refine scall1 rfl fn30 (opnds_cons rfl opnds_nil) (pubA_id rfl) (m30_net_Sane_c hv1) ?_
  refine sv rfl (opv_not rfl) ?_
  refine snil ?_
  refine ccond rfl (fun hc => ?_) (fun hc => ?_)
  · replace h := ite_t hc h
    clear hc
    refine cseq ?_
    refine cregion ?_
    refine sv rfl (opv_build zi32 pi32 parts_nil (.nil _)) ?_
    refine sstore sz32 rfl rfl rfl rfl (Nat.le_of_ble_eq_true rfl) ?_
    refine smem [.box a0, .box [.raw (.slice none 0 0), .raw (.slice none 0 0), .i .i64 0]] rfl ?_
    refine sv rfl (opv_as rfl) ?_
    refine snil ?_
    refine cret ?_
    refine then_ret ?_
    obtain rfl := Option.some.inj h
    refine ⟨Or.inr rfl, _, _, _, (resVs_cons (ResV.agg _ _ _ _ _ ti32 rfl (.lp _ _ _ rfl) (Nat.le_of_ble_eq_true rfl)) (resVs_cons (ResV.tmp _ _ rfl) resVs_nil)), (pubC rfl), ?_⟩
    rfl
  · replace h := ite_f hc h
    clear hc
    refine cskip ?_
    refine then_normal ?_
    refine cseq ?_
    refine cseq ?_
    refine cregion ?_
    refine sv rfl (opv_loadN ti32 rfl (.lp _ _ _ rfl) (Nat.le_of_ble_eq_true rfl)) ?_
    refine sv rfl (opv_mv rfl) ?_
    obtain ⟨v2, hv2, h⟩ := bind_eq h
    refine scall1 rfl fn45 (opnds_cons rfl (opnds_cons rfl opnds_nil)) (pubA_id rfl) (m45_net_there_c hv2) ?_
    refine sv rfl (opv_not rfl) ?_
    refine snil ?_
    refine ccond rfl (fun hc => ?_) (fun hc => ?_)
    · replace h := ite_t hc h
      clear hc
      refine cseq ?_
      refine cregion ?_
      refine sv rfl (opv_build zi32 pi32 parts_nil (.nil _)) ?_
      refine sstore sz32 rfl rfl rfl rfl (Nat.le_of_ble_eq_true rfl) ?_
      refine smem [.box a0, .box [.raw (.slice none 0 0), .raw (.slice none 0 0), .i .i64 0]] rfl ?_
      refine sv rfl (opv_as rfl) ?_
      refine snil ?_
      refine cret ?_
      refine then_ret ?_
      obtain rfl := Option.some.inj h
      refine ⟨Or.inr rfl, _, _, _, (resVs_cons (ResV.agg _ _ _ _ _ ti32 rfl (.lp _ _ _ rfl) (Nat.le_of_ble_eq_true rfl)) (resVs_cons (ResV.tmp _ _ rfl) resVs_nil)), (pubC rfl), ?_⟩
      rfl
    · replace h := ite_f hc h
      clear hc
      refine cskip ?_
      refine then_normal ?_
      refine cseq ?_
      obtain ⟨u3, hu3, h⟩ := bind_eq h
      obtain ⟨v4, hv4, h⟩ := bind_eq h
      refine cdraw_e [9] [0, 0, 2, 0, 14, 30, 63, 127, 127, 511, 1023] [[.box a0, .box [.raw (.slice none 0 0), .raw (.slice none 0 0), .i .i64 0]], [.box a0, .box v4.1]] (by kernel_rfl) mixed (by kernel_rfl) (by decide) rfl rfl rfl rfl ?_
      refine ev (sees_at 0 rfl rfl) rfl rfl (opv_loadN ti32 rfl (.lp _ _ _ rfl) (Nat.le_of_ble_eq_true rfl)) ?_
      refine ev (sees_at 0 rfl rfl) rfl rfl (opv_fieldAddr_lp fi32_1 rfl) ?_
      refine ev (sees_at 0 rfl rfl) rfl rfl (opv_load1 ti30 rfl (.lp _ _ _ rfl) rfl) ?_
      refine ev (sees_at 0 rfl rfl) rfl rfl (opv_mv rfl) ?_
      refine ev (sees_at 0 rfl rfl) rfl rfl (opv_ix (f := eGNetPacket) si30 (fun _ => rfl) rfl rfl rfl rfl hu3) ?_
      refine ev (sees_at 0 rfl rfl) rfl rfl (opv_loadNe (ys := [.i .i64 u3.Link, .b u3.Up, .sl u3.Bytes.length (u3.Bytes.flatMap eU8)]) ti46 rfl (.cp _) rfl rfl) ?_
      refine ed (sees_at 0 rfl rfl) rfl rfl (opD_call fn42 (opnds_cons rfl (opnds_cons rfl opnds_nil)) rfl (m42_net_with_c hv4)) ?_
      refine ev (sees_at 0 rfl rfl) rfl rfl (opv_extract rfl rfl) ?_
      refine ev (sees_at 0 rfl rfl) rfl rfl (opv_extract rfl rfl) ?_
      refine ee0 0 rfl rfl rfl rfl (fun ζ => ?_) ?_
      · refine sstore sz32 rfl rfl rfl rfl (Nat.le_of_ble_eq_true rfl) ?_
        refine smem [.box a0, .box v4.1] rfl ?_
        exact eend
      refine ev (sees_at 1 rfl rfl) rfl rfl (opv_as rfl) ?_
      refine enil ?_
      refine then_normal ?_
      refine cret ?_
      obtain rfl := Option.some.inj h
      refine ⟨Or.inr rfl, _, _, _, (resVs_cons (ResV.agg _ _ _ _ _ ti32 rfl (.lp _ _ _ rfl) (Nat.le_of_ble_eq_true rfl)) (resVs_cons (ResV.tmp _ _ rfl) resVs_nil)), (pubA_id rfl), ?_⟩
      rfl

def m46_slices_Concat_k3 (b3 : (List GNetPacket)) : Option (List GNetPacket) :=
  some b3

def m46_slices_Concat_s4 (a0 : List (List GNetPacket)) (s4 : Int × (List GNetPacket)) : Option (LB (Int × (List GNetPacket)) ((List GNetPacket))) :=
  if (decide (s4.1 < (a0.length : Int))) then ((idx a0 s4.1).bind fun u5 => if (s4.2.length + u5.length) * 40 ≤ 140737488355328 then (some (.cont ((wI (s4.1 + 1)), (s4.2 ++ u5)))) else none) else (some (.brk s4.2))

def m46_slices_Concat_k1 (a0 : List (List GNetPacket)) (b1 : Int) : Option (List GNetPacket) :=
  (m55_slices_Growo b1).bind fun v2 => (iterB (m46_slices_Concat_s4 a0) fuel (0, v2)).bind fun e7 => m46_slices_Concat_k3 e7

def m46_slices_Concat_s8 (a0 : List (List GNetPacket)) (s8 : Int × Int) : Option (LB (Int × Int) (Int)) :=
  if (decide (s8.2 < (a0.length : Int))) then ((idx a0 s8.2).bind fun u9 => if (decide ((wI (s8.1 + (u9.length : Int))) < 0)) then none else (some (.cont ((wI (s8.1 + (u9.length : Int))), (wI (s8.2 + 1)))))) else (some (.brk s8.1))
def m46_slices_Concat (a0 : List (List GNetPacket)) : Option (List GNetPacket) :=
  (iterB (m46_slices_Concat_s8 a0) fuel (0, 0)).bind fun e10 => m46_slices_Concat_k1 a0 e10

set_option maxRecDepth 100000 in
theorem m46_slices_Concat_c {a0 : List (List GNetPacket)} {r : (List GNetPacket)} (h : m46_slices_Concat a0 = some r) : CallsA Try.prog 46 [.one (.sl a0.length (a0.flatMap (eL eGNetPacket)))] (· = .s (.one (.sl r.length (r.flatMap eGNetPacket)))) := by
  unfold m46_slices_Concat at h
  refine callsA_of Try.func46 rfl (nt := 36) rfl (Nat.le_of_ble_eq_true rfl) ?_
  intro w0 S0
  refine cseq ?_
  refine cregion ?_
  refine sv rfl (opv_as rfl) ?_
  refine snil ?_
  refine cseq ?_
  refine cregion ?_
  refine sv rfl (opv_as rfl) ?_
  refine snil ?_
  refine cseq ?_
  refine cseq ?_
  refine cregion ?_
  refine sv rfl (opv_mv rfl) ?_
  refine sv rfl (opv_len_sl si95 rfl) ?_
  refine sv rfl (opv_mv rfl) ?_
  refine snil ?_
  refine cjoin (Int) (fun b1 => [(0, .s (.one (.sl a0.length (a0.flatMap (eL eGNetPacket))))), (3, .s (.one (.i .i64 b1)))]) (fun b1 => []) (fun b1 => m46_slices_Concat_k1 a0 b1 = some r) (fun _ _ => inbL_of rfl) (fun _ _ => blkinb_of rfl) (fun _ _ => Nat.le_of_ble_eq_true rfl) (fun b1 h => ?_) ?_
  · unfold m46_slices_Concat_k1 at h
    refine cseq ?_
    refine cregion ?_
    refine sv rfl (opv_mv rfl) ?_
    obtain ⟨v2, hv2, h⟩ := bind_eq h
    refine scallB (x' := .s (.one (.ls 0 v2.length))) (M' := [.arr 46 3 0 (v2.flatMap eGNetPacket)]) [] rfl fn55 (.func _) (opnds_cons rfl (opnds_cons rfl opnds_nil)) (m55_slices_Growo_c hv2) rfl rfl (by decide) rfl rfl rfl ?_
    refine sv rfl (opv_as rfl) ?_
    refine snil ?_
    refine cseq ?_
    refine cseq ?_
    refine cregion ?_
    refine sv rfl (opv_mv rfl) ?_
    refine sv rfl (opv_len_sl si95 rfl) ?_
    refine sv rfl (opv_mv rfl) ?_
    refine snil ?_
    refine cjoin ((List GNetPacket)) (fun b3 => [(6, .s (.one (.ls 0 b3.length)))]) (fun b3 => [.arr 46 3 0 (b3.flatMap eGNetPacket)]) (fun b3 => m46_slices_Concat_k3 b3 = some r) (fun _ _ => inbL_of rfl) (fun _ _ => blkinb_of rfl) (fun _ _ => Nat.le_of_ble_eq_true rfl) (fun b3 h => ?_) ?_
    · unfold m46_slices_Concat_k3 at h
      refine cseq ?_
      refine cregion ?_
      refine sv rfl (opv_mv rfl) ?_
      refine sv rfl (opv_as rfl) ?_
      refine snil ?_
      refine cret ?_
      obtain rfl := Option.some.inj h
      refine ⟨Or.inr rfl, _, _, _, (resVs_cons (ResV.tmp _ _ rfl) resVs_nil), (by (repeat' first | exact PubA.nil _ | apply PubA.cons | apply PubV.one | apply PubV.agg | exact PubL.nil | exact PubL.ls _ _ _ _ _ _ rfl (flat_len (f := eGNetPacket) (fun _ => rfl) _).symm | exact PubL.id _ rfl | exact PubLs.nil _ | apply PubLs.cons)), ?_⟩
      rfl
    · skip
      refine cblock ?_
      obtain ⟨x4, hx4, ho4⟩ := bind_eq h
      refine awc_loop (G := Nat × (Int × (List GNetPacket))) (fun g => [(6, .s (.one (.ls 0 g.2.2.length))), (25, .s (.one (.sl a0.length (a0.flatMap (eL eGNetPacket))))), (26, .s (.one (.i .i64 (a0.length : Int)))), (27, .s (.one (.i .i64 g.2.1)))]) (fun g => [.arr 46 3 0 (g.2.2.flatMap eGNetPacket)]) (fun g => iterB (m46_slices_Concat_s4 a0) g.1 g.2 = some x4) (fun g => g.1) (fuel, (0, v2)) hx4 ⟨rfl, rfl, rfl, rfl, trivial⟩ [] rfl (fun _ _ => inbL_of rfl) (fun _ _ => blkinb_of rfl) (fun _ _ => Nat.le_of_ble_eq_true rfl) ?_
      clear hx4 h
      rintro ⟨n4, s4⟩ h
      obtain ⟨n4, y4, rfl, h, hk4⟩ := iterB_eq h
      unfold m46_slices_Concat_s4 at h
      refine cseq ?_
      refine cregion ?_
      refine sv rfl (opv_lss rfl rfl) ?_
      refine snil ?_
      refine cseq ?_
      refine ccond rfl (fun hc => ?_) (fun hc => ?_)
      · replace h := ite_t hc h
        clear hc
        refine cskip ?_
        refine then_normal ?_
        refine cseq ?_
        refine cblock ?_
        refine cseq ?_
        refine cregion ?_
        obtain ⟨u5, hu5, h⟩ := bind_eq h
        refine sv rfl (opv_ix (f := (eL eGNetPacket)) si95 (fun _ => rfl) rfl rfl rfl rfl hu5) ?_
        refine sv rfl (opv_load1 ti30 rfl (.cp _) rfl) ?_
        refine sv rfl (opv_as rfl) ?_
        refine snil ?_
        refine cregion ?_
        refine sv rfl (opv_mv rfl) ?_
        refine sv rfl (opv_mv rfl) ?_
        obtain ⟨hb6, h⟩ := chk_eq h
        refine sapp (f := eGNetPacket) (xs := s4.2) (us := u5) rfl Try.underlying30 ei46 ni30 (fun _ => rfl) rfl rfl (.one _ _ _ _ (.id _ rfl)) rfl rfl rfl (.sl _ _ _ (flat_len (f := eGNetPacket) (fun _ => rfl) _)) rfl rfl hb6 (by decide) ?_
        refine sv rfl (opv_as rfl) ?_
        refine snil0 ?_
        refine block_normal ?_
        refine then_normal ?_
        refine cregion ?_
        refine sv rfl (opv_add rfl rfl) ?_
        refine sv rfl (opv_mv rfl) ?_
        refine snil ?_
        obtain rfl := Option.some.inj h
        exact ⟨(n4, ((wI (s4.1 + 1)), (s4.2 ++ u5))), _, hk4, ⟨rfl, rfl, rfl, rfl, trivial⟩, rfl, Nat.lt_succ_self _⟩
      · replace h := ite_f hc h
        clear hc
        refine cexit ?_
        refine then_exit ?_
        refine then_exit ?_
        refine block_hit ?_
        refine then_normal ?_
        obtain rfl := Option.some.inj h
        obtain rfl : _ = x4 := hk4
        exact ⟨s4.2, _, ho4, ⟨rfl, trivial⟩, rfl⟩
  · skip
    refine cblock ?_
    obtain ⟨x8, hx8, ho8⟩ := bind_eq h
    refine awc_loop (G := Nat × (Int × Int)) (fun g => [(0, .s (.one (.sl a0.length (a0.flatMap (eL eGNetPacket))))), (3, .s (.one (.i .i64 g.2.1))), (9, .s (.one (.sl a0.length (a0.flatMap (eL eGNetPacket))))), (10, .s (.one (.i .i64 (a0.length : Int)))), (11, .s (.one (.i .i64 g.2.2)))]) (fun g => []) (fun g => iterB (m46_slices_Concat_s8 a0) g.1 g.2 = some x8) (fun g => g.1) (fuel, (0, 0)) hx8 ⟨rfl, rfl, rfl, rfl, rfl, trivial⟩ [] rfl (fun _ _ => inbL_of rfl) (fun _ _ => blkinb_of rfl) (fun _ _ => Nat.le_of_ble_eq_true rfl) ?_
    clear hx8 h
    rintro ⟨n8, s8⟩ h
    obtain ⟨n8, y8, rfl, h, hk8⟩ := iterB_eq h
    unfold m46_slices_Concat_s8 at h
    refine cseq ?_
    refine cregion ?_
    refine sv rfl (opv_lss rfl rfl) ?_
    refine snil ?_
    refine cseq ?_
    refine ccond rfl (fun hc => ?_) (fun hc => ?_)
    · replace h := ite_t hc h
      clear hc
      refine cskip ?_
      refine then_normal ?_
      refine cseq ?_
      refine cblock ?_
      refine cseq ?_
      refine cregion ?_
      obtain ⟨u9, hu9, h⟩ := bind_eq h
      refine sv rfl (opv_ix (f := (eL eGNetPacket)) si95 (fun _ => rfl) rfl rfl rfl rfl hu9) ?_
      refine sv rfl (opv_load1 ti30 rfl (.cp _) rfl) ?_
      refine sv rfl (opv_as rfl) ?_
      refine snil ?_
      refine cseq ?_
      refine cregion ?_
      refine sv rfl (opv_mv rfl) ?_
      refine sv rfl (opv_mv rfl) ?_
      refine sv rfl (opv_len_sl si30 rfl) ?_
      refine sv rfl (opv_add rfl rfl) ?_
      refine sv rfl (opv_as rfl) ?_
      refine snil ?_
      refine cseq ?_
      refine cregion ?_
      refine sv rfl (opv_mv rfl) ?_
      refine sv rfl (opv_lss rfl rfl) ?_
      refine snil ?_
      refine ccond rfl (fun hc => ?_) (fun hc => ?_)
      · replace h := ite_t hc h
        clear hc
        cases h
      · replace h := ite_f hc h
        clear hc
        refine cskip ?_
        refine block_normal ?_
        refine then_normal ?_
        refine cregion ?_
        refine sv rfl (opv_add rfl rfl) ?_
        refine sv rfl (opv_mv rfl) ?_
        refine snil ?_
        obtain rfl := Option.some.inj h
        exact ⟨(n8, ((wI (s8.1 + (u9.length : Int))), (wI (s8.2 + 1)))), _, hk8, ⟨rfl, rfl, rfl, rfl, rfl, trivial⟩, rfl, Nat.lt_succ_self _⟩
    · replace h := ite_f hc h
      clear hc
      refine cexit ?_
      refine then_exit ?_
      refine then_exit ?_
      refine block_hit ?_
      refine then_normal ?_
      obtain rfl := Option.some.inj h
      obtain rfl : _ = x8 := hk8
      exact ⟨s8.1, _, ho8, ⟨rfl, rfl, trivial⟩, rfl⟩

def m17_net_Take (a0 : GNetNet) (a1 : Int) : Option (GNetNet × GNetPacket × Bool) :=
  (m30_net_Sane a0).bind fun v1 => if (!v1) then (some ((GNetNet.mk ([] : List GNetLink) ([] : List GNetPacket) 0), (GNetPacket.mk 0 false ([] : List UInt8)), false)) else ((m45_net_there a0 a1).bind fun v2 => if (!v2) then (some (a0, (GNetPacket.mk 0 false ([] : List UInt8)), false)) else ((idx a0.Packets a1).bind fun u3 => (cut a0.Packets 0 a1).bind fun c4 => (cut a0.Packets (wI (a1 + 1)) (a0.Packets.length : Int)).bind fun c5 => (m46_slices_Concat ([c4, c5] : List (List GNetPacket))).bind fun v6 => some ((GNetNet.mk a0.Links v6 a0.Next), (GNetPacket.mk u3.Link u3.Up u3.Bytes), true)))

set_option maxRecDepth 100000 in
theorem m17_net_Take_c {a0 : GNetNet} {a1 : Int} {r : GNetNet × GNetPacket × Bool} (h : m17_net_Take a0 a1 = some r) : CallsA Try.prog 17 [.agg a0, .one (.i .i64 a1)] (· = .tup [.agg r.1, .agg r.2.1, .one (.b r.2.2)]) := by
  unfold m17_net_Take at h
  refine callsA_of Try.func17 rfl (nt := 38) rfl (Nat.le_of_ble_eq_true rfl) ?_
  intro w0 S0
  refine cseq ?_
  refine cregion ?_
  refine sbox rfl rfl ?_
  refine salloc rfl zi32 ?_
  refine salloc rfl zi46 ?_
  refine sv rfl (opv_as rfl) ?_
  refine snil ?_
  refine cseq ?_
  refine cseq ?_
  refine cregion ?_
  refine sv rfl (opv_loadN ti32 rfl (.lp _ _ _ rfl) (Nat.le_of_ble_eq_true rfl)) ?_
  obtain ⟨v1, hv1, h⟩ := bind_eq h
  refine scall1 rfl fn30 (opnds_cons rfl opnds_nil) (pubA_id rfl) (m30_net_Sane_c hv1) ?_
  refine sv rfl (opv_not rfl) ?_
  refine snil ?_
  refine ccond rfl (fun hc => ?_) (fun hc => ?_)
  · replace h := ite_t hc h
    clear hc
    refine cseq ?_
    refine cregion ?_
    refine sv rfl (opv_build zi32 pi32 parts_nil (.nil _)) ?_
    refine sv rfl (opv_build zi46 pi46 parts_nil (.nil _)) ?_
    refine sstore sz32 rfl rfl rfl rfl (Nat.le_of_ble_eq_true rfl) ?_
    refine smem [.box a0, .box [.raw (.slice none 0 0), .raw (.slice none 0 0), .i .i64 0], .box [.i .i64 0, .b false, .raw (.slice none 0 0)]] rfl ?_
    refine sstore sz46 rfl rfl rfl rfl (Nat.le_of_ble_eq_true rfl) ?_
    refine smem [.box a0, .box [.raw (.slice none 0 0), .raw (.slice none 0 0), .i .i64 0], .box [.i .i64 0, .b false, .raw (.slice none 0 0)]] rfl ?_
    refine sv rfl (opv_as rfl) ?_
    refine snil ?_
    refine cret ?_
    refine then_ret ?_
    obtain rfl := Option.some.inj h
    refine ⟨Or.inr rfl, _, _, _, (resVs_cons (ResV.agg _ _ _ _ _ ti32 rfl (.lp _ _ _ rfl) (Nat.le_of_ble_eq_true rfl)) (resVs_cons (ResV.agg _ _ _ _ _ ti46 rfl (.lp _ _ _ rfl) (Nat.le_of_ble_eq_true rfl)) (resVs_cons (ResV.tmp _ _ rfl) resVs_nil))), (pubC rfl), ?_⟩
    rfl
  · replace h := ite_f hc h
    clear hc
    refine cskip ?_
    refine then_normal ?_
    refine cseq ?_
    refine cseq ?_
    refine cregion ?_
    refine sv rfl (opv_loadN ti32 rfl (.lp _ _ _ rfl) (Nat.le_of_ble_eq_true rfl)) ?_
    refine sv rfl (opv_mv rfl) ?_
    obtain ⟨v2, hv2, h⟩ := bind_eq h
    refine scall1 rfl fn45 (opnds_cons rfl (opnds_cons rfl opnds_nil)) (pubA_id rfl) (m45_net_there_c hv2) ?_
    refine sv rfl (opv_not rfl) ?_
    refine snil ?_
    refine ccond rfl (fun hc => ?_) (fun hc => ?_)
    · replace h := ite_t hc h
      clear hc
      refine cseq ?_
      refine cregion ?_
      refine sv rfl (opv_loadN ti32 rfl (.lp _ _ _ rfl) (Nat.le_of_ble_eq_true rfl)) ?_
      refine sv rfl (opv_build zi46 pi46 parts_nil (.nil _)) ?_
      refine sstore sz32 rfl rfl rfl rfl (Nat.le_of_ble_eq_true rfl) ?_
      refine smem [.box a0, .box a0, .box [.i .i64 0, .b false, .raw (.slice none 0 0)]] rfl ?_
      refine sstore sz46 rfl rfl rfl rfl (Nat.le_of_ble_eq_true rfl) ?_
      refine smem [.box a0, .box a0, .box [.i .i64 0, .b false, .raw (.slice none 0 0)]] rfl ?_
      refine sv rfl (opv_as rfl) ?_
      refine snil ?_
      refine cret ?_
      refine then_ret ?_
      obtain rfl := Option.some.inj h
      refine ⟨Or.inr rfl, _, _, _, (resVs_cons (ResV.agg _ _ _ _ _ ti32 rfl (.lp _ _ _ rfl) (Nat.le_of_ble_eq_true rfl)) (resVs_cons (ResV.agg _ _ _ _ _ ti46 rfl (.lp _ _ _ rfl) (Nat.le_of_ble_eq_true rfl)) (resVs_cons (ResV.tmp _ _ rfl) resVs_nil))), (pubC rfl), ?_⟩
      rfl
    · replace h := ite_f hc h
      clear hc
      refine cskip ?_
      refine then_normal ?_
      refine cseq ?_
      refine cregion ?_
      refine sv rfl (opv_fieldAddr_lp fi32_1 rfl) ?_
      refine sv rfl (opv_load1 ti30 rfl (.lp _ _ _ rfl) rfl) ?_
      refine sv rfl (opv_mv rfl) ?_
      obtain ⟨u3, hu3, h⟩ := bind_eq h
      refine sv rfl (opv_ix (f := eGNetPacket) si30 (fun _ => rfl) rfl rfl rfl rfl hu3) ?_
      refine sv rfl (opv_loadNe (ys := [.i .i64 u3.Link, .b u3.Up, .sl u3.Bytes.length (u3.Bytes.flatMap eU8)]) ti46 rfl (.cp _) rfl rfl) ?_
      refine salloc rfl zi46 ?_
      refine sstore sz46 rfl rfl rfl rfl (Nat.le_of_ble_eq_true rfl) ?_
      refine smem [.box a0, .box [.raw (.slice none 0 0), .raw (.slice none 0 0), .i .i64 0], .box [.i .i64 0, .b false, .raw (.slice none 0 0)], .box u3] rfl ?_
      refine snil ?_
      refine cseq ?_
      obtain ⟨c4, hc4, h⟩ := bind_eq h
      obtain ⟨c5, hc5, h⟩ := bind_eq h
      obtain ⟨v6, hv6, h⟩ := bind_eq h
      refine cdraw_e [12] [0, 1, 0, 7, 0, 16, 0, 64, 240, 511, 1023, 2047, 4095] [[.box a0, .box [.raw (.slice none 0 0), .raw (.slice none 0 0), .i .i64 0], .box [.i .i64 0, .b false, .raw (.slice none 0 0)], .box u3], [.box [.sl a0.Links.length (a0.Links.flatMap eGNetLink), .sl v6.length (v6.flatMap eGNetPacket), .i .i64 a0.Next], .box [.raw (.slice none 0 0), .raw (.slice none 0 0), .i .i64 0], .box [.i .i64 0, .b false, .raw (.slice none 0 0)], .box u3]] (by kernel_rfl) mixed (by kernel_rfl) (by decide) rfl rfl rfl rfl ?_
      refine ev (sees_at 0 rfl rfl) rfl rfl (opv_fieldAddr_lp fi32_1 rfl) ?_
      refine ev (sees_at 0 rfl rfl) rfl rfl (opv_load1 ti30 rfl (.lp _ _ _ rfl) rfl) ?_
      refine ev (sees_at 0 rfl rfl) rfl rfl (opv_mv rfl) ?_
      refine ev (sees_at 0 rfl rfl) rfl rfl (opv_cut (f := eGNetPacket) (lo := 0) (hi := a1) si30 (fun _ => rfl) rfl rfl rfl bound_none (bound_some rfl (Int.le_trans (cut_eq hc4).1.1 (cut_eq hc4).1.2.1)) hc4) ?_
      refine ev (sees_at 0 rfl rfl) rfl rfl (opv_fieldAddr_lp fi32_1 rfl) ?_
      refine ev (sees_at 0 rfl rfl) rfl rfl (opv_load1 ti30 rfl (.lp _ _ _ rfl) rfl) ?_
      refine ev (sees_at 0 rfl rfl) rfl rfl (opv_mv rfl) ?_
      refine ev (sees_at 0 rfl rfl) rfl rfl (opv_add rfl rfl) ?_
      refine ev (sees_at 0 rfl rfl) rfl rfl (opv_cut (f := eGNetPacket) (lo := (wI (a1 + 1))) (hi := (a0.Packets.length : Int)) si30 (fun _ => rfl) rfl rfl rfl (bound_some rfl (cut_eq hc5).1.1) (by exact rfl) hc5) ?_
      refine ed (sees_at 0 rfl rfl) rfl rfl (opD_bld (out := ([c4, c5] : List (List GNetPacket)).flatMap (eL eGNetPacket)) Try.underlying95 ei30 (parts_cons rfl (parts_cons rfl parts_nil)) (.cons _ _ _ _ _ _ _ rfl rfl (Nat.le_of_ble_eq_true rfl) (.cons _ _ _ _ _ _ _ rfl rfl (Nat.le_of_ble_eq_true rfl) (.nil _))) rfl (by decide)) ?_
      refine ed (sees_at 0 rfl rfl) rfl rfl (opD_call fn46 (opnds_cons rfl opnds_nil) rfl (m46_slices_Concat_c hv6)) ?_
      refine ev (sees_at 0 rfl rfl) rfl rfl (opv_fieldAddr_lp fi32_1 rfl) ?_
      refine ee0 0 rfl rfl rfl rfl (fun ζ => ?_) ?_
      · refine sstore sz30 rfl rfl rfl rfl (Nat.le_of_ble_eq_true rfl) ?_
        refine smem [.box [.sl a0.Links.length (a0.Links.flatMap eGNetLink), .sl v6.length (v6.flatMap eGNetPacket), .i .i64 a0.Next], .box [.raw (.slice none 0 0), .raw (.slice none 0 0), .i .i64 0], .box [.i .i64 0, .b false, .raw (.slice none 0 0)], .box u3] rfl ?_
        exact eend
      refine enil ?_
      refine then_normal ?_
      refine cseq ?_
      refine cdraw_e [2, 3] [0, 0, 1, 7, 15] [[.box [.sl a0.Links.length (a0.Links.flatMap eGNetLink), .sl v6.length (v6.flatMap eGNetPacket), .i .i64 a0.Next], .box [.raw (.slice none 0 0), .raw (.slice none 0 0), .i .i64 0], .box [.i .i64 0, .b false, .raw (.slice none 0 0)], .box u3], [.box [.sl a0.Links.length (a0.Links.flatMap eGNetLink), .sl v6.length (v6.flatMap eGNetPacket), .i .i64 a0.Next], .box [.sl a0.Links.length (a0.Links.flatMap eGNetLink), .sl v6.length (v6.flatMap eGNetPacket), .i .i64 a0.Next], .box [.i .i64 0, .b false, .raw (.slice none 0 0)], .box u3], [.box [.sl a0.Links.length (a0.Links.flatMap eGNetLink), .sl v6.length (v6.flatMap eGNetPacket), .i .i64 a0.Next], .box [.sl a0.Links.length (a0.Links.flatMap eGNetLink), .sl v6.length (v6.flatMap eGNetPacket), .i .i64 a0.Next], .box u3, .box u3]] (by kernel_rfl) mixed (by kernel_rfl) (by decide) rfl rfl rfl rfl ?_
      refine ev (sees_at 0 rfl rfl) rfl rfl (opv_loadN ti32 rfl (.lp _ _ _ rfl) (Nat.le_of_ble_eq_true rfl)) ?_
      refine ev (sees_all (md := [.box [.sl a0.Links.length (a0.Links.flatMap eGNetLink), .sl v6.length (v6.flatMap eGNetPacket), .i .i64 a0.Next], .dead, .dead, .box u3]) ⟨⟨rfl, ⟨trivial, ⟨trivial, ⟨rfl, trivial⟩⟩⟩⟩, ⟨⟨rfl, ⟨trivial, ⟨trivial, ⟨rfl, trivial⟩⟩⟩⟩, ⟨⟨rfl, ⟨trivial, ⟨trivial, ⟨rfl, trivial⟩⟩⟩⟩, trivial⟩⟩⟩) rfl rfl (opv_loadN ti46 rfl (.lp _ _ _ rfl) (Nat.le_of_ble_eq_true rfl)) ?_
      refine ee0 0 rfl rfl rfl rfl (fun ζ => ?_) ?_
      · refine sstore sz32 rfl rfl rfl rfl (Nat.le_of_ble_eq_true rfl) ?_
        refine smem [.box [.sl a0.Links.length (a0.Links.flatMap eGNetLink), .sl v6.length (v6.flatMap eGNetPacket), .i .i64 a0.Next], .box [.sl a0.Links.length (a0.Links.flatMap eGNetLink), .sl v6.length (v6.flatMap eGNetPacket), .i .i64 a0.Next], .box [.i .i64 0, .b false, .raw (.slice none 0 0)], .box u3] rfl ?_
        exact eend
      refine ee0 1 rfl rfl rfl rfl (fun ζ => ?_) ?_
      · refine sstore sz46 rfl rfl rfl rfl (Nat.le_of_ble_eq_true rfl) ?_
        refine smem [.box [.sl a0.Links.length (a0.Links.flatMap eGNetLink), .sl v6.length (v6.flatMap eGNetPacket), .i .i64 a0.Next], .box [.sl a0.Links.length (a0.Links.flatMap eGNetLink), .sl v6.length (v6.flatMap eGNetPacket), .i .i64 a0.Next], .box u3, .box u3] rfl ?_
        exact eend
      refine ev (sees_at 2 rfl rfl) rfl rfl (opv_as rfl) ?_
      refine enil ?_
      refine then_normal ?_
      refine cret ?_
      obtain rfl := Option.some.inj h
      refine ⟨Or.inr rfl, _, _, _, (resVs_cons (ResV.agg _ _ _ _ _ ti32 rfl (.lp _ _ _ rfl) (Nat.le_of_ble_eq_true rfl)) (resVs_cons (ResV.agg _ _ _ _ _ ti46 rfl (.lp _ _ _ rfl) (Nat.le_of_ble_eq_true rfl)) (resVs_cons (ResV.tmp _ _ rfl) resVs_nil))), (pubA_id rfl), ?_⟩
      rfl

def m24_net_Drop (a0 : GNetNet) (a1 : Int) : Option GNetNet :=
  (m17_net_Take (GNetNet.mk a0.Links a0.Packets a0.Next) a1).bind fun v1 => some v1.1

set_option maxRecDepth 100000 in
theorem m24_net_Drop_c {a0 : GNetNet} {a1 : Int} {r : GNetNet} (h : m24_net_Drop a0 a1 = some r) : CallsA Try.prog 24 [.agg a0, .one (.i .i64 a1)] (· = .s (.agg r)) := by
  unfold m24_net_Drop at h
  refine callsA_of Try.func24 rfl (nt := 13) rfl (Nat.le_of_ble_eq_true rfl) ?_
  intro w0 S0
  refine cseq ?_
  refine cregion ?_
  refine sbox rfl rfl ?_
  refine salloc rfl zi32 ?_
  refine snil ?_
  refine cseq ?_
  refine cregion ?_
  refine sv rfl (opv_loadN ti32 rfl (.lp _ _ _ rfl) (Nat.le_of_ble_eq_true rfl)) ?_
  refine sv rfl (opv_mv rfl) ?_
  obtain ⟨v1, hv1, h⟩ := bind_eq h
  refine scall1 rfl fn17 (opnds_cons rfl (opnds_cons rfl opnds_nil)) (pubA_id rfl) (m17_net_Take_c hv1) ?_
  refine sv rfl (opv_mvt rfl) ?_
  refine sv rfl (opv_extract rfl rfl) ?_
  refine sv rfl (opv_extract rfl rfl) ?_
  refine sv rfl (opv_extract rfl rfl) ?_
  refine sstore sz32 rfl rfl rfl rfl (Nat.le_of_ble_eq_true rfl) ?_
  refine smem [.box v1.1, .box [.raw (.slice none 0 0), .raw (.slice none 0 0), .i .i64 0]] rfl ?_
  refine snil ?_
  refine cseq ?_
  refine cregion ?_
  refine sv rfl (opv_loadN ti32 rfl (.lp _ _ _ rfl) (Nat.le_of_ble_eq_true rfl)) ?_
  refine sstore sz32 rfl rfl rfl rfl (Nat.le_of_ble_eq_true rfl) ?_
  refine smem [.box v1.1, .box v1.1] rfl ?_
  refine snil ?_
  refine cret ?_
  obtain rfl := Option.some.inj h
  refine ⟨Or.inr rfl, _, _, _, (resVs_cons (ResV.agg _ _ _ _ _ ti32 rfl (.lp _ _ _ rfl) (Nat.le_of_ble_eq_true rfl)) resVs_nil), (pubA_id rfl), ?_⟩
  rfl

def m8_l22_awake  : Option Bool :=
  (m11_net_Open (GNetNet.mk ([] : List GNetLink) ([] : List GNetPacket) 0) 1 5).bind fun v1 => (m13_net_Send (GNetNet.mk v1.1.Links v1.1.Packets v1.1.Next) v1.2.1 true [(UInt8.ofBitVec (97#8))]).bind fun v2 => (m19_net_Dup v2.1 0).bind fun v3 => (m24_net_Drop v3.1 0).bind fun v4 => (m17_net_Take v4 0).bind fun v5 => if (decide (v1.2.2 = 0)) then (if (decide (v2.2 = 0)) then (if (decide (v3.2 = 0)) then (if (decide ((v4.Packets.length : Int) = 1)) then (if v5.2.2 then (if (v5.2.1.Bytes == ([97] : List UInt8)) then (if v5.2.1.Up then (some (decide ((v5.1.Packets.length : Int) = 0))) else (some false)) else (some false)) else (some false)) else (some false)) else (some false)) else (some false)) else (some false)

set_option maxRecDepth 100000 in
theorem m8_l22_awake_c  {r : Bool} (h : m8_l22_awake = some r) : CallsA Try.prog 8 [] (· = .s (.one (.b r))) := by
  unfold m8_l22_awake at h
  refine callsA_of Try.func8 rfl (nt := 71) rfl (Nat.le_of_ble_eq_true rfl) ?_
  intro w0 S0
  refine cseq ?_
  refine cregion ?_
  refine sv rfl (opv_as rfl) ?_
  refine snil ?_
  refine cseq ?_
  refine cregion ?_
  refine sv rfl (opv_build zi32 pi32 parts_nil (.nil _)) ?_
  obtain ⟨v1, hv1, h⟩ := bind_eq h
  refine scall1 rfl fn11 (opnds_cons rfl (opnds_cons rfl (opnds_cons rfl opnds_nil))) (pubC rfl) (m11_net_Open_c hv1) ?_
  refine sv rfl (opv_mvt rfl) ?_
  refine sv rfl (opv_extract rfl rfl) ?_
  refine sv rfl (opv_extract rfl rfl) ?_
  refine sv rfl (opv_extract rfl rfl) ?_
  refine salloc rfl zi32 ?_
  refine sstore sz32 rfl rfl rfl rfl (Nat.le_of_ble_eq_true rfl) ?_
  refine smem [.box v1.1] rfl ?_
  refine sv rfl (opv_as rfl) ?_
  refine sv rfl (opv_as rfl) ?_
  refine snil ?_
  refine cseq ?_
  refine cregion ?_
  refine sv rfl (opv_loadN ti32 rfl (.lp _ _ _ rfl) (Nat.le_of_ble_eq_true rfl)) ?_
  refine sv rfl (opv_mv rfl) ?_
  refine sbuild1 rfl Try.underlying26 ei5 rfl rfl (List.all_eq_true.1 rfl) (by decide) ?_
  refine smem [.box v1.1, .arr 5 1 0 ([(UInt8.ofBitVec (97#8))].flatMap eU8)] rfl ?_
  refine sconv_id rfl Try.underlying26 Try.underlying5 rfl rfl (flat_len (f := eU8) (fun _ => rfl) [(UInt8.ofBitVec (97#8))]).symm (by decide) ?_
  obtain ⟨v2, hv2, h⟩ := bind_eq h
  refine scall1 rfl fn13 (opnds_cons rfl (opnds_cons rfl (opnds_cons rfl (opnds_cons rfl opnds_nil)))) (pubA_id rfl) (m13_net_Send_c hv2) ?_
  refine sv rfl (opv_mvt rfl) ?_
  refine sv rfl (opv_extract rfl rfl) ?_
  refine sv rfl (opv_extract rfl rfl) ?_
  refine sstore sz32 rfl rfl rfl rfl (Nat.le_of_ble_eq_true rfl) ?_
  refine smem [.box v2.1, .dead] rfl ?_
  refine sv rfl (opv_as rfl) ?_
  refine snil ?_
  refine cseq ?_
  refine cregion ?_
  refine sv rfl (opv_loadN ti32 rfl (.lp _ _ _ rfl) (Nat.le_of_ble_eq_true rfl)) ?_
  obtain ⟨v3, hv3, h⟩ := bind_eq h
  refine scall1 rfl fn19 (opnds_cons rfl (opnds_cons rfl opnds_nil)) (pubA_id rfl) (m19_net_Dup_c hv3) ?_
  refine sv rfl (opv_mvt rfl) ?_
  refine sv rfl (opv_extract rfl rfl) ?_
  refine sv rfl (opv_extract rfl rfl) ?_
  refine sstore sz32 rfl rfl rfl rfl (Nat.le_of_ble_eq_true rfl) ?_
  refine smem [.box v3.1, .dead] rfl ?_
  refine sv rfl (opv_as rfl) ?_
  refine snil ?_
  refine cseq ?_
  refine cregion ?_
  refine sv rfl (opv_loadN ti32 rfl (.lp _ _ _ rfl) (Nat.le_of_ble_eq_true rfl)) ?_
  obtain ⟨v4, hv4, h⟩ := bind_eq h
  refine scall1 rfl fn24 (opnds_cons rfl (opnds_cons rfl opnds_nil)) (pubA_id rfl) (m24_net_Drop_c hv4) ?_
  refine sstore sz32 rfl rfl rfl rfl (Nat.le_of_ble_eq_true rfl) ?_
  refine smem [.box v4, .dead] rfl ?_
  refine snil ?_
  refine cseq ?_
  refine cregion ?_
  refine sv rfl (opv_loadN ti32 rfl (.lp _ _ _ rfl) (Nat.le_of_ble_eq_true rfl)) ?_
  obtain ⟨v5, hv5, h⟩ := bind_eq h
  refine scall1 rfl fn17 (opnds_cons rfl (opnds_cons rfl opnds_nil)) (pubA_id rfl) (m17_net_Take_c hv5) ?_
  refine sv rfl (opv_mvt rfl) ?_
  refine sv rfl (opv_extract rfl rfl) ?_
  refine sv rfl (opv_extract rfl rfl) ?_
  refine sv rfl (opv_extract rfl rfl) ?_
  refine salloc rfl zi32 ?_
  refine salloc rfl zi46 ?_
  refine sstore sz32 rfl rfl rfl rfl (Nat.le_of_ble_eq_true rfl) ?_
  refine smem [.box v4, .dead, .box v5.1, .box [.i .i64 0, .b false, .raw (.slice none 0 0)]] rfl ?_
  refine sstore sz46 rfl rfl rfl rfl (Nat.le_of_ble_eq_true rfl) ?_
  refine smem [.box v4, .dead, .box v5.1, .box v5.2.1] rfl ?_
  refine sv rfl (opv_as rfl) ?_
  refine snil ?_
  refine cseq ?_
  refine cregion ?_
  refine sv rfl (opv_mv rfl) ?_
  refine sv rfl (opv_ieql rfl rfl) ?_
  refine sv rfl (opv_mv rfl) ?_
  refine ssplit 38 rfl (fun hc => ?_) (fun hc => ?_)
  · replace h := ite_t hc h
    clear hc
    refine son rfl rfl rfl ?_
    refine sv rfl (opv_mv rfl) ?_
    refine son rfl rfl rfl ?_
    refine sv rfl (opv_ieql rfl rfl) ?_
    refine sv rfl (opv_pick_t rfl rfl) ?_
    refine sv rfl (opv_mv rfl) ?_
    refine ssplit 42 rfl (fun hc => ?_) (fun hc => ?_)
    · replace h := ite_t hc h
      clear hc
      refine son rfl rfl rfl ?_
      refine sv rfl (opv_mv rfl) ?_
      refine son rfl rfl rfl ?_
      refine sv rfl (opv_ieql rfl rfl) ?_
      refine sv rfl (opv_pick_t rfl rfl) ?_
      refine sv rfl (opv_mv rfl) ?_
      refine ssplit 46 rfl (fun hc => ?_) (fun hc => ?_)
      · replace h := ite_t hc h
        clear hc
        refine son rfl rfl rfl ?_
        refine sv rfl (opv_fieldAddr_lp fi32_1 rfl) ?_
        refine son rfl rfl rfl ?_
        refine sv rfl (opv_load1 ti30 rfl (.lp _ _ _ rfl) rfl) ?_
        refine son rfl rfl rfl ?_
        refine sv rfl (opv_len_sl si30 rfl) ?_
        refine son rfl rfl rfl ?_
        refine sv rfl (opv_ieql rfl rfl) ?_
        refine sv rfl (opv_pick_t rfl rfl) ?_
        refine sv rfl (opv_mv rfl) ?_
        refine ssplit 52 rfl (fun hc => ?_) (fun hc => ?_)
        · replace h := ite_t hc h
          clear hc
          refine son rfl rfl rfl ?_
          refine sv rfl (opv_mv rfl) ?_
          refine sv rfl (opv_pick_t rfl rfl) ?_
          refine sv rfl (opv_mv rfl) ?_
          refine ssplit 55 rfl (fun hc => ?_) (fun hc => ?_)
          · replace h := ite_t hc h
            clear hc
            refine son rfl rfl rfl ?_
            refine sv rfl (opv_fieldAddr_lp fi46_2 rfl) ?_
            refine son rfl rfl rfl ?_
            refine sv rfl (opv_load1 ti26 rfl (.lp _ _ _ rfl) rfl) ?_
            refine son rfl rfl rfl ?_
            refine sv rfl (opv_bs (l := v5.2.1.Bytes) Try.underlying26 Try.underlying5 Try.underlying9 rfl rfl rfl) ?_
            refine son rfl rfl rfl ?_
            refine sv rfl (opv_seql' rfl rfl) ?_
            refine sv rfl (opv_pick_t rfl rfl) ?_
            refine sv rfl (opv_mv rfl) ?_
            refine ssplit 61 rfl (fun hc => ?_) (fun hc => ?_)
            · replace h := ite_t hc h
              clear hc
              refine son rfl rfl rfl ?_
              refine sv rfl (opv_fieldAddr_lp fi46_1 rfl) ?_
              refine son rfl rfl rfl ?_
              refine sv rfl (opv_load1 ti4 rfl (.lp _ _ _ rfl) rfl) ?_
              refine sv rfl (opv_pick_t rfl rfl) ?_
              refine sv rfl (opv_mv rfl) ?_
              refine ssplit 65 rfl (fun hc => ?_) (fun hc => ?_)
              · replace h := ite_t hc h
                clear hc
                refine son rfl rfl rfl ?_
                refine sv rfl (opv_fieldAddr_lp fi32_1 rfl) ?_
                refine son rfl rfl rfl ?_
                refine sv rfl (opv_load1 ti30 rfl (.lp _ _ _ rfl) rfl) ?_
                refine son rfl rfl rfl ?_
                refine sv rfl (opv_len_sl si30 rfl) ?_
                refine son rfl rfl rfl ?_
                refine sv rfl (opv_ieql rfl rfl) ?_
                refine sv rfl (opv_pick_t rfl rfl) ?_
                refine sv rfl (opv_as rfl) ?_
                refine snil ?_
                refine cret ?_
                obtain rfl := Option.some.inj h
                refine ⟨Or.inr rfl, _, _, _, (resVs_cons (ResV.tmp _ _ rfl) resVs_nil), (pubA_id rfl), ?_⟩
                rfl
              · replace h := ite_f hc h
                clear hc
                refine soff rfl rfl rfl rfl ?_
                refine soff rfl rfl rfl rfl ?_
                refine soff rfl rfl rfl rfl ?_
                refine soff rfl rfl rfl rfl ?_
                refine sv rfl (opv_pick_f rfl rfl) ?_
                refine sv rfl (opv_as rfl) ?_
                refine snil ?_
                refine cret ?_
                obtain rfl := Option.some.inj h
                refine ⟨Or.inr rfl, _, _, _, (resVs_cons (ResV.tmp _ _ rfl) resVs_nil), (pubA_id rfl), ?_⟩
                rfl
            · replace h := ite_f hc h
              clear hc
              refine soff rfl rfl rfl rfl ?_
              refine soff rfl rfl rfl rfl ?_
              refine sv rfl (opv_pick_f rfl rfl) ?_
              refine sv rfl (opv_mv rfl) ?_
              refine soff rfl rfl rfl rfl ?_
              refine soff rfl rfl rfl rfl ?_
              refine soff rfl rfl rfl rfl ?_
              refine soff rfl rfl rfl rfl ?_
              refine sv rfl (opv_pick_f rfl rfl) ?_
              refine sv rfl (opv_as rfl) ?_
              refine snil ?_
              refine cret ?_
              obtain rfl := Option.some.inj h
              refine ⟨Or.inr rfl, _, _, _, (resVs_cons (ResV.tmp _ _ rfl) resVs_nil), (pubA_id rfl), ?_⟩
              rfl
          · replace h := ite_f hc h
            clear hc
            refine soff rfl rfl rfl rfl ?_
            refine soff rfl rfl rfl rfl ?_
            refine soff rfl rfl rfl rfl ?_
            refine soff rfl rfl rfl rfl ?_
            refine sv rfl (opv_pick_f rfl rfl) ?_
            refine sv rfl (opv_mv rfl) ?_
            refine soff rfl rfl rfl rfl ?_
            refine soff rfl rfl rfl rfl ?_
            refine sv rfl (opv_pick_f rfl rfl) ?_
            refine sv rfl (opv_mv rfl) ?_
            refine soff rfl rfl rfl rfl ?_
            refine soff rfl rfl rfl rfl ?_
            refine soff rfl rfl rfl rfl ?_
            refine soff rfl rfl rfl rfl ?_
            refine sv rfl (opv_pick_f rfl rfl) ?_
            refine sv rfl (opv_as rfl) ?_
            refine snil ?_
            refine cret ?_
            obtain rfl := Option.some.inj h
            refine ⟨Or.inr rfl, _, _, _, (resVs_cons (ResV.tmp _ _ rfl) resVs_nil), (pubA_id rfl), ?_⟩
            rfl
        · replace h := ite_f hc h
          clear hc
          refine soff rfl rfl rfl rfl ?_
          refine sv rfl (opv_pick_f rfl rfl) ?_
          refine sv rfl (opv_mv rfl) ?_
          refine soff rfl rfl rfl rfl ?_
          refine soff rfl rfl rfl rfl ?_
          refine soff rfl rfl rfl rfl ?_
          refine soff rfl rfl rfl rfl ?_
          refine sv rfl (opv_pick_f rfl rfl) ?_
          refine sv rfl (opv_mv rfl) ?_
          refine soff rfl rfl rfl rfl ?_
          refine soff rfl rfl rfl rfl ?_
          refine sv rfl (opv_pick_f rfl rfl) ?_
          refine sv rfl (opv_mv rfl) ?_
          refine soff rfl rfl rfl rfl ?_
          refine soff rfl rfl rfl rfl ?_
          refine soff rfl rfl rfl rfl ?_
          refine soff rfl rfl rfl rfl ?_
          refine sv rfl (opv_pick_f rfl rfl) ?_
          refine sv rfl (opv_as rfl) ?_
          refine snil ?_
          refine cret ?_
          obtain rfl := Option.some.inj h
          refine ⟨Or.inr rfl, _, _, _, (resVs_cons (ResV.tmp _ _ rfl) resVs_nil), (pubA_id rfl), ?_⟩
          rfl
      · replace h := ite_f hc h
        clear hc
        refine soff rfl rfl rfl rfl ?_
        refine soff rfl rfl rfl rfl ?_
        refine soff rfl rfl rfl rfl ?_
        refine soff rfl rfl rfl rfl ?_
        refine sv rfl (opv_pick_f rfl rfl) ?_
        refine sv rfl (opv_mv rfl) ?_
        refine soff rfl rfl rfl rfl ?_
        refine sv rfl (opv_pick_f rfl rfl) ?_
        refine sv rfl (opv_mv rfl) ?_
        refine soff rfl rfl rfl rfl ?_
        refine soff rfl rfl rfl rfl ?_
        refine soff rfl rfl rfl rfl ?_
        refine soff rfl rfl rfl rfl ?_
        refine sv rfl (opv_pick_f rfl rfl) ?_
        refine sv rfl (opv_mv rfl) ?_
        refine soff rfl rfl rfl rfl ?_
        refine soff rfl rfl rfl rfl ?_
        refine sv rfl (opv_pick_f rfl rfl) ?_
        refine sv rfl (opv_mv rfl) ?_
        refine soff rfl rfl rfl rfl ?_
        refine soff rfl rfl rfl rfl ?_
        refine soff rfl rfl rfl rfl ?_
        refine soff rfl rfl rfl rfl ?_
        refine sv rfl (opv_pick_f rfl rfl) ?_
        refine sv rfl (opv_as rfl) ?_
        refine snil ?_
        refine cret ?_
        obtain rfl := Option.some.inj h
        refine ⟨Or.inr rfl, _, _, _, (resVs_cons (ResV.tmp _ _ rfl) resVs_nil), (pubA_id rfl), ?_⟩
        rfl
    · replace h := ite_f hc h
      clear hc
      refine soff rfl rfl rfl rfl ?_
      refine soff rfl rfl rfl rfl ?_
      refine sv rfl (opv_pick_f rfl rfl) ?_
      refine sv rfl (opv_mv rfl) ?_
      refine soff rfl rfl rfl rfl ?_
      refine soff rfl rfl rfl rfl ?_
      refine soff rfl rfl rfl rfl ?_
      refine soff rfl rfl rfl rfl ?_
      refine sv rfl (opv_pick_f rfl rfl) ?_
      refine sv rfl (opv_mv rfl) ?_
      refine soff rfl rfl rfl rfl ?_
      refine sv rfl (opv_pick_f rfl rfl) ?_
      refine sv rfl (opv_mv rfl) ?_
      refine soff rfl rfl rfl rfl ?_
      refine soff rfl rfl rfl rfl ?_
      refine soff rfl rfl rfl rfl ?_
      refine soff rfl rfl rfl rfl ?_
      refine sv rfl (opv_pick_f rfl rfl) ?_
      refine sv rfl (opv_mv rfl) ?_
      refine soff rfl rfl rfl rfl ?_
      refine soff rfl rfl rfl rfl ?_
      refine sv rfl (opv_pick_f rfl rfl) ?_
      refine sv rfl (opv_mv rfl) ?_
      refine soff rfl rfl rfl rfl ?_
      refine soff rfl rfl rfl rfl ?_
      refine soff rfl rfl rfl rfl ?_
      refine soff rfl rfl rfl rfl ?_
      refine sv rfl (opv_pick_f rfl rfl) ?_
      refine sv rfl (opv_as rfl) ?_
      refine snil ?_
      refine cret ?_
      obtain rfl := Option.some.inj h
      refine ⟨Or.inr rfl, _, _, _, (resVs_cons (ResV.tmp _ _ rfl) resVs_nil), (pubA_id rfl), ?_⟩
      rfl
  · replace h := ite_f hc h
    clear hc
    refine soff rfl rfl rfl rfl ?_
    refine soff rfl rfl rfl rfl ?_
    refine sv rfl (opv_pick_f rfl rfl) ?_
    refine sv rfl (opv_mv rfl) ?_
    refine soff rfl rfl rfl rfl ?_
    refine soff rfl rfl rfl rfl ?_
    refine sv rfl (opv_pick_f rfl rfl) ?_
    refine sv rfl (opv_mv rfl) ?_
    refine soff rfl rfl rfl rfl ?_
    refine soff rfl rfl rfl rfl ?_
    refine soff rfl rfl rfl rfl ?_
    refine soff rfl rfl rfl rfl ?_
    refine sv rfl (opv_pick_f rfl rfl) ?_
    refine sv rfl (opv_mv rfl) ?_
    refine soff rfl rfl rfl rfl ?_
    refine sv rfl (opv_pick_f rfl rfl) ?_
    refine sv rfl (opv_mv rfl) ?_
    refine soff rfl rfl rfl rfl ?_
    refine soff rfl rfl rfl rfl ?_
    refine soff rfl rfl rfl rfl ?_
    refine soff rfl rfl rfl rfl ?_
    refine sv rfl (opv_pick_f rfl rfl) ?_
    refine sv rfl (opv_mv rfl) ?_
    refine soff rfl rfl rfl rfl ?_
    refine soff rfl rfl rfl rfl ?_
    refine sv rfl (opv_pick_f rfl rfl) ?_
    refine sv rfl (opv_mv rfl) ?_
    refine soff rfl rfl rfl rfl ?_
    refine soff rfl rfl rfl rfl ?_
    refine soff rfl rfl rfl rfl ?_
    refine soff rfl rfl rfl rfl ?_
    refine sv rfl (opv_pick_f rfl rfl) ?_
    refine sv rfl (opv_as rfl) ?_
    refine snil ?_
    refine cret ?_
    obtain rfl := Option.some.inj h
    refine ⟨Or.inr rfl, _, _, _, (resVs_cons (ResV.tmp _ _ rfl) resVs_nil), (pubA_id rfl), ?_⟩
    rfl

def m9_r22_Few_k2 (b2 : Unit) : Option Bool :=
  some true

def m9_r22_Few_s3 (a0 : GR22Net) (s3 : Int) : Option (LR (Int) (Unit) (Bool)) :=
  if (decide (s3 < (a0.Packets.length : Int))) then ((idx a0.Packets s3).bind fun u4 => if (decide (2100 < (u4.Bytes.length : Int))) then (some (.ret false)) else (some (.cont (wI (s3 + 1))))) else (some (.brk ()))

def m9_r22_Few_k1 (a0 : GR22Net) (b1 : Unit) : Option Bool :=
  (iter (m9_r22_Few_s3 a0) fuel 0).bind fun x => match x with | .inl r => some r | .inr e5 => m9_r22_Few_k2 e5
def m9_r22_Few (a0 : GR22Net) : Option Bool :=
  if (decide (12 < (a0.Links.length : Int))) then (some false) else (if (decide (80 < (a0.Packets.length : Int))) then (some false) else (m9_r22_Few_k1 a0 ()))

set_option maxRecDepth 100000 in
theorem m9_r22_Few_c {a0 : GR22Net} {r : Bool} (h : m9_r22_Few a0 = some r) : CallsA Try.prog 9 [.agg a0] (· = .s (.one (.b r))) := by
  unfold m9_r22_Few at h
  refine callsA_of Try.func9 rfl (nt := 29) rfl (Nat.le_of_ble_eq_true rfl) ?_
  intro w0 S0
  refine cseq ?_
  refine cregion ?_
  refine sbox rfl rfl ?_
  refine sv rfl (opv_as rfl) ?_
  refine snil ?_
  refine cseq ?_
  refine cseq ?_
  refine cjoin3 (Unit) (fun b1 => [(1, .s (.one (.lp 0 0)))]) (fun b1 => [.box a0]) (fun b1 => m9_r22_Few_k1 a0 b1 = some r) (fun _ _ => inbL_of rfl) (fun _ _ => blkinb_of rfl) (fun _ _ => Nat.le_of_ble_eq_true rfl) (fun b1 h => ?_) ?_
  · unfold m9_r22_Few_k1 at h
    refine cseq ?_
    refine cseq ?_
    refine cregion ?_
    refine sv rfl (opv_as rfl) ?_
    refine snil ?_
    refine cjoin (Unit) (fun b2 => []) (fun b2 => [.box a0]) (fun b2 => m9_r22_Few_k2 b2 = some r) (fun _ _ => inbL_of rfl) (fun _ _ => blkinb_of rfl) (fun _ _ => Nat.le_of_ble_eq_true rfl) (fun b2 h => ?_) ?_
    · unfold m9_r22_Few_k2 at h
      refine cseq ?_
      refine cregion ?_
      refine sv rfl (opv_as rfl) ?_
      refine snil ?_
      refine cret ?_
      obtain rfl := Option.some.inj h
      refine ⟨Or.inr rfl, _, _, _, (resVs_cons (ResV.tmp _ _ rfl) resVs_nil), (pubA_id rfl), ?_⟩
      rfl
    · skip
      refine cblock ?_
      obtain ⟨x3, hx3, ho3⟩ := bind_eq h
      refine awc_loop (G := Nat × (Int)) (fun g => [(1, .s (.one (.lp 0 0))), (3, .s (.one (.i .i64 g.2)))]) (fun g => [.box a0]) (fun g => iter (m9_r22_Few_s3 a0) g.1 g.2 = some x3) (fun g => g.1) (fuel, 0) hx3 ⟨rfl, rfl, trivial⟩ [] rfl (fun _ _ => inbL_of rfl) (fun _ _ => blkinb_of rfl) (fun _ _ => Nat.le_of_ble_eq_true rfl) ?_
      clear hx3 h
      rintro ⟨n3, s3⟩ h
      obtain ⟨n3, y3, rfl, h, hk3⟩ := iter_eq h
      unfold m9_r22_Few_s3 at h
      refine cseq ?_
      refine cseq ?_
      refine cregion ?_
      refine sv rfl (opv_mv rfl) ?_
      refine sv rfl (opv_fieldAddr_lp fi25_1 rfl) ?_
      refine sv rfl (opv_load1 ti23 rfl (.lp _ _ _ rfl) rfl) ?_
      refine sv rfl (opv_len_sl si23 rfl) ?_
      refine sv rfl (opv_lss rfl rfl) ?_
      refine snil ?_
      refine ccond rfl (fun hc => ?_) (fun hc => ?_)
      · replace h := ite_t hc h
        clear hc
        refine cskip ?_
        refine then_normal ?_
        refine cseq ?_
        refine cblock ?_
        refine cseq ?_
        refine cregion ?_
        refine sv rfl (opv_fieldAddr_lp fi25_1 rfl) ?_
        refine sv rfl (opv_load1 ti23 rfl (.lp _ _ _ rfl) rfl) ?_
        refine sv rfl (opv_mv rfl) ?_
        obtain ⟨u4, hu4, h⟩ := bind_eq h
        refine sv rfl (opv_ix (f := eGR22Packet) si23 (fun _ => rfl) rfl rfl rfl rfl hu4) ?_
        refine sv rfl (opv_fieldAddr_cp fi49_2 rfl) ?_
        refine sv rfl (opv_load1 ti26 rfl (.cp _) rfl) ?_
        refine sv rfl (opv_len_sl si26 rfl) ?_
        refine sv rfl (opv_gtr rfl rfl) ?_
        refine snil ?_
        refine ccond rfl (fun hc => ?_) (fun hc => ?_)
        · replace h := ite_t hc h
          clear hc
          refine cseq ?_
          refine cregion ?_
          refine sv rfl (opv_as rfl) ?_
          refine snil ?_
          refine cret ?_
          refine block_ret ?_
          refine then_ret ?_
          refine then_ret ?_
          refine block_ret ?_
          refine then_ret ?_
          obtain rfl := Option.some.inj h
          obtain rfl : Sum.inl _ = x3 := hk3
          replace ho3 : some _ = some _ := ho3
          obtain rfl := Option.some.inj ho3
          refine ⟨Or.inr rfl, _, _, _, (resVs_cons (ResV.tmp _ _ rfl) resVs_nil), (pubA_id rfl), ?_⟩
          rfl
        · replace h := ite_f hc h
          clear hc
          refine cskip ?_
          refine block_normal ?_
          refine then_normal ?_
          refine cregion ?_
          refine sv rfl (opv_mv rfl) ?_
          refine sv rfl (opv_add rfl rfl) ?_
          refine sv rfl (opv_as rfl) ?_
          refine snil ?_
          obtain rfl := Option.some.inj h
          exact ⟨(n3, (wI (s3 + 1))), _, hk3, ⟨rfl, rfl, trivial⟩, rfl, Nat.lt_succ_self _⟩
      · replace h := ite_f hc h
        clear hc
        refine cexit ?_
        refine then_exit ?_
        refine then_exit ?_
        refine block_hit ?_
        refine then_normal ?_
        obtain rfl := Option.some.inj h
        obtain rfl : _ = x3 := hk3
        exact ⟨(), _, ho3, trivial, rfl⟩
  · skip
    refine cregion ?_
    refine sv rfl (opv_fieldAddr_lp fi25_0 rfl) ?_
    refine sv rfl (opv_load1 ti22 rfl (.lp _ _ _ rfl) rfl) ?_
    refine sv rfl (opv_len_sl si22 rfl) ?_
    refine sv rfl (opv_gtr rfl rfl) ?_
    refine sv rfl (opv_mv rfl) ?_
    refine ssplit 8 rfl (fun hc => ?_) (fun hc => ?_)
    · replace h := ite_t hc h
      clear hc
      refine soff rfl rfl rfl rfl ?_
      refine soff rfl rfl rfl rfl ?_
      refine soff rfl rfl rfl rfl ?_
      refine soff rfl rfl rfl rfl ?_
      refine sv rfl (opv_pick_t rfl rfl) ?_
      refine snil ?_
      refine ccond rfl (fun _ => ?_) (fun hx => Bool.noConfusion hx)
      refine cseq ?_
      refine cregion ?_
      refine sv rfl (opv_as rfl) ?_
      refine snil ?_
      refine cret ?_
      refine then_ret ?_
      obtain rfl := Option.some.inj h
      refine ⟨Or.inr rfl, _, _, _, (resVs_cons (ResV.tmp _ _ rfl) resVs_nil), (pubA_id rfl), ?_⟩
      rfl
    · replace h := ite_f hc h
      clear hc
      refine son rfl rfl rfl ?_
      refine sv rfl (opv_fieldAddr_lp fi25_1 rfl) ?_
      refine son rfl rfl rfl ?_
      refine sv rfl (opv_load1 ti23 rfl (.lp _ _ _ rfl) rfl) ?_
      refine son rfl rfl rfl ?_
      refine sv rfl (opv_len_sl si23 rfl) ?_
      refine son rfl rfl rfl ?_
      refine sv rfl (opv_gtr rfl rfl) ?_
      refine sv rfl (opv_pick_f rfl rfl) ?_
      refine snil ?_
      refine ccond rfl (fun hc => ?_) (fun hc => ?_)
      · replace h := ite_t hc h
        clear hc
        refine cseq ?_
        refine cregion ?_
        refine sv rfl (opv_as rfl) ?_
        refine snil ?_
        refine cret ?_
        refine then_ret ?_
        obtain rfl := Option.some.inj h
        refine ⟨Or.inr rfl, _, _, _, (resVs_cons (ResV.tmp _ _ rfl) resVs_nil), (pubA_id rfl), ?_⟩
        rfl
      · replace h := ite_f hc h
        clear hc
        refine cskip ?_
        refine then_normal ?_
        exact ⟨(), _, h, ⟨rfl, trivial⟩, rfl⟩

def m10_l22_ours_k2 (a0 : GR22Net) (b1 : (List GNetLink)) (b2 : (List GNetPacket)) : Option GNetNet :=
  some (GNetNet.mk b1 b2 a0.Next)

def m10_l22_ours_s3 (a0 : GR22Net) (s3 : Int × (List GNetPacket)) : Option (LB (Int × (List GNetPacket)) ((List GNetPacket))) :=
  if (decide (s3.1 < (a0.Packets.length : Int))) then ((idx a0.Packets s3.1).bind fun u4 => if (s3.2.length + [(GNetPacket.mk u4.Link u4.Up u4.Bytes)].length) * 40 ≤ 140737488355328 then (some (.cont ((wI (s3.1 + 1)), (s3.2 ++ [(GNetPacket.mk u4.Link u4.Up u4.Bytes)])))) else none) else (some (.brk s3.2))

def m10_l22_ours_k1 (a0 : GR22Net) (b1 : (List GNetLink)) : Option GNetNet :=
  (iterB (m10_l22_ours_s3 a0) fuel (0, ([] : List GNetPacket))).bind fun e6 => m10_l22_ours_k2 a0 b1 e6

def m10_l22_ours_s7 (a0 : GR22Net) (s7 : Int × (List GNetLink)) : Option (LB (Int × (List GNetLink)) ((List GNetLink))) :=
  if (decide (s7.1 < (a0.Links.length : Int))) then ((idx a0.Links s7.1).bind fun u8 => if (s7.2.length + [(GNetLink.mk u8.ID u8.Client u8.Conn)].length) * 24 ≤ 140737488355328 then (some (.cont ((wI (s7.1 + 1)), (s7.2 ++ [(GNetLink.mk u8.ID u8.Client u8.Conn)])))) else none) else (some (.brk s7.2))
def m10_l22_ours (a0 : GR22Net) : Option GNetNet :=
  (iterB (m10_l22_ours_s7 a0) fuel (0, ([] : List GNetLink))).bind fun e10 => m10_l22_ours_k1 a0 e10

set_option maxRecDepth 100000 in
theorem m10_l22_ours_c {a0 : GR22Net} {r : GNetNet} (h : m10_l22_ours a0 = some r) : CallsA Try.prog 10 [.agg a0] (· = .s (.agg r)) := by
  unfold m10_l22_ours at h
  refine callsA_of Try.func10 rfl (nt := 60) rfl (Nat.le_of_ble_eq_true rfl) ?_
  intro w0 S0
  refine cseq ?_
  refine cregion ?_
  refine sbox rfl rfl ?_
  refine salloc rfl zi32 ?_
  refine snil ?_
  refine cseq ?_
  refine cregion ?_
  refine sv rfl (opv_fieldAddr_lp fi25_2 rfl) ?_
  refine sv rfl (opv_load1 ti3 rfl (.lp _ _ _ rfl) rfl) ?_
  refine sv rfl (opv_build zi32 pi32 (parts_cons rfl parts_nil) (.cons _ _ _ _ _ _ _ rfl rfl (Nat.le_of_ble_eq_true rfl) (.nil _))) ?_
  refine salloc rfl zi32 ?_
  refine sstore sz32 rfl rfl rfl rfl (Nat.le_of_ble_eq_true rfl) ?_
  refine smem [.box a0, .box [.raw (.slice none 0 0), .raw (.slice none 0 0), .i .i64 0], .box [.raw (.slice none 0 0), .raw (.slice none 0 0), .i .i64 a0.Next]] rfl ?_
  refine snil ?_
  refine cseq ?_
  refine cseq ?_
  refine cregion ?_
  refine sv rfl (opv_as rfl) ?_
  refine snil ?_
  refine sadopt_box_c 69 3 2 0 (by decide) rfl rfl ?_
  refine cjoin ((List GNetLink)) (fun b1 => [(1, .s (.one (.lp 0 0))), (2, .s (.one (.lp 1 0))), (3, .s (.one (.lp 2 0)))]) (fun b1 => [.box a0, .box [.raw (.slice none 0 0), .raw (.slice none 0 0), .i .i64 0], .box [.ls 3 b1.length, .raw (.slice none 0 0), .i .i64 a0.Next], .arr 69 3 0 (b1.flatMap eGNetLink)]) (fun b1 => m10_l22_ours_k1 a0 b1 = some r) (fun _ _ => inbL_of rfl) (fun _ _ => blkinb_of rfl) (fun _ _ => Nat.le_of_ble_eq_true rfl) (fun b1 h => ?_) ?_
  · unfold m10_l22_ours_k1 at h
    refine cseq ?_
    refine cseq ?_
    refine cregion ?_
    refine sv rfl (opv_as rfl) ?_
    refine snil ?_
    refine sadopt_box_c 46 3 2 1 (by decide) rfl rfl ?_
    refine cjoin ((List GNetPacket)) (fun b2 => [(2, .s (.one (.lp 1 0))), (3, .s (.one (.lp 2 0)))]) (fun b2 => [.box a0, .box [.raw (.slice none 0 0), .raw (.slice none 0 0), .i .i64 0], .box [.ls 3 b1.length, .ls 4 b2.length, .i .i64 a0.Next], .arr 69 3 0 (b1.flatMap eGNetLink), .arr 46 3 0 (b2.flatMap eGNetPacket)]) (fun b2 => m10_l22_ours_k2 a0 b1 b2 = some r) (fun _ _ => inbL_of rfl) (fun _ _ => blkinb_of rfl) (fun _ _ => Nat.le_of_ble_eq_true rfl) (fun b2 h => ?_) ?_
    · unfold m10_l22_ours_k2 at h
      refine cseq ?_
      refine cregion ?_
      refine sv rfl (opv_loadN ti32 rfl (.lp _ _ _ rfl) (Nat.le_of_ble_eq_true rfl)) ?_
      refine sstore sz32 rfl rfl rfl rfl (Nat.le_of_ble_eq_true rfl) ?_
      refine smem [.box a0, .box [.ls 3 b1.length, .ls 4 b2.length, .i .i64 a0.Next], .box [.ls 3 b1.length, .ls 4 b2.length, .i .i64 a0.Next], .arr 69 3 0 (b1.flatMap eGNetLink), .arr 46 3 0 (b2.flatMap eGNetPacket)] rfl ?_
      refine snil ?_
      refine cret ?_
      obtain rfl := Option.some.inj h
      refine ⟨Or.inr rfl, _, _, _, (resVs_cons (ResV.agg _ _ _ _ _ ti32 rfl (.lp _ _ _ rfl) (Nat.le_of_ble_eq_true rfl)) resVs_nil), (by (repeat' first | exact PubA.nil _ | apply PubA.cons | apply PubV.one | apply PubV.agg | exact PubL.nil | exact PubL.ls _ _ _ _ _ _ rfl (flat_len (f := eGNetLink) (fun _ => rfl) _).symm | exact PubL.ls _ _ _ _ _ _ rfl (flat_len (f := eGNetPacket) (fun _ => rfl) _).symm | exact PubL.id _ rfl | exact PubLs.nil _ | apply PubLs.cons)), ?_⟩
      rfl
    · skip
      refine cblock ?_
      obtain ⟨x3, hx3, ho3⟩ := bind_eq h
      refine awc_loop (G := Nat × (Int × (List GNetPacket))) (fun g => [(1, .s (.one (.lp 0 0))), (2, .s (.one (.lp 1 0))), (3, .s (.one (.lp 2 0))), (6, .s (.one (.i .i64 g.2.1)))]) (fun g => [.box a0, .box [.raw (.slice none 0 0), .raw (.slice none 0 0), .i .i64 0], .box [.ls 3 b1.length, .ls 4 g.2.2.length, .i .i64 a0.Next], .arr 69 3 0 (b1.flatMap eGNetLink), .arr 46 3 0 (g.2.2.flatMap eGNetPacket)]) (fun g => iterB (m10_l22_ours_s3 a0) g.1 g.2 = some x3) (fun g => g.1) (fuel, (0, ([] : List GNetPacket))) hx3 ⟨rfl, rfl, rfl, rfl, trivial⟩ [] rfl (fun _ _ => inbL_of rfl) (fun _ _ => blkinb_of rfl) (fun _ _ => Nat.le_of_ble_eq_true rfl) ?_
      clear hx3 h
      rintro ⟨n3, s3⟩ h
      obtain ⟨n3, y3, rfl, h, hk3⟩ := iterB_eq h
      unfold m10_l22_ours_s3 at h
      refine cseq ?_
      refine cseq ?_
      refine cregion ?_
      refine sv rfl (opv_mv rfl) ?_
      refine sv rfl (opv_fieldAddr_lp fi25_1 rfl) ?_
      refine sv rfl (opv_load1 ti23 rfl (.lp _ _ _ rfl) rfl) ?_
      refine sv rfl (opv_len_sl si23 rfl) ?_
      refine sv rfl (opv_lss rfl rfl) ?_
      refine snil ?_
      refine ccond rfl (fun hc => ?_) (fun hc => ?_)
      · replace h := ite_t hc h
        clear hc
        refine cskip ?_
        refine then_normal ?_
        refine cseq ?_
        refine cblock ?_
        refine cseq ?_
        refine cregion ?_
        refine sv rfl (opv_fieldAddr_lp fi25_1 rfl) ?_
        refine sv rfl (opv_load1 ti23 rfl (.lp _ _ _ rfl) rfl) ?_
        refine sv rfl (opv_mv rfl) ?_
        obtain ⟨u4, hu4, h⟩ := bind_eq h
        refine sv rfl (opv_ix (f := eGR22Packet) si23 (fun _ => rfl) rfl rfl rfl rfl hu4) ?_
        refine sv rfl (opv_loadNe (ys := [.i .i64 u4.Link, .b u4.Up, .sl u4.Bytes.length (u4.Bytes.flatMap eU8)]) ti49 rfl (.cp _) rfl rfl) ?_
        refine salloc rfl zi49 ?_
        refine sstore sz49 rfl rfl rfl rfl (Nat.le_of_ble_eq_true rfl) ?_
        refine smem [.box a0, .box [.raw (.slice none 0 0), .raw (.slice none 0 0), .i .i64 0], .box [.ls 3 b1.length, .ls 4 s3.2.length, .i .i64 a0.Next], .arr 69 3 0 (b1.flatMap eGNetLink), .arr 46 3 0 (s3.2.flatMap eGNetPacket), .box u4] rfl ?_
        refine snil ?_
        refine cregion ?_
        refine sv rfl (opv_fieldAddr_lp fi32_1 rfl) ?_
        refine sv rfl (opv_load1 ti30 rfl (.lp _ _ _ rfl) rfl) ?_
        refine sv rfl (opv_fieldAddr_lp fi49_0 rfl) ?_
        refine sv rfl (opv_load1 ti3 rfl (.lp _ _ _ rfl) rfl) ?_
        refine sv rfl (opv_fieldAddr_lp fi49_1 rfl) ?_
        refine sv rfl (opv_load1 ti4 rfl (.lp _ _ _ rfl) rfl) ?_
        refine sv rfl (opv_fieldAddr_lp fi49_2 rfl) ?_
        refine sv rfl (opv_load1 ti26 rfl (.lp _ _ _ rfl) rfl) ?_
        refine sv rfl (opv_build zi46 pi46 (parts_cons rfl (parts_cons rfl (parts_cons rfl parts_nil))) (.cons _ _ _ _ _ _ _ rfl rfl (Nat.le_of_ble_eq_true rfl) (.cons _ _ _ _ _ _ _ rfl rfl (Nat.le_of_ble_eq_true rfl) (.cons _ _ _ _ _ _ _ rfl rfl (Nat.le_of_ble_eq_true rfl) (.nil _))))) ?_
        refine sbuild1 rfl Try.underlying30 ei46 rfl rfl (List.all_eq_true.1 rfl) (by decide) ?_
        refine smem [.box a0, .box [.raw (.slice none 0 0), .raw (.slice none 0 0), .i .i64 0], .box [.ls 3 b1.length, .ls 4 s3.2.length, .i .i64 a0.Next], .arr 69 3 0 (b1.flatMap eGNetLink), .arr 46 3 0 (s3.2.flatMap eGNetPacket), .box u4, .arr 46 3 0 ([(GNetPacket.mk u4.Link u4.Up u4.Bytes)].flatMap eGNetPacket)] rfl ?_
        obtain ⟨hb5, h⟩ := chk_eq h
        refine sapp (f := eGNetPacket) (xs := s3.2) (us := [(GNetPacket.mk u4.Link u4.Up u4.Bytes)]) rfl Try.underlying30 ei46 ni30 (fun _ => rfl) rfl rfl (.one _ _ _ _ (.ls _ _ _ _ _ _ rfl (flat_len (f := eGNetPacket) (fun _ => rfl) [(GNetPacket.mk u4.Link u4.Up u4.Bytes)]).symm)) rfl rfl rfl (.sl _ _ _ (flat_len (f := eGNetPacket) (fun _ => rfl) _)) rfl rfl hb5 (by decide) ?_
        refine sv rfl (opv_fieldAddr_lp fi32_1 rfl) ?_
        refine sstore sz30 rfl rfl rfl rfl (Nat.le_of_ble_eq_true rfl) ?_
        refine smem [.box a0, .box [.raw (.slice none 0 0), .raw (.slice none 0 0), .i .i64 0], .box [.ls 3 b1.length, .ls 4 (s3.2 ++ [(GNetPacket.mk u4.Link u4.Up u4.Bytes)]).length, .i .i64 a0.Next], .arr 69 3 0 (b1.flatMap eGNetLink), .arr 46 3 0 ((s3.2 ++ [(GNetPacket.mk u4.Link u4.Up u4.Bytes)]).flatMap eGNetPacket), .box u4, .arr 46 3 ([(GNetPacket.mk u4.Link u4.Up u4.Bytes)].flatMap eGNetPacket).length ([(GNetPacket.mk u4.Link u4.Up u4.Bytes)].flatMap eGNetPacket)] rfl ?_
        refine snil0 ?_
        refine block_normal ?_
        refine then_normal ?_
        refine cregion ?_
        refine sv rfl (opv_mv rfl) ?_
        refine sv rfl (opv_add rfl rfl) ?_
        refine sv rfl (opv_as rfl) ?_
        refine snil ?_
        obtain rfl := Option.some.inj h
        exact ⟨(n3, ((wI (s3.1 + 1)), (s3.2 ++ [(GNetPacket.mk u4.Link u4.Up u4.Bytes)]))), _, hk3, ⟨rfl, rfl, rfl, rfl, trivial⟩, rfl, Nat.lt_succ_self _⟩
      · replace h := ite_f hc h
        clear hc
        refine cexit ?_
        refine then_exit ?_
        refine then_exit ?_
        refine block_hit ?_
        refine then_normal ?_
        obtain rfl := Option.some.inj h
        obtain rfl : _ = x3 := hk3
        exact ⟨s3.2, _, ho3, ⟨rfl, rfl, trivial⟩, rfl⟩
  · skip
    refine cblock ?_
    obtain ⟨x7, hx7, ho7⟩ := bind_eq h
    refine awc_loop (G := Nat × (Int × (List GNetLink))) (fun g => [(1, .s (.one (.lp 0 0))), (2, .s (.one (.lp 1 0))), (3, .s (.one (.lp 2 0))), (4, .s (.one (.i .i64 g.2.1)))]) (fun g => [.box a0, .box [.raw (.slice none 0 0), .raw (.slice none 0 0), .i .i64 0], .box [.ls 3 g.2.2.length, .raw (.slice none 0 0), .i .i64 a0.Next], .arr 69 3 0 (g.2.2.flatMap eGNetLink)]) (fun g => iterB (m10_l22_ours_s7 a0) g.1 g.2 = some x7) (fun g => g.1) (fuel, (0, ([] : List GNetLink))) hx7 ⟨rfl, rfl, rfl, rfl, trivial⟩ [] rfl (fun _ _ => inbL_of rfl) (fun _ _ => blkinb_of rfl) (fun _ _ => Nat.le_of_ble_eq_true rfl) ?_
    clear hx7 h
    rintro ⟨n7, s7⟩ h
    obtain ⟨n7, y7, rfl, h, hk7⟩ := iterB_eq h
    unfold m10_l22_ours_s7 at h
    refine cseq ?_
    refine cseq ?_
    refine cregion ?_
    refine sv rfl (opv_mv rfl) ?_
    refine sv rfl (opv_fieldAddr_lp fi25_0 rfl) ?_
    refine sv rfl (opv_load1 ti22 rfl (.lp _ _ _ rfl) rfl) ?_
    refine sv rfl (opv_len_sl si22 rfl) ?_
    refine sv rfl (opv_lss rfl rfl) ?_
    refine snil ?_
    refine ccond rfl (fun hc => ?_) (fun hc => ?_)
    · replace h := ite_t hc h
      clear hc
      refine cskip ?_
      refine then_normal ?_
      refine cseq ?_
      refine cblock ?_
      refine cseq ?_
      refine cregion ?_
      refine sv rfl (opv_fieldAddr_lp fi25_0 rfl) ?_
      refine sv rfl (opv_load1 ti22 rfl (.lp _ _ _ rfl) rfl) ?_
      refine sv rfl (opv_mv rfl) ?_
      obtain ⟨u8, hu8, h⟩ := bind_eq h
      refine sv rfl (opv_ix (f := eGR22Link) si22 (fun _ => rfl) rfl rfl rfl rfl hu8) ?_
      refine sv rfl (opv_loadNe (ys := [.i .i64 u8.ID, .i .i64 u8.Client, .i .i64 u8.Conn]) ti75 rfl (.cp _) rfl rfl) ?_
      refine salloc rfl zi75 ?_
      refine sstore sz75 rfl rfl rfl rfl (Nat.le_of_ble_eq_true rfl) ?_
      refine smem [.box a0, .box [.raw (.slice none 0 0), .raw (.slice none 0 0), .i .i64 0], .box [.ls 3 s7.2.length, .raw (.slice none 0 0), .i .i64 a0.Next], .arr 69 3 0 (s7.2.flatMap eGNetLink), .box u8] rfl ?_
      refine snil ?_
      refine cregion ?_
      refine sv rfl (opv_fieldAddr_lp fi32_0 rfl) ?_
      refine sv rfl (opv_load1 ti29 rfl (.lp _ _ _ rfl) rfl) ?_
      refine sv rfl (opv_fieldAddr_lp fi75_0 rfl) ?_
      refine sv rfl (opv_load1 ti3 rfl (.lp _ _ _ rfl) rfl) ?_
      refine sv rfl (opv_fieldAddr_lp fi75_1 rfl) ?_
      refine sv rfl (opv_load1 ti3 rfl (.lp _ _ _ rfl) rfl) ?_
      refine sv rfl (opv_fieldAddr_lp fi75_2 rfl) ?_
      refine sv rfl (opv_load1 ti3 rfl (.lp _ _ _ rfl) rfl) ?_
      refine sv rfl (opv_build zi69 pi69 (parts_cons rfl (parts_cons rfl (parts_cons rfl parts_nil))) (.cons _ _ _ _ _ _ _ rfl rfl (Nat.le_of_ble_eq_true rfl) (.cons _ _ _ _ _ _ _ rfl rfl (Nat.le_of_ble_eq_true rfl) (.cons _ _ _ _ _ _ _ rfl rfl (Nat.le_of_ble_eq_true rfl) (.nil _))))) ?_
      refine sbuild1 rfl Try.underlying29 ei69 rfl rfl (List.all_eq_true.1 rfl) (by decide) ?_
      refine smem [.box a0, .box [.raw (.slice none 0 0), .raw (.slice none 0 0), .i .i64 0], .box [.ls 3 s7.2.length, .raw (.slice none 0 0), .i .i64 a0.Next], .arr 69 3 0 (s7.2.flatMap eGNetLink), .box u8, .arr 69 3 0 ([(GNetLink.mk u8.ID u8.Client u8.Conn)].flatMap eGNetLink)] rfl ?_
      obtain ⟨hb9, h⟩ := chk_eq h
      refine sapp (f := eGNetLink) (xs := s7.2) (us := [(GNetLink.mk u8.ID u8.Client u8.Conn)]) rfl Try.underlying29 ei69 ni29 (fun _ => rfl) rfl rfl (.one _ _ _ _ (.ls _ _ _ _ _ _ rfl (flat_len (f := eGNetLink) (fun _ => rfl) [(GNetLink.mk u8.ID u8.Client u8.Conn)]).symm)) rfl rfl rfl (.sl _ _ _ (flat_len (f := eGNetLink) (fun _ => rfl) _)) rfl rfl hb9 (by decide) ?_
      refine sv rfl (opv_fieldAddr_lp fi32_0 rfl) ?_
      refine sstore sz29 rfl rfl rfl rfl (Nat.le_of_ble_eq_true rfl) ?_
      refine smem [.box a0, .box [.raw (.slice none 0 0), .raw (.slice none 0 0), .i .i64 0], .box [.ls 3 (s7.2 ++ [(GNetLink.mk u8.ID u8.Client u8.Conn)]).length, .raw (.slice none 0 0), .i .i64 a0.Next], .arr 69 3 0 ((s7.2 ++ [(GNetLink.mk u8.ID u8.Client u8.Conn)]).flatMap eGNetLink), .box u8, .arr 69 3 ([(GNetLink.mk u8.ID u8.Client u8.Conn)].flatMap eGNetLink).length ([(GNetLink.mk u8.ID u8.Client u8.Conn)].flatMap eGNetLink)] rfl ?_
      refine snil0 ?_
      refine block_normal ?_
      refine then_normal ?_
      refine cregion ?_
      refine sv rfl (opv_mv rfl) ?_
      refine sv rfl (opv_add rfl rfl) ?_
      refine sv rfl (opv_as rfl) ?_
      refine snil ?_
      obtain rfl := Option.some.inj h
      exact ⟨(n7, ((wI (s7.1 + 1)), (s7.2 ++ [(GNetLink.mk u8.ID u8.Client u8.Conn)]))), _, hk7, ⟨rfl, rfl, rfl, rfl, trivial⟩, rfl, Nat.lt_succ_self _⟩
    · replace h := ite_f hc h
      clear hc
      refine cexit ?_
      refine then_exit ?_
      refine then_exit ?_
      refine block_hit ?_
      refine then_normal ?_
      obtain rfl := Option.some.inj h
      obtain rfl : _ = x7 := hk7
      exact ⟨s7.2, _, ho7, ⟨rfl, rfl, rfl, trivial⟩, rfl⟩

def m31_r22_Sane_k3 (b3 : Unit) : Option Bool :=
  some true

def m31_r22_Sane_s4 (a0 : GR22Net) (s4 : Int) : Option (LR (Int) (Unit) (Bool)) :=
  if (decide (s4 < (a0.Packets.length : Int))) then ((idx a0.Packets s4).bind fun u5 => if (decide (u5.Link < 0)) then (some (.ret false)) else (if (decide (a0.Next ≤ u5.Link)) then (some (.ret false)) else (if (decide ((u5.Bytes.length : Int) < 1)) then (some (.ret false)) else (if (decide (2048 < (u5.Bytes.length : Int))) then (some (.ret false)) else (some (.cont (wI (s4 + 1)))))))) else (some (.brk ()))

def m31_r22_Sane_k2 (a0 : GR22Net) (b2 : Unit) : Option Bool :=
  (iter (m31_r22_Sane_s4 a0) fuel 0).bind fun x => match x with | .inl r => some r | .inr e6 => m31_r22_Sane_k3 e6

def m31_r22_Sane_k10 (s7 : Int) (b10 : Unit) : Option (LR (Int) (Unit) (Bool)) :=
  some (.cont (wI (s7 + 1)))

def m31_r22_Sane_s11 (a0 : GR22Net) (s7 : Int) (u8 : GR22Link) (s11 : Int) : Option (LR (Int) (Unit) (Bool)) :=
  if (decide (s11 < s7)) then ((idx a0.Links s11).bind fun u12 => if (decide (u12.Client = u8.Client)) then (some (.ret false)) else ((idx a0.Links s11).bind fun u13 => if (decide (u13.Conn = u8.Conn)) then (some (.ret false)) else (some (.cont (wI (s11 + 1)))))) else (some (.brk ()))

def m31_r22_Sane_k9 (a0 : GR22Net) (s7 : Int) (u8 : GR22Link) (b9 : Unit) : Option (LR (Int) (Unit) (Bool)) :=
  (iter (m31_r22_Sane_s11 a0 s7 u8) fuel 0).bind fun x => match x with | .inl r => some (.ret r) | .inr e14 => m31_r22_Sane_k10 s7 e14

def m31_r22_Sane_s7 (a0 : GR22Net) (s7 : Int) : Option (LR (Int) (Unit) (Bool)) :=
  if (decide (s7 < (a0.Links.length : Int))) then ((idx a0.Links s7).bind fun u8 => if (decide (u8.ID < 0)) then (some (.ret false)) else (if (decide (a0.Next ≤ u8.ID)) then (some (.ret false)) else (if (decide (u8.Client < 0)) then (some (.ret false)) else (if (decide (3 < u8.Client)) then (some (.ret false)) else (if (decide (u8.Conn < 0)) then (some (.ret false)) else (if (decide (0 < s7)) then ((idx a0.Links (wI (s7 - 1))).bind fun u15 => if (decide (u8.ID ≤ u15.ID)) then (some (.ret false)) else (m31_r22_Sane_k9 a0 s7 u8 ())) else (m31_r22_Sane_k9 a0 s7 u8 ()))))))) else (some (.brk ()))

def m31_r22_Sane_k1 (a0 : GR22Net) (b1 : Unit) : Option Bool :=
  (iter (m31_r22_Sane_s7 a0) fuel 0).bind fun x => match x with | .inl r => some r | .inr e16 => m31_r22_Sane_k2 a0 e16
end Go.Proofs.Ythmibhmmbajcfaa.Abs
