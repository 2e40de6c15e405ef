/-
  The row of PipeOnce, and its card: for every input the law returns true, and the input reads as it did.
-/
import Derived.Test.YtlpanhfojeaamaaDoorF16
import Derived.Test.YtlpanhfojeaamaaDoorR16p
import Derived.Test.YtlpanhfojeaamaaDoorRows
import Derived.Test.YtlpanhfojeaamaaDoorCards
import Derived.Test.YtlpanhfojeaamaaDoorTie
import Derived.ProofKit
import Derived.LaidMore
import Derived.OpenShut
import Derived.Stop.Joined
import Derived.SevenTiedAt
namespace Go.Proofs.YtlpanhfojeaamaaDoor.Abs
open Go.RowKit Go.Proofs

theorem pipeOnce_f : ∀ xs, FitsAll [.sl (.st (.pair (.int .i64) (.pair (.st (.pair (.int .i64) (.pair (.int .i64) (.pair (.int .i64) (.pair (.int .i64) (.pair (.bool) (.pair (.sl (.int .u8)) (.pair (.sl (.int .u8)) (.pair (.st (.pair (.sl (.int .u8)) (.pair (.sl (.int .u8)) (.pair (.bool) (.unit))))) (.unit)))))))))) (.pair (.st (.pair (.int .i64) (.pair (.int .i64) (.pair (.int .i64) (.pair (.int .i64) (.pair (.bool) (.pair (.sl (.int .u8)) (.pair (.sl (.st (.pair (.sl (.int .u8)) (.pair (.sl (.int .u8)) (.unit))))) (.unit))))))))) (.unit)))))] xs → CallsA Tryd.prog 4 xs (· = .s (.one (.b true)))
  | [], h => h.elim
  | [_], ⟨⟨ls0, h0, e0⟩, _⟩ => by
    obtain ⟨a0, q0, rfl⟩ := (ft_sl (Q := fun (x : GL16Act) => QGL16Act x) (fun h => ft_GL16Act h)) h0
    subst e0
    exact m4_l16_PipeOnce_c (pipeOnce_true a0)
  | _ :: _ :: _, h => h.2.elim
end Go.Proofs.YtlpanhfojeaamaaDoor.Abs

namespace Go.Proofs.YtlpanhfojeaamaaDoor
open Go.ChangeShapes Go.WideShapes Go.ChangeAt Go.WideMaps Go.WideElems Go.RowKit

theorem Tryd.own : ownKnob Tryd.prog.godebug = none := by kernel_rfl
theorem Tryd.laidOut : laidOutB Tryd.prog = true := by kernel_rfl
theorem seat_glr {W : World} (h : laidMetH Tryd.prog [("godwit/msg.kindParts", Rows.laid_godwit_msg_kindParts)] W) : Go.Proofs.YtlpanhfojeaamaaDoor.Abs.GLR W (Go.Proofs.YtlpanhfojeaamaaDoor.Abs.allS W) := by
  intro x hx
  obtain rfl := List.mem_singleton.1 hx
  exact Go.Proofs.YtlpanhfojeaamaaDoor.Abs.tab_rep (name := "godwit/msg.kindParts") (rows := Go.Proofs.YtlpanhfojeaamaaDoor.Abs.gl0) (t := 113) (e := 102) (k := 6) h (by kernel_rfl) (by kernel_rfl) Tryd.underlying113 Tryd.underlying102 (by kernel_rfl) (by kernel_rfl) (by decide)
theorem door_met (os : Os) (args : Array Value) : laidMetH Tryd.prog [("godwit/msg.kindParts", Rows.laid_godwit_msg_kindParts)] ((World.doorLaid Tryd.prog 400 os).forCall (fun _ _ => 0) ⟨#[], args, []⟩).memory :=
  laidMetH_of_parts3 (fuel := 8) (laidMet_of_run' 8 (by kernel_rfl) (by kernel_rfl)) (by kernel_rfl) (by kernel_rfl)

set_option maxRecDepth 100000 in
theorem pipeOnce_lifted (os : Os) (started : os.Started) (H : Type) (enc : TypeId × Value → H) :
    ReturnsInHanded {} Tryd.checked os 4 .any (fun w args => (Rows.pipeOnceSpec.pre enc Tryd.prog Tryd.f4 [] false w args ∧ laidMetH Tryd.prog [("godwit/msg.kindParts", Rows.laid_godwit_msg_kindParts)] w) ∧ sizedMet enc Tryd.prog Tryd.f4 (OpenSpec.ofChange Rows.pipeOnceSpec) false w args)
      (Rows.pipeOnceSpec.post enc Tryd.prog Tryd.f4 false true false false) := by
  refine returnsInHanded_of_change_and (C := Tryd.checked) (X := fun w _ => laidMetH Tryd.prog [("godwit/msg.kindParts", Rows.laid_godwit_msg_kindParts)] w) (fun _ _ _ hh h => h.of_heap hh) Tryd.own started (by kernel_rfl) Tryd.func4
    (ChangeSpec.witness_shaped (enc := enc) (C := Tryd.checked) (os := os) (X := fun w _ => laidMetH Tryd.prog [("godwit/msg.kindParts", Rows.laid_godwit_msg_kindParts)] w) false (World.doorLaid Tryd.prog 400 os) #[.slice none 0 0] 8 rfl (World.shaped_of_RefB (by kernel_rfl) (by kernel_rfl)) (by kernel_rfl) (by kernel_rfl) (by kernel_rfl) (door_met os _)) ?_
  intro W base args ds gs before hval hW _ _ hL _
  exact Go.Proofs.YtlpanhfojeaamaaDoor.Abs.law_contract (tb := 4) Tryd.laidOut [.sl (.st (.pair (.int .i64) (.pair (.st (.pair (.int .i64) (.pair (.int .i64) (.pair (.int .i64) (.pair (.int .i64) (.pair (.bool) (.pair (.sl (.int .u8)) (.pair (.sl (.int .u8)) (.pair (.st (.pair (.sl (.int .u8)) (.pair (.sl (.int .u8)) (.pair (.bool) (.unit))))) (.unit)))))))))) (.pair (.st (.pair (.int .i64) (.pair (.int .i64) (.pair (.int .i64) (.pair (.int .i64) (.pair (.bool) (.pair (.sl (.int .u8)) (.pair (.sl (.st (.pair (.sl (.int .u8)) (.pair (.sl (.int .u8)) (.unit))))) (.unit))))))))) (.unit)))))] (by kernel_rfl) rfl Tryd.underlying4 rfl (fun ds h => match ds, h with | [d0], _ => rfl) Go.Proofs.YtlpanhfojeaamaaDoor.Abs.pipeOnce_f (seat_glr hL) base args ds gs before hval hW

theorem pipeOnce_row_holds : Rows.PipeOnceSaid :=
  OpenClaim.holds_of_wide 4 Tryd.f4 rfl rfl rfl rfl rfl rfl rfl ⟨rfl, rfl, rfl, rfl, rfl⟩ rfl rfl rfl rfl rfl (by kernel_rfl) Tryd.func4 (by kernel_rfl)
    (of_decide_eq_true (by kernel_rfl)) (by unfold Func.isWrapper; first | (rw [if_pos (by decide +kernel)]; kernel_rfl) | (rw [if_neg (by decide +kernel)]; exact ⟨rfl, rfl⟩))
    (fun os started H enc _ => pipeOnce_lifted os started H enc)

theorem pipeOnce_holds : Rows.PipeOnceCardSaid :=
  Claim7.holds_tied_plain_at .later [] [.data] true (true, "38ecc9c4ea10193e7d2cd90bd452b22ec7cf8b67c22549e29cb589801b863c92") false
    pipeOnce_row_holds (fun _ h => by cases h) (by kernel_rfl) (fun _ h => by cases h) pipeOnce_row_tie rfl ⟨rfl, rfl⟩ (by kernel_rfl) rfl
    (fun f fn hf hfn => by
      obtain rfl : f = 4 := Option.some.inj ((show Tryd.prog.funcNamed "godwit/godwitlaw16.PipeOnce" = some 4 by kernel_rfl).symm.trans hf) |>.symm
      obtain rfl : fn = Tryd.f4 := (Option.some.inj (Tryd.func4.symm.trans hfn)).symm
      exact ⟨by kernel_rfl, fun j t ht => by
        rw [Tryd.params4] at ht
        have hm : t ∈ [72] := by simpa using Array.mem_of_getElem? ht
        have hall : ([72].all fun u => !Tryd.prog.wantsStandIn u) = true := by kernel_rfl
        exact (show Tryd.prog.wantsStandIn t = false by simpa using List.all_eq_true.1 hall t hm)⟩)
    (by kernel_rfl)

end Go.Proofs.YtlpanhfojeaamaaDoor
