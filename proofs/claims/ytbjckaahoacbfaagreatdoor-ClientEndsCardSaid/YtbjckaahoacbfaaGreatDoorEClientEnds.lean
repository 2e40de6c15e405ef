/-
  The row of ClientEnds, and its card: for every input the law returns true, and the input reads as it did.
-/
import Derived.Test.YtbjckaahoacbfaaGreatDoorEF21
import Derived.Test.YtbjckaahoacbfaaGreatDoorEV21
import Derived.Test.YtbjckaahoacbfaaGreatDoorRows
import Derived.Test.YtbjckaahoacbfaaGreatDoorCards
import Derived.Test.YtbjckaahoacbfaaGreatDoorTie
import Derived.ProofKit
import Derived.LaidMore
import Derived.OpenShut
import Derived.Stop.Joined
import Derived.SevenTiedAt
set_option linter.unusedVariables false
set_option linter.unusedSimpArgs false
namespace Go.Proofs.YtbjckaahoacbfaaGreatDoor.Abs
open Go.RowKit Go.Proofs
theorem clientEnds_f : ∀ xs, Yc [.sl (.st (.pair (.int .i64) (.pair (.int .i64) (.pair (.st (.pair (.int .i64) (.pair (.st (.pair (.bool) (.pair (.sl (.st (.pair (.int .i64) (.pair (.int .i64) (.pair (.int .i64) (.pair (.int .i64) (.pair (.sl (.int .u8)) (.pair (.st (.pair (.sl (.int .u8)) (.pair (.sl (.int .u8)) (.pair (.bool) (.unit))))) (.unit))))))))) (.unit)))) (.unit)))) (.pair (.st (.pair (.int .i64) (.pair (.int .i64) (.pair (.int .i64) (.pair (.int .i64) (.pair (.bool) (.pair (.sl (.int .u8)) (.pair (.sl (.st (.pair (.sl (.int .u8)) (.pair (.sl (.int .u8)) (.unit))))) (.unit))))))))) (.pair (.sl (.int .u8)) (.unit))))))), .bool] xs → Bp Tryz.prog 5 xs (· = .s (.one (.b true)))
  | [], h => h.elim
  | [_], h => h.2.elim
  | [_, _], ⟨⟨ls0, h0, e0⟩, ⟨ls1, h1, e1⟩, _⟩ => by
    obtain ⟨a0, q0, rfl⟩ := (W7 (Q := fun (x : Ka) => Ac3 x) (fun h => Aee h)) h0
    subst e0
    obtain ⟨a1, q1, rfl⟩ := Yq h1
    subst e1
    exact Sy (Vu a0 a1)
  | _ :: _ :: _ :: _, h => h.2.2.elim
end Go.Proofs.YtbjckaahoacbfaaGreatDoor.Abs
namespace Go.Proofs.YtbjckaahoacbfaaGreatDoor
open Go.ChangeShapes Go.WideShapes Go.ChangeAt Go.WideMaps Go.WideElems Go.RowKit
theorem Tryz.own : ownKnob Tryz.prog.godebug = none := by kernel_rfl
theorem Tryz.laidOut : laidOutB Tryz.prog = true := by kernel_rfl
theorem Aid {W : World} (h : laidMetH Tryz.prog [("godwit/msg.kindParts", Rows.laid_godwit_msg_kindParts)] W) : Go.Proofs.YtbjckaahoacbfaaGreatDoor.Abs.GLR W (Go.Proofs.YtbjckaahoacbfaaGreatDoor.Abs.allS W) := by
  intro x hx
  obtain rfl := List.mem_singleton.1 hx
  exact Go.Proofs.YtbjckaahoacbfaaGreatDoor.Abs.tab_rep (name := "godwit/msg.kindParts") (rows := Go.Proofs.YtbjckaahoacbfaaGreatDoor.Abs.gl0) (t := 165) (e := 142) (k := 6) h (by kernel_rfl) (by kernel_rfl) Tryz.underlying165 Tryz.underlying142 (by kernel_rfl) (by kernel_rfl) (by decide)
theorem Ai3 (os : Os) (args : Array Value) : laidMetH Tryz.prog [("godwit/msg.kindParts", Rows.laid_godwit_msg_kindParts)] ((World.doorLaid Tryz.prog 400 os).forCall (fun _ _ => 0) ⟨#[], args, []⟩).memory :=
  laidMetH_of_parts3 (fuel := 8) (laidMet_of_run' 8 (by kernel_rfl) (by kernel_rfl)) (by kernel_rfl) (by kernel_rfl)
set_option maxRecDepth 100000 in
theorem Ug (os : Os) (started : os.Started) (H : Type) (enc : TypeId × Value → H) :
    ReturnsInHanded {} Tryz.checked os 5 .any (fun w args => (Rows.clientEndsSpec.pre enc Tryz.prog Tryz.f5 [] false w args ∧ laidMetH Tryz.prog [("godwit/msg.kindParts", Rows.laid_godwit_msg_kindParts)] w) ∧ sizedMet enc Tryz.prog Tryz.f5 (OpenSpec.ofChange Rows.clientEndsSpec) false w args)
      (Rows.clientEndsSpec.post enc Tryz.prog Tryz.f5 false true false false) := by
  refine returnsInHanded_of_change_and (C := Tryz.checked) (X := fun w _ => laidMetH Tryz.prog [("godwit/msg.kindParts", Rows.laid_godwit_msg_kindParts)] w) (fun _ _ _ hh h => h.of_heap hh) Tryz.own started (by kernel_rfl) Tryz.func5
    (ChangeSpec.witness_shaped (enc := enc) (C := Tryz.checked) (os := os) (X := fun w _ => laidMetH Tryz.prog [("godwit/msg.kindParts", Rows.laid_godwit_msg_kindParts)] w) false (World.doorLaid Tryz.prog 400 os) #[.slice none 0 0, .bool false] 8 rfl (World.shaped_of_RefB (by kernel_rfl) (by kernel_rfl)) (by kernel_rfl) (by kernel_rfl) (by kernel_rfl) (Ai3 os _)) ?_
  intro W base args ds gs before hval hW _ _ hL _
  exact Go.Proofs.YtbjckaahoacbfaaGreatDoor.Abs.law_contract (tb := 4) Tryz.laidOut [.sl (.st (.pair (.int .i64) (.pair (.int .i64) (.pair (.st (.pair (.int .i64) (.pair (.st (.pair (.bool) (.pair (.sl (.st (.pair (.int .i64) (.pair (.int .i64) (.pair (.int .i64) (.pair (.int .i64) (.pair (.sl (.int .u8)) (.pair (.st (.pair (.sl (.int .u8)) (.pair (.sl (.int .u8)) (.pair (.bool) (.unit))))) (.unit))))))))) (.unit)))) (.unit)))) (.pair (.st (.pair (.int .i64) (.pair (.int .i64) (.pair (.int .i64) (.pair (.int .i64) (.pair (.bool) (.pair (.sl (.int .u8)) (.pair (.sl (.st (.pair (.sl (.int .u8)) (.pair (.sl (.int .u8)) (.unit))))) (.unit))))))))) (.pair (.sl (.int .u8)) (.unit))))))), .bool] (by kernel_rfl) rfl Tryz.underlying4 rfl (fun ds h => match ds, h with | [d0, d1], _ => rfl) Go.Proofs.YtbjckaahoacbfaaGreatDoor.Abs.clientEnds_f (Aid hL) base args ds gs before hval hW
theorem Rp : Rows.ClientEndsSaid :=
  OpenClaim.holds_of_wide 5 Tryz.f5 rfl rfl rfl rfl rfl rfl rfl ⟨rfl, rfl, rfl, rfl, rfl⟩ rfl rfl rfl rfl rfl (by kernel_rfl) Tryz.func5 (by kernel_rfl)
    (of_decide_eq_true (by kernel_rfl)) (by unfold Func.isWrapper; first | (rw [if_pos (by decide +kernel)]; kernel_rfl) | (rw [if_neg (by decide +kernel)]; exact ⟨rfl, rfl⟩))
    (fun os started H enc _ => Ug os started H enc)
theorem clientEnds_holds : Rows.ClientEndsCardSaid :=
  Claim7.holds_tied_plain_at .later [] [.data] true (true, "8625b1e21ed919bd2c347e0ab851547d01cfa493edb9ae7342f9b342558596f5") false
    Rp (fun _ h => by cases h) (by kernel_rfl) (fun _ h => by cases h) clientEnds_row_tie rfl ⟨rfl, rfl⟩ (by kernel_rfl) rfl
    (fun f fn hf hfn => by
      obtain rfl : f = 5 := Option.some.inj ((show Tryz.prog.funcNamed "godwit/godwitlaw21.ClientEnds" = some 5 by kernel_rfl).symm.trans hf) |>.symm
      obtain rfl : fn = Tryz.f5 := (Option.some.inj (Tryz.func5.symm.trans hfn)).symm
      exact ⟨by kernel_rfl, fun j t ht => by
        rw [Tryz.params5] at ht
        have hm : t ∈ [22, 4] := by simpa using Array.mem_of_getElem? ht
        have hall : ([22, 4].all fun u => !Tryz.prog.wantsStandIn u) = true := by kernel_rfl
        exact (show Tryz.prog.wantsStandIn t = false by simpa using List.all_eq_true.1 hall t hm)⟩)
    (by kernel_rfl)
end Go.Proofs.YtbjckaahoacbfaaGreatDoor
