/-
  The row of ClientTries, and its card: for every input the law returns true, and the input reads as it did.
-/
import Derived.Test.YtbjckaahoacbfaaGreatDoorTF21
import Derived.Test.YtbjckaahoacbfaaGreatDoorTY21
import Derived.Test.YtbjckaahoacbfaaGreatDoorRows
import Derived.Test.YtbjckaahoacbfaaGreatDoorCards
import Derived.Test.YtbjckaahoacbfaaGreatDoorTie
import Derived.ProofKit
import Derived.LaidMore
import Derived.OpenShut
import Derived.Stop.Joined
import Derived.SevenTiedAt
set_option linter.unusedVariables false
set_option linter.unusedSimpArgs false
namespace Go.Proofs.YtbjckaahoacbfaaGreatDoor.Abs
open Go.RowKit Go.Proofs
theorem clientTries_f : ∀ xs, Yi [.sl (.st (.pair (.int .i64) (.pair (.int .i64) (.pair (.st (.pair (.int .i64) (.pair (.st (.pair (.bool) (.pair (.sl (.st (.pair (.int .i64) (.pair (.int .i64) (.pair (.int .i64) (.pair (.int .i64) (.pair (.sl (.int .u8)) (.pair (.st (.pair (.sl (.int .u8)) (.pair (.sl (.int .u8)) (.pair (.bool) (.unit))))) (.unit))))))))) (.unit)))) (.unit)))) (.pair (.st (.pair (.int .i64) (.pair (.int .i64) (.pair (.int .i64) (.pair (.int .i64) (.pair (.bool) (.pair (.sl (.int .u8)) (.pair (.sl (.st (.pair (.sl (.int .u8)) (.pair (.sl (.int .u8)) (.unit))))) (.unit))))))))) (.pair (.sl (.int .u8)) (.unit)))))))] xs → Bp Tryz.prog 4 xs (· = .s (.one (.b true)))
  | [], h => h.elim
  | [_], ⟨⟨ls0, h0, e0⟩, _⟩ => by
    obtain ⟨a0, q0, rfl⟩ := (Xn (Q := fun (x : Ja) => Adf x) (fun h => Aef h)) h0
    subst e0
    exact Sa (Vr a0)
  | _ :: _ :: _, h => h.2.elim
end Go.Proofs.YtbjckaahoacbfaaGreatDoor.Abs
namespace Go.Proofs.YtbjckaahoacbfaaGreatDoor
open Go.ChangeShapes Go.WideShapes Go.ChangeAt Go.WideMaps Go.WideElems Go.RowKit
theorem Tryz.own : ownKnob Tryz.prog.godebug = none := by kernel_rfl
theorem Tryz.laidOut : laidOutB Tryz.prog = true := by kernel_rfl
theorem Aka {W : World} (h : laidMetH Tryz.prog [("godwit/msg.kindParts", Rows.laid_godwit_msg_kindParts)] W) : Go.Proofs.YtbjckaahoacbfaaGreatDoor.Abs.GLR W (Go.Proofs.YtbjckaahoacbfaaGreatDoor.Abs.allS W) := by
  intro x hx
  obtain rfl := List.mem_singleton.1 hx
  exact Go.Proofs.YtbjckaahoacbfaaGreatDoor.Abs.tab_rep (name := "godwit/msg.kindParts") (rows := Go.Proofs.YtbjckaahoacbfaaGreatDoor.Abs.gl0) (t := 165) (e := 142) (k := 6) h (by kernel_rfl) (by kernel_rfl) Tryz.underlying165 Tryz.underlying142 (by kernel_rfl) (by kernel_rfl) (by decide)
theorem Aiu (os : Os) (args : Array Value) : laidMetH Tryz.prog [("godwit/msg.kindParts", Rows.laid_godwit_msg_kindParts)] ((World.doorLaid Tryz.prog 400 os).forCall (fun _ _ => 0) ⟨#[], args, []⟩).memory :=
  laidMetH_of_parts3 (fuel := 8) (laidMet_of_run' 8 (by kernel_rfl) (by kernel_rfl)) (by kernel_rfl) (by kernel_rfl)
set_option maxRecDepth 100000 in
theorem To (os : Os) (started : os.Started) (H : Type) (enc : TypeId × Value → H) :
    ReturnsInHanded {} Tryz.checked os 4 .any (fun w args => (Rows.clientTriesSpec.pre enc Tryz.prog Tryz.f4 [] false w args ∧ laidMetH Tryz.prog [("godwit/msg.kindParts", Rows.laid_godwit_msg_kindParts)] w) ∧ sizedMet enc Tryz.prog Tryz.f4 (OpenSpec.ofChange Rows.clientTriesSpec) false w args)
      (Rows.clientTriesSpec.post enc Tryz.prog Tryz.f4 false true false false) := by
  refine returnsInHanded_of_change_and (C := Tryz.checked) (X := fun w _ => laidMetH Tryz.prog [("godwit/msg.kindParts", Rows.laid_godwit_msg_kindParts)] w) (fun _ _ _ hh h => h.of_heap hh) Tryz.own started (by kernel_rfl) Tryz.func4
    (ChangeSpec.witness_shaped (enc := enc) (C := Tryz.checked) (os := os) (X := fun w _ => laidMetH Tryz.prog [("godwit/msg.kindParts", Rows.laid_godwit_msg_kindParts)] w) false (World.doorLaid Tryz.prog 400 os) #[.slice none 0 0] 8 rfl (World.shaped_of_RefB (by kernel_rfl) (by kernel_rfl)) (by kernel_rfl) (by kernel_rfl) (by kernel_rfl) (Aiu os _)) ?_
  intro W base args ds gs before hval hW _ _ hL _
  exact Go.Proofs.YtbjckaahoacbfaaGreatDoor.Abs.law_contract (tb := 4) Tryz.laidOut [.sl (.st (.pair (.int .i64) (.pair (.int .i64) (.pair (.st (.pair (.int .i64) (.pair (.st (.pair (.bool) (.pair (.sl (.st (.pair (.int .i64) (.pair (.int .i64) (.pair (.int .i64) (.pair (.int .i64) (.pair (.sl (.int .u8)) (.pair (.st (.pair (.sl (.int .u8)) (.pair (.sl (.int .u8)) (.pair (.bool) (.unit))))) (.unit))))))))) (.unit)))) (.unit)))) (.pair (.st (.pair (.int .i64) (.pair (.int .i64) (.pair (.int .i64) (.pair (.int .i64) (.pair (.bool) (.pair (.sl (.int .u8)) (.pair (.sl (.st (.pair (.sl (.int .u8)) (.pair (.sl (.int .u8)) (.unit))))) (.unit))))))))) (.pair (.sl (.int .u8)) (.unit)))))))] (by kernel_rfl) rfl Tryz.underlying4 rfl (fun ds h => match ds, h with | [d0], _ => rfl) Go.Proofs.YtbjckaahoacbfaaGreatDoor.Abs.clientTries_f (Aka hL) base args ds gs before hval hW
theorem Qv : Rows.ClientTriesSaid :=
  OpenClaim.holds_of_wide 4 Tryz.f4 rfl rfl rfl rfl rfl rfl rfl ⟨rfl, rfl, rfl, rfl, rfl⟩ rfl rfl rfl rfl rfl (by kernel_rfl) Tryz.func4 (by kernel_rfl)
    (of_decide_eq_true (by kernel_rfl)) (by unfold Func.isWrapper; first | (rw [if_pos (by decide +kernel)]; kernel_rfl) | (rw [if_neg (by decide +kernel)]; exact ⟨rfl, rfl⟩))
    (fun os started H enc _ => To os started H enc)
theorem clientTries_holds : Rows.ClientTriesCardSaid :=
  Claim7.holds_tied_plain_at .later [] [.data] true (true, "8625b1e21ed919bd2c347e0ab851547d01cfa493edb9ae7342f9b342558596f5") false
    Qv (fun _ h => by cases h) (by kernel_rfl) (fun _ h => by cases h) clientTries_row_tie rfl ⟨rfl, rfl⟩ (by kernel_rfl) rfl
    (fun f fn hf hfn => by
      obtain rfl : f = 4 := Option.some.inj ((show Tryz.prog.funcNamed "godwit/godwitlaw21.ClientTries" = some 4 by kernel_rfl).symm.trans hf) |>.symm
      obtain rfl : fn = Tryz.f4 := (Option.some.inj (Tryz.func4.symm.trans hfn)).symm
      exact ⟨by kernel_rfl, fun j t ht => by
        rw [Tryz.params4] at ht
        have hm : t ∈ [22] := by simpa using Array.mem_of_getElem? ht
        have hall : ([22].all fun u => !Tryz.prog.wantsStandIn u) = true := by kernel_rfl
        exact (show Tryz.prog.wantsStandIn t = false by simpa using List.all_eq_true.1 hall t hm)⟩)
    (by kernel_rfl)
end Go.Proofs.YtbjckaahoacbfaaGreatDoor
