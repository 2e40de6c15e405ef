/- . -/
import Derived.Test.YtbjckaahoacbfaaGreatDoorSF21
import Derived.Test.YtbjckaahoacbfaaGreatDoorSW21
import Derived.Test.YtbjckaahoacbfaaGreatDoorRows
import Derived.Test.YtbjckaahoacbfaaGreatDoorCards
import Derived.Test.YtbjckaahoacbfaaGreatDoorTie
import Derived.ProofKit
import Derived.LaidMore
import Derived.OpenShut
import Derived.Stop.Joined
import Derived.SevenTiedAt
set_option linter.unusedVariables false
set_option linter.unusedSimpArgs false
namespace Go.Proofs.YtbjckaahoacbfaaGreatDoor.Abs
open Go.RowKit Go.Proofs
theorem clientStale_f : ∀ xs, Abn [.sl (.st (.pair (.int .i64) (.pair (.int .i64) (.pair (.st (.pair (.int .i64) (.pair (.st (.pair (.bool) (.pair (.sl (.st (.pair (.int .i64) (.pair (.int .i64) (.pair (.int .i64) (.pair (.int .i64) (.pair (.sl (.int .u8)) (.pair (.st (.pair (.sl (.int .u8)) (.pair (.sl (.int .u8)) (.pair (.bool) (.unit))))) (.unit))))))))) (.unit)))) (.unit)))) (.pair (.st (.pair (.int .i64) (.pair (.int .i64) (.pair (.int .i64) (.pair (.int .i64) (.pair (.bool) (.pair (.sl (.int .u8)) (.pair (.sl (.st (.pair (.sl (.int .u8)) (.pair (.sl (.int .u8)) (.unit))))) (.unit))))))))) (.pair (.sl (.int .u8)) (.unit))))))), .st (.pair (.int .i64) (.pair (.int .i64) (.pair (.st (.pair (.int .i64) (.pair (.st (.pair (.bool) (.pair (.sl (.st (.pair (.int .i64) (.pair (.int .i64) (.pair (.int .i64) (.pair (.int .i64) (.pair (.sl (.int .u8)) (.pair (.st (.pair (.sl (.int .u8)) (.pair (.sl (.int .u8)) (.pair (.bool) (.unit))))) (.unit))))))))) (.unit)))) (.unit)))) (.pair (.st (.pair (.int .i64) (.pair (.int .i64) (.pair (.int .i64) (.pair (.int .i64) (.pair (.bool) (.pair (.sl (.int .u8)) (.pair (.sl (.st (.pair (.sl (.int .u8)) (.pair (.sl (.int .u8)) (.unit))))) (.unit))))))))) (.pair (.sl (.int .u8)) (.unit)))))), .int .i64, .int .i64] xs → Bl Tryz.prog 6 xs (· = .s (.one (.b true)))
  | [], h => h.elim
  | [_], h => h.2.elim
  | [_, _], h => h.2.2.elim
  | [_, _, _], h => h.2.2.2.elim
  | [_, _, _, _], ⟨⟨ls0, h0, e0⟩, ⟨ls1, h1, e1⟩, ⟨ls2, h2, e2⟩, ⟨ls3, h3, e3⟩, _⟩ => by
    obtain ⟨a0, q0, rfl⟩ := (Z5 (Q := fun (x : G3) => Agw x) (fun h => Aaj h)) h0
    subst e0
    obtain ⟨a1, q1, rfl⟩ := Aaj h1
    subst e1
    obtain ⟨a2, q2, rfl⟩ := Qy h2
    subst e2
    obtain ⟨a3, q3, rfl⟩ := Qy h3
    subst e3
    exact T7 (Xs a0 a1 a2 a3)
  | _ :: _ :: _ :: _ :: _ :: _, h => h.2.2.2.2.elim
end Go.Proofs.YtbjckaahoacbfaaGreatDoor.Abs
namespace Go.Proofs.YtbjckaahoacbfaaGreatDoor
open Go.ChangeShapes Go.WideShapes Go.ChangeAt Go.WideMaps Go.WideElems Go.RowKit
theorem Tryz.own : ownKnob Tryz.prog.godebug = none := by kernel_rfl
theorem Tryz.laidOut : laidOutB Tryz.prog = true := by kernel_rfl
theorem An2 {W : World} (h : laidMetH Tryz.prog [("godwit/msg.kindParts", Rows.laid_godwit_msg_kindParts)] W) : Go.Proofs.YtbjckaahoacbfaaGreatDoor.Abs.GLR W (Go.Proofs.YtbjckaahoacbfaaGreatDoor.Abs.allS W) := by
  intro x hx
  obtain rfl := List.mem_singleton.1 hx
  exact Go.Proofs.YtbjckaahoacbfaaGreatDoor.Abs.tab_rep (name := "godwit/msg.kindParts") (rows := Go.Proofs.YtbjckaahoacbfaaGreatDoor.Abs.gl0) (t := 165) (e := 142) (k := 6) h (by kernel_rfl) (by kernel_rfl) Tryz.underlying165 Tryz.underlying142 (by kernel_rfl) (by kernel_rfl) (by decide)
theorem Am3 (os : Os) (args : Array Value) : laidMetH Tryz.prog [("godwit/msg.kindParts", Rows.laid_godwit_msg_kindParts)] ((World.doorLaid Tryz.prog 400 os).forCall (fun _ _ => 0) ⟨#[], args, []⟩).memory :=
  laidMetH_of_parts3 (fuel := 8) (laidMet_of_run' 8 (by kernel_rfl) (by kernel_rfl)) (by kernel_rfl) (by kernel_rfl)
set_option maxRecDepth 100000 in
theorem V8 (os : Os) (started : os.Started) (H : Type) (enc : TypeId × Value → H) :
    ReturnsInHanded {} Tryz.checked os 6 .any (fun w args => (Rows.clientStaleSpec.pre enc Tryz.prog Tryz.f6 [] false w args ∧ laidMetH Tryz.prog [("godwit/msg.kindParts", Rows.laid_godwit_msg_kindParts)] w) ∧ sizedMet enc Tryz.prog Tryz.f6 (OpenSpec.ofChange Rows.clientStaleSpec) false w args)
      (Rows.clientStaleSpec.post enc Tryz.prog Tryz.f6 false true false false) := by
  refine returnsInHanded_of_change_and (C := Tryz.checked) (X := fun w _ => laidMetH Tryz.prog [("godwit/msg.kindParts", Rows.laid_godwit_msg_kindParts)] w) (fun _ _ _ hh h => h.of_heap hh) Tryz.own started (by kernel_rfl) Tryz.func6
    (ChangeSpec.witness_shaped (enc := enc) (C := Tryz.checked) (os := os) (X := fun w _ => laidMetH Tryz.prog [("godwit/msg.kindParts", Rows.laid_godwit_msg_kindParts)] w) false (World.doorLaid Tryz.prog 400 os) #[.slice none 0 0, .agg #[.int .i64 0, .int .i64 0, .int .i64 0, .bool false, .slice none 0 0, .int .i64 0, .int .i64 0, .int .i64 0, .int .i64 0, .bool false, .slice none 0 0, .slice none 0 0, .slice none 0 0], .int .i64 0, .int .i64 0] 8 rfl (World.shaped_of_RefB (by kernel_rfl) (by kernel_rfl)) (by kernel_rfl) (by kernel_rfl) (by kernel_rfl) (Am3 os _)) ?_
  intro W base args ds gs before hval hW _ _ hL _
  exact Go.Proofs.YtbjckaahoacbfaaGreatDoor.Abs.law_contract (tb := 4) Tryz.laidOut [.sl (.st (.pair (.int .i64) (.pair (.int .i64) (.pair (.st (.pair (.int .i64) (.pair (.st (.pair (.bool) (.pair (.sl (.st (.pair (.int .i64) (.pair (.int .i64) (.pair (.int .i64) (.pair (.int .i64) (.pair (.sl (.int .u8)) (.pair (.st (.pair (.sl (.int .u8)) (.pair (.sl (.int .u8)) (.pair (.bool) (.unit))))) (.unit))))))))) (.unit)))) (.unit)))) (.pair (.st (.pair (.int .i64) (.pair (.int .i64) (.pair (.int .i64) (.pair (.int .i64) (.pair (.bool) (.pair (.sl (.int .u8)) (.pair (.sl (.st (.pair (.sl (.int .u8)) (.pair (.sl (.int .u8)) (.unit))))) (.unit))))))))) (.pair (.sl (.int .u8)) (.unit))))))), .st (.pair (.int .i64) (.pair (.int .i64) (.pair (.st (.pair (.int .i64) (.pair (.st (.pair (.bool) (.pair (.sl (.st (.pair (.int .i64) (.pair (.int .i64) (.pair (.int .i64) (.pair (.int .i64) (.pair (.sl (.int .u8)) (.pair (.st (.pair (.sl (.int .u8)) (.pair (.sl (.int .u8)) (.pair (.bool) (.unit))))) (.unit))))))))) (.unit)))) (.unit)))) (.pair (.st (.pair (.int .i64) (.pair (.int .i64) (.pair (.int .i64) (.pair (.int .i64) (.pair (.bool) (.pair (.sl (.int .u8)) (.pair (.sl (.st (.pair (.sl (.int .u8)) (.pair (.sl (.int .u8)) (.unit))))) (.unit))))))))) (.pair (.sl (.int .u8)) (.unit)))))), .int .i64, .int .i64] (by kernel_rfl) rfl Tryz.underlying4 rfl (fun ds h => match ds, h with | [d0, d1, d2, d3], _ => rfl) Go.Proofs.YtbjckaahoacbfaaGreatDoor.Abs.clientStale_f (An2 hL) base args ds gs before hval hW
theorem Sz : Rows.ClientStaleSaid :=
  OpenClaim.holds_of_wide 6 Tryz.f6 rfl rfl rfl rfl rfl rfl rfl ⟨rfl, rfl, rfl, rfl, rfl⟩ rfl rfl rfl rfl rfl (by kernel_rfl) Tryz.func6 (by kernel_rfl)
    (of_decide_eq_true (by kernel_rfl)) (by unfold Func.isWrapper; first | (rw [if_pos (by decide +kernel)]; kernel_rfl) | (rw [if_neg (by decide +kernel)]; exact ⟨rfl, rfl⟩))
    (fun os started H enc _ => V8 os started H enc)
theorem clientStale_holds : Rows.ClientStaleCardSaid :=
  Claim7.holds_tied_plain_at .later [] [.data] true (true, "8625b1e21ed919bd2c347e0ab851547d01cfa493edb9ae7342f9b342558596f5") false
    Sz (fun _ h => by cases h) (by kernel_rfl) (fun _ h => by cases h) clientStale_row_tie rfl ⟨rfl, rfl⟩ (by kernel_rfl) rfl
    (fun f fn hf hfn => by
      obtain rfl : f = 6 := Option.some.inj ((show Tryz.prog.funcNamed "godwit/godwitlaw21.ClientStale" = some 6 by kernel_rfl).symm.trans hf) |>.symm
      obtain rfl : fn = Tryz.f6 := (Option.some.inj (Tryz.func6.symm.trans hfn)).symm
      exact ⟨by kernel_rfl, fun j t ht => by
        rw [Tryz.params6] at ht
        have hm : t ∈ [22, 57, 3, 3] := by simpa using Array.mem_of_getElem? ht
        have hall : ([22, 57, 3, 3].all fun u => !Tryz.prog.wantsStandIn u) = true := by kernel_rfl
        exact (show Tryz.prog.wantsStandIn t = false by simpa using List.all_eq_true.1 hall t hm)⟩)
    (by kernel_rfl)
end Go.Proofs.YtbjckaahoacbfaaGreatDoor
