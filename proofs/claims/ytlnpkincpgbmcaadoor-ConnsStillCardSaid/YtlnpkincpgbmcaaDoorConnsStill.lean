/-
  The row of ConnsStill, and its card: for every input the law returns true, and the input reads as it did.
-/
import Derived.Test.YtlnpkincpgbmcaaDoorF17
import Derived.Test.YtlnpkincpgbmcaaDoorQ17
import Derived.Test.YtlnpkincpgbmcaaDoorRows
import Derived.Test.YtlnpkincpgbmcaaDoorCards
import Derived.Test.YtlnpkincpgbmcaaDoorTie
import Derived.ProofKit
import Derived.LaidMore
import Derived.OpenShut
import Derived.Stop.Joined
import Derived.SevenTiedAt
namespace Go.Proofs.YtlnpkincpgbmcaaDoor.Abs
open Go.RowKit Go.Proofs

theorem connsStill_f : ∀ xs, FitsAll [.st (.pair (.sl (.st (.pair (.int .i64) (.pair (.int .i64) (.pair (.int .i64) (.pair (.int .i64) (.pair (.st (.pair (.sl (.int .u8)) (.pair (.int .i64) (.unit)))) (.pair (.st (.pair (.st (.pair (.int .i64) (.pair (.int .u64) (.unit)))) (.pair (.int .i64) (.pair (.sl (.st (.pair (.int .i64) (.pair (.int .i64) (.pair (.int .i64) (.pair (.int .i64) (.pair (.bool) (.pair (.sl (.int .u8)) (.pair (.sl (.int .u8)) (.pair (.st (.pair (.sl (.int .u8)) (.pair (.sl (.int .u8)) (.pair (.bool) (.unit))))) (.unit))))))))))) (.pair (.sl (.st (.pair (.int .i64) (.pair (.int .i64) (.pair (.int .i64) (.pair (.int .i64) (.pair (.bool) (.pair (.sl (.int .u8)) (.pair (.sl (.st (.pair (.sl (.int .u8)) (.pair (.sl (.int .u8)) (.unit))))) (.unit)))))))))) (.unit)))))) (.unit))))))))) (.pair (.int .i64) (.unit))), .st (.pair (.int .i64) (.pair (.int .i64) (.pair (.int .i64) (.pair (.int .i64) (.pair (.st (.pair (.sl (.int .u8)) (.pair (.int .i64) (.unit)))) (.pair (.st (.pair (.st (.pair (.int .i64) (.pair (.int .u64) (.unit)))) (.pair (.int .i64) (.pair (.sl (.st (.pair (.int .i64) (.pair (.int .i64) (.pair (.int .i64) (.pair (.int .i64) (.pair (.bool) (.pair (.sl (.int .u8)) (.pair (.sl (.int .u8)) (.pair (.st (.pair (.sl (.int .u8)) (.pair (.sl (.int .u8)) (.pair (.bool) (.unit))))) (.unit))))))))))) (.pair (.sl (.st (.pair (.int .i64) (.pair (.int .i64) (.pair (.int .i64) (.pair (.int .i64) (.pair (.bool) (.pair (.sl (.int .u8)) (.pair (.sl (.st (.pair (.sl (.int .u8)) (.pair (.sl (.int .u8)) (.unit))))) (.unit)))))))))) (.unit)))))) (.unit))))))), .int .i64, .int .i64, .int .i64] xs → CallsA Tryd.prog 5 xs (· = .s (.one (.b true)))
  | [], h => h.elim
  | [_], h => h.2.elim
  | [_, _], h => h.2.2.elim
  | [_, _, _], h => h.2.2.2.elim
  | [_, _, _, _], h => h.2.2.2.2.elim
  | [_, _, _, _, _], ⟨⟨ls0, h0, e0⟩, ⟨ls1, h1, e1⟩, ⟨ls2, h2, e2⟩, ⟨ls3, h3, e3⟩, ⟨ls4, h4, e4⟩, _⟩ => by
    obtain ⟨a0, q0, rfl⟩ := ft_GR17Table h0
    subst e0
    obtain ⟨a1, q1, rfl⟩ := ft_GR17Conn h1
    subst e1
    obtain ⟨a2, q2, rfl⟩ := ft_i64 h2
    subst e2
    obtain ⟨a3, q3, rfl⟩ := ft_i64 h3
    subst e3
    obtain ⟨a4, q4, rfl⟩ := ft_i64 h4
    subst e4
    exact m5_l17_ConnsStill_c (connsStill_true a0 a1 a2 a3 a4)
  | _ :: _ :: _ :: _ :: _ :: _ :: _, h => h.2.2.2.2.2.elim
end Go.Proofs.YtlnpkincpgbmcaaDoor.Abs

namespace Go.Proofs.YtlnpkincpgbmcaaDoor
open Go.ChangeShapes Go.WideShapes Go.ChangeAt Go.WideMaps Go.WideElems Go.RowKit

theorem Tryd.own : ownKnob Tryd.prog.godebug = none := by kernel_rfl
theorem Tryd.laidOut : laidOutB Tryd.prog = true := by kernel_rfl
theorem seat_glr {W : World} (h : laidMetH Tryd.prog [("godwit/msg.kindParts", Rows.laid_godwit_msg_kindParts)] W) : Go.Proofs.YtlnpkincpgbmcaaDoor.Abs.GLR W (Go.Proofs.YtlnpkincpgbmcaaDoor.Abs.allS W) := by
  intro x hx
  obtain rfl := List.mem_singleton.1 hx
  exact Go.Proofs.YtlnpkincpgbmcaaDoor.Abs.tab_rep (name := "godwit/msg.kindParts") (rows := Go.Proofs.YtlnpkincpgbmcaaDoor.Abs.gl0) (t := 148) (e := 135) (k := 6) h (by kernel_rfl) (by kernel_rfl) Tryd.underlying148 Tryd.underlying135 (by kernel_rfl) (by kernel_rfl) (by decide)
theorem door_met (os : Os) (args : Array Value) : laidMetH Tryd.prog [("godwit/msg.kindParts", Rows.laid_godwit_msg_kindParts)] ((World.doorLaid Tryd.prog 400 os).forCall (fun _ _ => 0) ⟨#[], args, []⟩).memory :=
  laidMetH_of_parts3 (fuel := 8) (laidMet_of_run' 8 (by kernel_rfl) (by kernel_rfl)) (by kernel_rfl) (by kernel_rfl)

set_option maxRecDepth 100000 in
theorem connsStill_lifted (os : Os) (started : os.Started) (H : Type) (enc : TypeId × Value → H) :
    ReturnsInHanded {} Tryd.checked os 5 .any (fun w args => (Rows.connsStillSpec.pre enc Tryd.prog Tryd.f5 [] false w args ∧ laidMetH Tryd.prog [("godwit/msg.kindParts", Rows.laid_godwit_msg_kindParts)] w) ∧ sizedMet enc Tryd.prog Tryd.f5 (OpenSpec.ofChange Rows.connsStillSpec) false w args)
      (Rows.connsStillSpec.post enc Tryd.prog Tryd.f5 false true false false) := by
  refine returnsInHanded_of_change_and (C := Tryd.checked) (X := fun w _ => laidMetH Tryd.prog [("godwit/msg.kindParts", Rows.laid_godwit_msg_kindParts)] w) (fun _ _ _ hh h => h.of_heap hh) Tryd.own started (by kernel_rfl) Tryd.func5
    (ChangeSpec.witness_shaped (enc := enc) (C := Tryd.checked) (os := os) (X := fun w _ => laidMetH Tryd.prog [("godwit/msg.kindParts", Rows.laid_godwit_msg_kindParts)] w) false (World.doorLaid Tryd.prog 400 os) #[.agg #[.slice none 0 0, .int .i64 0], .agg #[.int .i64 0, .int .i64 0, .int .i64 0, .int .i64 0, .slice none 0 0, .int .i64 0, .int .i64 0, .int .u64 0, .int .i64 0, .slice none 0 0, .slice none 0 0], .int .i64 0, .int .i64 0, .int .i64 0] 8 rfl (World.shaped_of_RefB (by kernel_rfl) (by kernel_rfl)) (by kernel_rfl) (by kernel_rfl) (by kernel_rfl) (door_met os _)) ?_
  intro W base args ds gs before hval hW _ _ hL _
  exact Go.Proofs.YtlnpkincpgbmcaaDoor.Abs.law_contract (tb := 4) Tryd.laidOut [.st (.pair (.sl (.st (.pair (.int .i64) (.pair (.int .i64) (.pair (.int .i64) (.pair (.int .i64) (.pair (.st (.pair (.sl (.int .u8)) (.pair (.int .i64) (.unit)))) (.pair (.st (.pair (.st (.pair (.int .i64) (.pair (.int .u64) (.unit)))) (.pair (.int .i64) (.pair (.sl (.st (.pair (.int .i64) (.pair (.int .i64) (.pair (.int .i64) (.pair (.int .i64) (.pair (.bool) (.pair (.sl (.int .u8)) (.pair (.sl (.int .u8)) (.pair (.st (.pair (.sl (.int .u8)) (.pair (.sl (.int .u8)) (.pair (.bool) (.unit))))) (.unit))))))))))) (.pair (.sl (.st (.pair (.int .i64) (.pair (.int .i64) (.pair (.int .i64) (.pair (.int .i64) (.pair (.bool) (.pair (.sl (.int .u8)) (.pair (.sl (.st (.pair (.sl (.int .u8)) (.pair (.sl (.int .u8)) (.unit))))) (.unit)))))))))) (.unit)))))) (.unit))))))))) (.pair (.int .i64) (.unit))), .st (.pair (.int .i64) (.pair (.int .i64) (.pair (.int .i64) (.pair (.int .i64) (.pair (.st (.pair (.sl (.int .u8)) (.pair (.int .i64) (.unit)))) (.pair (.st (.pair (.st (.pair (.int .i64) (.pair (.int .u64) (.unit)))) (.pair (.int .i64) (.pair (.sl (.st (.pair (.int .i64) (.pair (.int .i64) (.pair (.int .i64) (.pair (.int .i64) (.pair (.bool) (.pair (.sl (.int .u8)) (.pair (.sl (.int .u8)) (.pair (.st (.pair (.sl (.int .u8)) (.pair (.sl (.int .u8)) (.pair (.bool) (.unit))))) (.unit))))))))))) (.pair (.sl (.st (.pair (.int .i64) (.pair (.int .i64) (.pair (.int .i64) (.pair (.int .i64) (.pair (.bool) (.pair (.sl (.int .u8)) (.pair (.sl (.st (.pair (.sl (.int .u8)) (.pair (.sl (.int .u8)) (.unit))))) (.unit)))))))))) (.unit)))))) (.unit))))))), .int .i64, .int .i64, .int .i64] (by kernel_rfl) rfl Tryd.underlying4 rfl (fun ds h => match ds, h with | [d0, d1, d2, d3, d4], _ => rfl) Go.Proofs.YtlnpkincpgbmcaaDoor.Abs.connsStill_f (seat_glr hL) base args ds gs before hval hW

theorem connsStill_row_holds : Rows.ConnsStillSaid :=
  OpenClaim.holds_of_wide 5 Tryd.f5 rfl rfl rfl rfl rfl rfl rfl ⟨rfl, rfl, rfl, rfl, rfl⟩ rfl rfl rfl rfl rfl (by kernel_rfl) Tryd.func5 (by kernel_rfl)
    (of_decide_eq_true (by kernel_rfl)) (by unfold Func.isWrapper; first | (rw [if_pos (by decide +kernel)]; kernel_rfl) | (rw [if_neg (by decide +kernel)]; exact ⟨rfl, rfl⟩))
    (fun os started H enc _ => connsStill_lifted os started H enc)

theorem connsStill_holds : Rows.ConnsStillCardSaid :=
  Claim7.holds_tied_plain_at .later [] [.data] true (true, "e0c90a482bdb1b9492463352688de1e3ebe76d2a204b25ed5ad11ae48e029459") false
    connsStill_row_holds (fun _ h => by cases h) (by kernel_rfl) (fun _ h => by cases h) connsStill_row_tie rfl ⟨rfl, rfl⟩ (by kernel_rfl) rfl
    (fun f fn hf hfn => by
      obtain rfl : f = 5 := Option.some.inj ((show Tryd.prog.funcNamed "godwit/godwitlaw17.ConnsStill" = some 5 by kernel_rfl).symm.trans hf) |>.symm
      obtain rfl : fn = Tryd.f5 := (Option.some.inj (Tryd.func5.symm.trans hfn)).symm
      exact ⟨by kernel_rfl, fun j t ht => by
        rw [Tryd.params5] at ht
        have hm : t ∈ [55, 63, 3, 3, 3] := by simpa using Array.mem_of_getElem? ht
        have hall : ([55, 63, 3, 3, 3].all fun u => !Tryd.prog.wantsStandIn u) = true := by kernel_rfl
        exact (show Tryd.prog.wantsStandIn t = false by simpa using List.all_eq_true.1 hall t hm)⟩)
    (by kernel_rfl)

end Go.Proofs.YtlnpkincpgbmcaaDoor
