/-
 t
-/
import Derived.Test.YtbjckaahoacbfaaGreatDoorET21b
set_option linter.unusedVariables false
set_option linter.unusedSimpArgs false
namespace Go.Proofs.YtbjckaahoacbfaaGreatDoor.Abs
open Go.RowKit Go.Proofs
set_option maxRecDepth 100000
def Ed (a0 : Ag) : Option Ag :=
 (idx a0.Tasks 0).bind fun u1 => (Fk u1.Prog a0.St).bind fun v2 => if v2.2.2 then ((Cb ({a0 with Phase := 4, St := v2.2.1}) v2.1).bind fun v3 => some v3) else (if v2.2.1.Stopped then ((Cb ({a0 with Phase := 6, St := v2.2.1}) (B6.mk 8 0 0 0 false ([] : List UInt8) ([] : List UInt8) Bs)).bind fun v4 => some v4) else ((idx a0.Tasks 0).bind fun u5 => (Cb ({a0 with Phase := 5, St := v2.2.1}) (B6.mk 7 0 0 0 false ([] : List UInt8) ([] : List UInt8) Bs)).bind fun v6 => if (decide (v6.Phase = 11)) then (some v6) else ((Hw [v6.Tried, [(A4.mk u5.Token a0.Attempt v2.2.1.Regs)]]).bind fun v7 => some ({v6 with Risk := true, Tried := v7}))))
theorem Lr {a0 : Ag} {r : Ag} (h : Ed a0 = some r) : Bp Tryz.prog 116 [.agg (EL.el a0)] (· = .s (.agg (EL.el r))) := by
 unfold Ed at h
 refine A2 Tryz.func116 rfl (nt := 61) rfl (Nbl rfl) ?_
 intro w0 S0
 refine Aq (Ab (Je rfl rfl (Bz rfl Nc (Ar (Aq (Adu (Adu ?_)))))))
 obtain ⟨u1, hu1, h⟩ := An h
 obtain ⟨v2, hv2, h⟩ := An h
 refine Alv [12, 13, 14, 15] [0, 1, 3, 7, 15, 0, 32, 127, 255, 511, 511, 511, 0, 0, 13311, 30719, 65535] [([false, false, false, false], [.box (EL.el a0), .box Zba, .hole, .hole]), ([false, true, false, false], [.box (EL.el a0), .box Zba, .hole, .box Zbb]), ([true, false, false, false], [.box (EL.el a0), .box Zba, .box Zbc, .hole]), ([true, true, false, false], [.box (EL.el a0), .box Zba, .box Zbc, .box Zbb]), ([true, true, true, false], [.box (EL.el a0), .box Zba, .box (EL.el v2.1), .box Zbb]), ([true, true, true, true], [.box (EL.el a0), .box Zba, .box (EL.el v2.1), .box (EL.el v2.2.1)])] (by kernel_rfl) Lz (by kernel_rfl) (by decide) rfl (by kernel_rfl) rfl rfl ?_
 refine mev (md := [.box (EL.el a0), .box Zba, .dead, .dead]) (Da rfl ⟨rfl, ⟨rfl, ⟨trivial, ⟨trivial, trivial⟩⟩⟩⟩ (Da rfl ⟨rfl, ⟨rfl, ⟨trivial, ⟨trivial, trivial⟩⟩⟩⟩ (Da rfl ⟨rfl, ⟨rfl, ⟨trivial, ⟨trivial, trivial⟩⟩⟩⟩ (Da rfl ⟨rfl, ⟨rfl, ⟨trivial, ⟨trivial, trivial⟩⟩⟩⟩ (Ga rfl (Ga rfl Jo)))))) rfl rfl (Aa Mb rfl) (mev (md := [.box (EL.el a0), .box Zba, .dead, .dead]) (Da rfl ⟨rfl, ⟨rfl, ⟨trivial, ⟨trivial, trivial⟩⟩⟩⟩ (Da rfl ⟨rfl, ⟨rfl, ⟨trivial, ⟨trivial, trivial⟩⟩⟩⟩ (Da rfl ⟨rfl, ⟨rfl, ⟨trivial, ⟨trivial, trivial⟩⟩⟩⟩ (Da rfl ⟨rfl, ⟨rfl, ⟨trivial, ⟨trivial, trivial⟩⟩⟩⟩ (Ga rfl (Ga rfl Jo)))))) rfl rfl (Ae Y0 rfl (.lp _ _ _ rfl) rfl) (mev (md := [.box (EL.el a0), .box Zba, .dead, .dead]) (Da rfl ⟨rfl, ⟨rfl, ⟨trivial, ⟨trivial, trivial⟩⟩⟩⟩ (Da rfl ⟨rfl, ⟨rfl, ⟨trivial, ⟨trivial, trivial⟩⟩⟩⟩ (Da rfl ⟨rfl, ⟨rfl, ⟨trivial, ⟨trivial, trivial⟩⟩⟩⟩ (Da rfl ⟨rfl, ⟨rfl, ⟨trivial, ⟨trivial, trivial⟩⟩⟩⟩ (Ga rfl (Ga rfl Jo)))))) rfl rfl (Fm (f := Ay) Uf (fun _ => rfl) rfl rfl rfl rfl hu1) ?_))
 refine mev (md := [.box (EL.el a0), .box Zba, .dead, .dead]) (Da rfl ⟨rfl, ⟨rfl, ⟨trivial, ⟨trivial, trivial⟩⟩⟩⟩ (Da rfl ⟨rfl, ⟨rfl, ⟨trivial, ⟨trivial, trivial⟩⟩⟩⟩ (Da rfl ⟨rfl, ⟨rfl, ⟨trivial, ⟨trivial, trivial⟩⟩⟩⟩ (Da rfl ⟨rfl, ⟨rfl, ⟨trivial, ⟨trivial, trivial⟩⟩⟩⟩ (Ga rfl (Ga rfl Jo)))))) rfl rfl (B2 Acl rfl) (mev (md := [.box (EL.el a0), .box Zba, .dead, .dead]) (Da rfl ⟨rfl, ⟨rfl, ⟨trivial, ⟨trivial, trivial⟩⟩⟩⟩ (Da rfl ⟨rfl, ⟨rfl, ⟨trivial, ⟨trivial, trivial⟩⟩⟩⟩ (Da rfl ⟨rfl, ⟨rfl, ⟨trivial, ⟨trivial, trivial⟩⟩⟩⟩ (Da rfl ⟨rfl, ⟨rfl, ⟨trivial, ⟨trivial, trivial⟩⟩⟩⟩ (Ga rfl (Ga rfl Jo)))))) rfl rfl (Dj (ys := [.b u1.Prog.RO, .sl u1.Prog.Ops.length (u1.Prog.Ops.flatMap Cf)]) Alu rfl (.cp _) rfl rfl) (mev (md := [.box (EL.el a0), .box Zba, .dead, .dead]) (Da rfl ⟨rfl, ⟨rfl, ⟨trivial, ⟨trivial, trivial⟩⟩⟩⟩ (Da rfl ⟨rfl, ⟨rfl, ⟨trivial, ⟨trivial, trivial⟩⟩⟩⟩ (Da rfl ⟨rfl, ⟨rfl, ⟨trivial, ⟨trivial, trivial⟩⟩⟩⟩ (Da rfl ⟨rfl, ⟨rfl, ⟨trivial, ⟨trivial, trivial⟩⟩⟩⟩ (Ga rfl (Ga rfl Jo)))))) rfl rfl (Aa Pu rfl) (mev (md := [.box (EL.el a0), .box Zba, .dead, .dead]) (Da rfl ⟨rfl, ⟨rfl, ⟨trivial, ⟨trivial, trivial⟩⟩⟩⟩ (Da rfl ⟨rfl, ⟨rfl, ⟨trivial, ⟨trivial, trivial⟩⟩⟩⟩ (Da rfl ⟨rfl, ⟨rfl, ⟨trivial, ⟨trivial, trivial⟩⟩⟩⟩ (Da rfl ⟨rfl, ⟨rfl, ⟨trivial, ⟨trivial, trivial⟩⟩⟩⟩ (Ga rfl (Ga rfl Jo)))))) rfl rfl (Ao Rz rfl (.lp _ _ _ rfl) (Nbl rfl)) (med (md := [.box (EL.el a0), .box Zba, .dead, .dead]) (Da rfl ⟨rfl, ⟨rfl, ⟨trivial, ⟨trivial, trivial⟩⟩⟩⟩ (Da rfl ⟨rfl, ⟨rfl, ⟨trivial, ⟨trivial, trivial⟩⟩⟩⟩ (Da rfl ⟨rfl, ⟨rfl, ⟨trivial, ⟨trivial, trivial⟩⟩⟩⟩ (Da rfl ⟨rfl, ⟨rfl, ⟨trivial, ⟨trivial, trivial⟩⟩⟩⟩ (Ga rfl (Ga rfl Jo)))))) rfl rfl (Dy Ati (Ac rfl (Ac rfl Al)) rfl (Vf hv2)) (Aum rfl rfl (fun _ => Fs rfl) ?_)))))
 refine mev (md := [.box (EL.el a0), .box Zba, .dead, .dead]) (Da rfl ⟨rfl, ⟨rfl, ⟨trivial, ⟨trivial, trivial⟩⟩⟩⟩ (Da rfl ⟨rfl, ⟨rfl, ⟨trivial, ⟨trivial, trivial⟩⟩⟩⟩ (Da rfl ⟨rfl, ⟨rfl, ⟨trivial, ⟨trivial, trivial⟩⟩⟩⟩ (Da rfl ⟨rfl, ⟨rfl, ⟨trivial, ⟨trivial, trivial⟩⟩⟩⟩ (Ga rfl (Ga rfl Jo)))))) rfl rfl (A7 rfl rfl) (mev (md := [.box (EL.el a0), .box Zba, .dead, .dead]) (Da rfl ⟨rfl, ⟨rfl, ⟨trivial, ⟨trivial, trivial⟩⟩⟩⟩ (Da rfl ⟨rfl, ⟨rfl, ⟨trivial, ⟨trivial, trivial⟩⟩⟩⟩ (Da rfl ⟨rfl, ⟨rfl, ⟨trivial, ⟨trivial, trivial⟩⟩⟩⟩ (Da rfl ⟨rfl, ⟨rfl, ⟨trivial, ⟨trivial, trivial⟩⟩⟩⟩ (Da rfl ⟨rfl, ⟨rfl, ⟨trivial, ⟨trivial, trivial⟩⟩⟩⟩ (Ga rfl Jo)))))) rfl rfl (A7 rfl rfl) (mev (md := [.box (EL.el a0), .box Zba, .dead, .dead]) (Da rfl ⟨rfl, ⟨rfl, ⟨trivial, ⟨trivial, trivial⟩⟩⟩⟩ (Da rfl ⟨rfl, ⟨rfl, ⟨trivial, ⟨trivial, trivial⟩⟩⟩⟩ (Da rfl ⟨rfl, ⟨rfl, ⟨trivial, ⟨trivial, trivial⟩⟩⟩⟩ (Da rfl ⟨rfl, ⟨rfl, ⟨trivial, ⟨trivial, trivial⟩⟩⟩⟩ (Da rfl ⟨rfl, ⟨rfl, ⟨trivial, ⟨trivial, trivial⟩⟩⟩⟩ (Da rfl ⟨rfl, ⟨rfl, ⟨trivial, ⟨trivial, trivial⟩⟩⟩⟩ Jo)))))) rfl rfl (A7 rfl rfl) (mee (x := .s (.one (.lp 2 0))) 0 rfl rfl ?_ ?_)))
 ·refine Da rfl ⟨_, rfl, fun ζ => ?_⟩ ?_
  ·refine Na 2 rfl Z7 rfl ?_
   exact Rq
  refine Da rfl ⟨_, rfl, fun ζ => ?_⟩ ?_
  ·refine Na 2 rfl Z7 rfl ?_
   exact Rq
  refine Ga rfl (Ga rfl (Ga rfl (Ga rfl ?_)))
  exact Jo
 refine mee (x := .s (.one (.lp 3 0))) 1 rfl rfl ?_ ?_
 ·refine Da rfl ⟨_, rfl, fun ζ => ?_⟩ ?_
  ·refine Na 3 rfl Ahk rfl ?_
   exact Rq
  refine Ga rfl (Da rfl ⟨_, rfl, fun ζ => ?_⟩ ?_)
  ·refine Na 3 rfl Ahk rfl ?_
   exact Rq
  refine Ga rfl (Ga rfl (Ga rfl ?_))
  exact Jo
 refine Aup 2 rfl ?_ ?_
 ·refine Ga rfl (Ga rfl (Ga rfl (Da rfl ⟨_, rfl, fun ζ => ?_⟩ ?_)))
  ·refine Ax Ahx rfl rfl rfl rfl (Nbl rfl) (Bt [.box (EL.el a0), .box Zba, .box (EL.el v2.1), .box Zbb] rfl ?_)
   exact Rq
  refine Ga rfl (Ga rfl ?_)
  exact Jo
 refine Aup 3 rfl ?_ ?_
 ·refine Ga rfl (Ga rfl (Ga rfl (Ga rfl (Da rfl ⟨_, rfl, fun ζ => ?_⟩ ?_))))
  ·refine Ax W6 rfl rfl rfl rfl (Nbl rfl) (Bt [.box (EL.el a0), .box Zba, .box (EL.el v2.1), .box (EL.el v2.2.1)] rfl ?_)
   exact Rq
  refine Ga rfl ?_
  exact Jo
 refine Aum rfl rfl (fun _ => Ak rfl) ?_
 refine Atc (Ai (Aq (Ab (sv rfl (Ao Rz rfl (.lp _ _ _ rfl) (Nbl rfl)) (sv rfl (Aa Pu rfl) (Ax W6 rfl rfl rfl rfl (Nbl rfl) (Bt [.box (EL.el {a0 with St := v2.2.1}), .box Zba, .box (EL.el v2.1), .box (EL.el v2.2.1)] rfl (Ar (Aq (Ca (Aq (Ab (sv rfl (Ah rfl) (sv rfl (Ak rfl) (Ar (ccI h rfl (fun h => ?_) (fun h => ?_)))))))))))))))))
 ·refine Aq (Ab (sv rfl (Aa F7 rfl) (Ax sz3 rfl rfl rfl rfl (Nbl rfl) (Bt [.box (EL.el {a0 with Phase := 4, St := v2.2.1}), .box Zba, .box (EL.el v2.1), .box (EL.el v2.2.1)] rfl (Ar (Aq (Ab (sv rfl (Ao B4 rfl (.lp _ _ _ rfl) (Nbl rfl)) (sv rfl (Ao Aei rfl (.lp _ _ _ rfl) (Nbl rfl)) ?_)))))))))
  obtain ⟨v3, hv3, h⟩ := An h
  refine A1 rfl Ank (Ac rfl (Ac rfl Al)) (Aj rfl) (C5 hv3) (Ax Em rfl rfl rfl rfl (Nbl rfl) (Bt [.box (EL.el {a0 with Phase := 4, St := v2.2.1}), .box (EL.el v3), .box (EL.el v2.1), .box (EL.el v2.2.1)] rfl (Ar (Bj (Bd (As ?_))))))
  obtain rfl := SJ h
  refine ⟨Or.inr rfl, _, _, _, (Ad (Bc.agg _ _ _ _ _ B4 rfl (.lp _ _ _ rfl) (Nbl rfl)) Af), (Aj rfl), ?_⟩
  rfl
 ·refine Aq (Ab (sv rfl (Aa Wf rfl) (sv rfl (Ae ti4 rfl (.lp _ _ _ rfl) rfl) (sv rfl (Ak rfl) (Ar (ccI h rfl (fun h => ?_) (fun h => ?_)))))))
  ·refine Aq (Ab (sv rfl (Aa F7 rfl) (Ax sz3 rfl rfl rfl rfl (Nbl rfl) (Bt [.box (EL.el {a0 with Phase := 6, St := v2.2.1}), .box Zba, .box (EL.el v2.1), .box (EL.el v2.2.1)] rfl (Ar (Aq (Ab (sv rfl (Ao B4 rfl (.lp _ _ _ rfl) (Nbl rfl)) (sv rfl (Bk Z7 Aeb (Ap rfl A9) (.cons _ _ _ _ _ _ _ rfl rfl (Nbl rfl) (.nil _))) ?_)))))))))
   obtain ⟨v4, hv4, h⟩ := An h
   refine A1 rfl Ank (Ac rfl (Ac rfl Al)) (Nl rfl) (C5 hv4) (Ax Em rfl rfl rfl rfl (Nbl rfl) (Bt [.box (EL.el {a0 with Phase := 6, St := v2.2.1}), .box (EL.el v4), .box (EL.el v2.1), .box (EL.el v2.2.1)] rfl (Ar (Bj (Bd (As ?_))))))
   obtain rfl := SJ h
   refine ⟨Or.inr rfl, _, _, _, (Ad (Bc.agg _ _ _ _ _ B4 rfl (.lp _ _ _ rfl) (Nbl rfl)) Af), (Aj rfl), ?_⟩
   rfl
  ·refine Bl (A5 (Ai (Aq (Adu ?_))))
   obtain ⟨u5, hu5, h⟩ := An h
   refine Jq [10, 11] [0, 1, 3, 7, 15, 0, 32, 0, 128, 511, 0, 2047] [[.box (EL.el {a0 with St := v2.2.1}), .box Zba, .box (EL.el v2.1), .box (EL.el v2.2.1), .hole], [.box (EL.el {a0 with St := v2.2.1}), .box Zba, .box (EL.el v2.1), .box (EL.el v2.2.1), .box [Ii6 0, Ii6 0, Ii6 0, Ii6 0, Ii6 0, Ii6 0, Ii6 0, Ii6 0, Ii6 0, Ii6 0]], [.box (EL.el {a0 with St := v2.2.1}), .box Zba, .box (EL.el v2.1), .box (EL.el v2.2.1), .box (EL.el (A4.mk u5.Token a0.Attempt v2.2.1.Regs))]] (by kernel_rfl) Lz (by kernel_rfl) (by decide) rfl rfl rfl rfl ?_
   refine ev (B3 (md := [.box (EL.el {a0 with St := v2.2.1}), .box Zba, .box (EL.el v2.1), .box (EL.el v2.2.1), .dead]) ⟨⟨rfl, ⟨rfl, ⟨rfl, ⟨rfl, ⟨trivial, trivial⟩⟩⟩⟩⟩, ⟨⟨rfl, ⟨rfl, ⟨rfl, ⟨rfl, ⟨trivial, trivial⟩⟩⟩⟩⟩, ⟨⟨rfl, ⟨rfl, ⟨rfl, ⟨rfl, ⟨trivial, trivial⟩⟩⟩⟩⟩, trivial⟩⟩⟩) rfl rfl (Aa Mb rfl) (ev (B3 (md := [.box (EL.el {a0 with St := v2.2.1}), .box Zba, .box (EL.el v2.1), .box (EL.el v2.2.1), .dead]) ⟨⟨rfl, ⟨rfl, ⟨rfl, ⟨rfl, ⟨trivial, trivial⟩⟩⟩⟩⟩, ⟨⟨rfl, ⟨rfl, ⟨rfl, ⟨rfl, ⟨trivial, trivial⟩⟩⟩⟩⟩, ⟨⟨rfl, ⟨rfl, ⟨rfl, ⟨rfl, ⟨trivial, trivial⟩⟩⟩⟩⟩, trivial⟩⟩⟩) rfl rfl (Ae Y0 rfl (.lp _ _ _ rfl) rfl) (ev (B3 (md := [.box (EL.el {a0 with St := v2.2.1}), .box Zba, .box (EL.el v2.1), .box (EL.el v2.2.1), .dead]) ⟨⟨rfl, ⟨rfl, ⟨rfl, ⟨rfl, ⟨trivial, trivial⟩⟩⟩⟩⟩, ⟨⟨rfl, ⟨rfl, ⟨rfl, ⟨rfl, ⟨trivial, trivial⟩⟩⟩⟩⟩, ⟨⟨rfl, ⟨rfl, ⟨rfl, ⟨rfl, ⟨trivial, trivial⟩⟩⟩⟩⟩, trivial⟩⟩⟩) rfl rfl (Fm (f := Ay) Uf (fun _ => rfl) rfl rfl rfl rfl hu5) ?_))
   refine ev (B3 (md := [.box (EL.el {a0 with St := v2.2.1}), .box Zba, .box (EL.el v2.1), .box (EL.el v2.2.1), .dead]) ⟨⟨rfl, ⟨rfl, ⟨rfl, ⟨rfl, ⟨trivial, trivial⟩⟩⟩⟩⟩, ⟨⟨rfl, ⟨rfl, ⟨rfl, ⟨rfl, ⟨trivial, trivial⟩⟩⟩⟩⟩, ⟨⟨rfl, ⟨rfl, ⟨rfl, ⟨rfl, ⟨trivial, trivial⟩⟩⟩⟩⟩, trivial⟩⟩⟩) rfl rfl (B2 Sa rfl) (ev (B3 (md := [.box (EL.el {a0 with St := v2.2.1}), .box Zba, .box (EL.el v2.1), .box (EL.el v2.2.1), .dead]) ⟨⟨rfl, ⟨rfl, ⟨rfl, ⟨rfl, ⟨trivial, trivial⟩⟩⟩⟩⟩, ⟨⟨rfl, ⟨rfl, ⟨rfl, ⟨rfl, ⟨trivial, trivial⟩⟩⟩⟩⟩, ⟨⟨rfl, ⟨rfl, ⟨rfl, ⟨rfl, ⟨trivial, trivial⟩⟩⟩⟩⟩, trivial⟩⟩⟩) rfl rfl (Ae ti3 rfl (.cp _) rfl) (ev (B3 (md := [.box (EL.el {a0 with St := v2.2.1}), .box Zba, .box (EL.el v2.1), .box (EL.el v2.2.1), .dead]) ⟨⟨rfl, ⟨rfl, ⟨rfl, ⟨rfl, ⟨trivial, trivial⟩⟩⟩⟩⟩, ⟨⟨rfl, ⟨rfl, ⟨rfl, ⟨rfl, ⟨trivial, trivial⟩⟩⟩⟩⟩, ⟨⟨rfl, ⟨rfl, ⟨rfl, ⟨rfl, ⟨trivial, trivial⟩⟩⟩⟩⟩, trivial⟩⟩⟩) rfl rfl (Aa Of rfl) (ev (B3 (md := [.box (EL.el {a0 with St := v2.2.1}), .box Zba, .box (EL.el v2.1), .box (EL.el v2.2.1), .dead]) ⟨⟨rfl, ⟨rfl, ⟨rfl, ⟨rfl, ⟨trivial, trivial⟩⟩⟩⟩⟩, ⟨⟨rfl, ⟨rfl, ⟨rfl, ⟨rfl, ⟨trivial, trivial⟩⟩⟩⟩⟩, ⟨⟨rfl, ⟨rfl, ⟨rfl, ⟨rfl, ⟨trivial, trivial⟩⟩⟩⟩⟩, trivial⟩⟩⟩) rfl rfl (Ae ti3 rfl (.lp _ _ _ rfl) rfl) (ev (B3 (md := [.box (EL.el {a0 with St := v2.2.1}), .box Zba, .box (EL.el v2.1), .box (EL.el v2.2.1), .dead]) ⟨⟨rfl, ⟨rfl, ⟨rfl, ⟨rfl, ⟨trivial, trivial⟩⟩⟩⟩⟩, ⟨⟨rfl, ⟨rfl, ⟨rfl, ⟨rfl, ⟨trivial, trivial⟩⟩⟩⟩⟩, ⟨⟨rfl, ⟨rfl, ⟨rfl, ⟨rfl, ⟨trivial, trivial⟩⟩⟩⟩⟩, trivial⟩⟩⟩) rfl rfl (Aa Oj rfl) (ev (B3 (md := [.box (EL.el {a0 with St := v2.2.1}), .box Zba, .box (EL.el v2.1), .box (EL.el v2.2.1), .dead]) ⟨⟨rfl, ⟨rfl, ⟨rfl, ⟨rfl, ⟨trivial, trivial⟩⟩⟩⟩⟩, ⟨⟨rfl, ⟨rfl, ⟨rfl, ⟨rfl, ⟨trivial, trivial⟩⟩⟩⟩⟩, ⟨⟨rfl, ⟨rfl, ⟨rfl, ⟨rfl, ⟨trivial, trivial⟩⟩⟩⟩⟩, trivial⟩⟩⟩) rfl rfl (Ao At5 rfl (.lp _ _ _ rfl) (Nbl rfl)) (ev (B3 (md := [.box (EL.el {a0 with St := v2.2.1}), .box Zba, .box (EL.el v2.1), .box (EL.el v2.2.1), .dead]) ⟨⟨rfl, ⟨rfl, ⟨rfl, ⟨rfl, ⟨trivial, trivial⟩⟩⟩⟩⟩, ⟨⟨rfl, ⟨rfl, ⟨rfl, ⟨rfl, ⟨trivial, trivial⟩⟩⟩⟩⟩, ⟨⟨rfl, ⟨rfl, ⟨rfl, ⟨rfl, ⟨trivial, trivial⟩⟩⟩⟩⟩, trivial⟩⟩⟩) rfl rfl (Bk Atz Au9 (Ap rfl (Ap rfl (Ap rfl A9))) (.cons _ _ _ _ _ _ _ rfl rfl (Nbl rfl) (.cons _ _ _ _ _ _ _ rfl rfl (Nbl rfl) (.cons _ _ _ _ _ _ _ rfl rfl (Nbl rfl) (.nil _))))) (ee (x := .s (.one (.lp 4 0))) 0 rfl rfl rfl rfl rfl (fun ζ => ?_) ?_)))))))
   ·refine Na 4 rfl Atz rfl ?_
    exact Rq
   refine ee0 1 rfl rfl rfl rfl (fun ζ => ?_) ?_
   ·refine Ax Au7 rfl rfl rfl rfl (Nbl rfl) (Bt [.box (EL.el {a0 with St := v2.2.1}), .box Zba, .box (EL.el v2.1), .box (EL.el v2.2.1), .box (EL.el (A4.mk u5.Token a0.Attempt v2.2.1.Regs))] rfl ?_)
    exact Rq
   refine Ys (Ai (Aq (Ab (sv rfl (Aa F7 rfl) (Ax sz3 rfl rfl rfl rfl (Nbl rfl) (Bt [.box (EL.el {a0 with Phase := 5, St := v2.2.1}), .box Zba, .box (EL.el v2.1), .box (EL.el v2.2.1), .box (EL.el (A4.mk u5.Token a0.Attempt v2.2.1.Regs))] rfl (Ar (Aq (Ab (sv rfl (Ao B4 rfl (.lp _ _ _ rfl) (Nbl rfl)) (sv rfl (Bk Z7 Aeb (Ap rfl A9) (.cons _ _ _ _ _ _ _ rfl rfl (Nbl rfl) (.nil _))) ?_)))))))))))
   obtain ⟨v6, hv6, h⟩ := An h
   refine A1 rfl Ank (Ac rfl (Ac rfl Al)) (Nl rfl) (C5 hv6) (Ax Em rfl rfl rfl rfl (Nbl rfl) (Bt [.box (EL.el v6), .box Zba, .box (EL.el v2.1), .box (EL.el v2.2.1), .box (EL.el (A4.mk u5.Token a0.Attempt v2.2.1.Regs))] rfl (Ar (Aq (Aq (Ab (sv rfl (Aa F7 rfl) (sv rfl (Ae ti3 rfl (.lp _ _ _ rfl) rfl) (sv rfl (Bo rfl rfl) (Ar (ccI h rfl (fun h => ?_) (fun h => ?_))))))))))))
   ·refine Aq (Ab (sv rfl (Ao B4 rfl (.lp _ _ _ rfl) (Nbl rfl)) (Ax Em rfl rfl rfl rfl (Nbl rfl) (Bt [.box (EL.el v6), .box (EL.el v6), .box (EL.el v2.1), .box (EL.el v2.2.1), .box (EL.el (A4.mk u5.Token a0.Attempt v2.2.1.Regs))] rfl (Ar (Bj (As ?_)))))))
    obtain rfl := SJ h
    refine ⟨Or.inr rfl, _, _, _, (Ad (Bc.agg _ _ _ _ _ B4 rfl (.lp _ _ _ rfl) (Nbl rfl)) Af), (Aj rfl), ?_⟩
    rfl
   ·refine Bl (Ai (Aq (Ab (sv rfl (Aa Abn rfl) (sv rfl (Ae Aqx rfl (.lp _ _ _ rfl) rfl) (sv rfl (Ao Avv rfl (.lp _ _ _ rfl) (Nbl rfl)) ?_))))))
    refine Qy rfl Tryz.underlying42 Aro rfl rfl (List.all_eq_true.1 rfl) (by decide) ?_
    refine Bt [.box (EL.el v6), .box Zba, .box (EL.el v2.1), .box (EL.el v2.2.1), .box (EL.el (A4.mk u5.Token a0.Attempt v2.2.1.Regs)), .arr 64 10 0 ([(A4.mk u5.Token a0.Attempt v2.2.1.Regs)].flatMap Bb)] rfl ?_
    refine Zf 55 rfl (by (repeat' first | exact J8.nil _ | apply J8.cons | apply Jv.one | apply Jv.agg | exact E4.nil | exact E4.ls _ _ _ _ _ _ rfl (Bf (f := Bb) (fun _ => rfl) ([(A4.mk u5.Token a0.Attempt v2.2.1.Regs)] : List A4)).symm | exact E4.ls _ _ _ _ _ _ rfl (Bf (f := Bb) (fun _ => rfl) _).symm | exact E4.id _ rfl | exact D2.nil _ | apply D2.cons)) ?_
    refine Sp (out := ([v6.Tried, [(A4.mk u5.Token a0.Attempt v2.2.1.Regs)]] : List (List A4)).flatMap (eL Bb)) rfl Tryz.underlying216 Avy (Ap rfl (Ap rfl A9)) (.cons _ _ _ _ _ _ _ rfl rfl (Nbl rfl) (.cons _ _ _ _ _ _ _ rfl rfl (Nbl rfl) (.nil _))) rfl (by decide) ?_
    refine Zf 56 rfl (by (repeat' first | exact J8.nil _ | apply J8.cons | apply Jv.one | apply Jv.agg | exact E4.nil | exact E4.ls _ _ _ _ _ _ rfl (Bf (f := (eL Bb)) (fun _ => rfl) ([v6.Tried, [(A4.mk u5.Token a0.Attempt v2.2.1.Regs)]] : List (List A4))).symm | exact E4.ls _ _ _ _ _ _ rfl (Bf (f := (eL Bb)) (fun _ => rfl) _).symm | exact E4.ls _ _ _ _ _ _ rfl (Bf (f := Bb) (fun _ => rfl) _).symm | exact E4.id _ rfl | exact D2.nil _ | apply D2.cons)) ?_
    obtain ⟨v7, hv7, h⟩ := An h
    refine C2 (x' := .s (.one (.ls 7 v7.length))) (M' := [.box (EL.el v6), .box Zba, .box (EL.el v2.1), .box (EL.el v2.2.1), .box (EL.el (A4.mk u5.Token a0.Attempt v2.2.1.Regs)), .arr 64 10 ([(A4.mk u5.Token a0.Attempt v2.2.1.Regs)].flatMap Bb).length ([(A4.mk u5.Token a0.Attempt v2.2.1.Regs)].flatMap Bb), .arr 42 1 ([v6.Tried, [(A4.mk u5.Token a0.Attempt v2.2.1.Regs)]].flatMap (eL Bb)).length ([v6.Tried, [(A4.mk u5.Token a0.Attempt v2.2.1.Regs)]].flatMap (eL Bb)), .arr 64 10 0 (v7.flatMap Bb)]) [] rfl Arj (.func _) (Ac rfl Al) (Qf hv7) rfl rfl (by decide) rfl rfl rfl ?_
    refine sv rfl (Aa Abn rfl) (Ax Avg rfl rfl rfl rfl (Nbl rfl) (Bt [.box ((EL.el v6).set 39 (.ls 7 v7.length)), .box Zba, .box (EL.el v2.1), .box (EL.el v2.2.1), .box (EL.el (A4.mk u5.Token a0.Attempt v2.2.1.Regs)), .arr 64 10 ([(A4.mk u5.Token a0.Attempt v2.2.1.Regs)].flatMap Bb).length ([(A4.mk u5.Token a0.Attempt v2.2.1.Regs)].flatMap Bb), .arr 42 1 ([v6.Tried, [(A4.mk u5.Token a0.Attempt v2.2.1.Regs)]].flatMap (eL Bb)).length ([v6.Tried, [(A4.mk u5.Token a0.Attempt v2.2.1.Regs)]].flatMap (eL Bb)), .arr 64 10 0 (v7.flatMap Bb)] rfl (Ar (Aq (Ab (sv rfl (Aa X1 rfl) (Ax sz4 rfl rfl rfl rfl (Nbl rfl) (Bt [.box ((EL.el {v6 with Risk := true}).set 39 (.ls 7 v7.length)), .box Zba, .box (EL.el v2.1), .box (EL.el v2.2.1), .box (EL.el (A4.mk u5.Token a0.Attempt v2.2.1.Regs)), .arr 64 10 ([(A4.mk u5.Token a0.Attempt v2.2.1.Regs)].flatMap Bb).length ([(A4.mk u5.Token a0.Attempt v2.2.1.Regs)].flatMap Bb), .arr 42 1 ([v6.Tried, [(A4.mk u5.Token a0.Attempt v2.2.1.Regs)]].flatMap (eL Bb)).length ([v6.Tried, [(A4.mk u5.Token a0.Attempt v2.2.1.Regs)]].flatMap (eL Bb)), .arr 64 10 0 (v7.flatMap Bb)] rfl (Ar (Aq (Ab (sv rfl (Ao B4 rfl (.lp _ _ _ rfl) (Nbl rfl)) (Ax Em rfl rfl rfl rfl (Nbl rfl) (Bt [.box ((EL.el {v6 with Risk := true}).set 39 (.ls 7 v7.length)), .box ((EL.el {v6 with Risk := true}).set 39 (.ls 7 v7.length)), .box (EL.el v2.1), .box (EL.el v2.2.1), .box (EL.el (A4.mk u5.Token a0.Attempt v2.2.1.Regs)), .arr 64 10 ([(A4.mk u5.Token a0.Attempt v2.2.1.Regs)].flatMap Bb).length ([(A4.mk u5.Token a0.Attempt v2.2.1.Regs)].flatMap Bb), .arr 42 1 ([v6.Tried, [(A4.mk u5.Token a0.Attempt v2.2.1.Regs)]].flatMap (eL Bb)).length ([v6.Tried, [(A4.mk u5.Token a0.Attempt v2.2.1.Regs)]].flatMap (eL Bb)), .arr 64 10 0 (v7.flatMap Bb)] rfl (Ar (Bj ?_))))))))))))))))
    obtain rfl := SJ h
    refine ⟨Or.inr rfl, _, _, _, (Ad (Bc.agg _ _ _ _ _ B4 rfl (.lp _ _ _ rfl) (Nbl rfl)) Af), (by (repeat' first | exact J8.nil _ | apply J8.cons | apply Jv.one | apply Jv.agg | exact E4.nil | exact E4.ls _ _ _ _ _ _ rfl (Bf (f := (eL Bb)) (fun _ => rfl) _).symm | exact E4.ls _ _ _ _ _ _ rfl (Bf (f := Bb) (fun _ => rfl) _).symm | exact E4.id _ rfl | exact D2.nil _ | apply D2.cons)), ?_⟩
    rfl
def Ey (a0 : Ag) (a1 : Be) : Option Ag :=
 if (!decide (a1.Code = 0)) then ((Db a0 a1.Code).bind fun v1 => some v1) else ((Ed a0).bind fun v2 => some v2)
theorem Oe {a0 : Ag} {a1 : Be} {r : Ag} (h : Ey a0 a1 = some r) : Bp Tryz.prog 100 [.agg (EL.el a0), .agg (EL.el a1)] (· = .s (.agg (EL.el r))) := by
 unfold Ey at h
 refine A2 Tryz.func100 rfl (nt := 14) rfl (Nbl rfl) ?_
 intro w0 S0
 refine Aq (Ab (Je rfl rfl (Je rfl rfl (Bz rfl Nc (Ar (Aq (Aq (Ab (sv rfl (Aa Qd rfl) (sv rfl (Ae Aaz rfl (.lp _ _ _ rfl) rfl) (sv rfl (Cd rfl rfl) (Ar (ccI h rfl (fun h => ?_) (fun h => ?_))))))))))))))
 ·refine Aq (Ab (sv rfl (Ao B4 rfl (.lp _ _ _ rfl) (Nbl rfl)) (sv rfl (Aa Qd rfl) (sv rfl (Ae Aaz rfl (.lp _ _ _ rfl) rfl) ?_))))
  obtain ⟨v1, hv1, h⟩ := An h
  refine A1 rfl Ape (Ac rfl (Ac rfl Al)) (Aj rfl) (Kk hv1) (Ax Em rfl rfl rfl rfl (Nbl rfl) (Bt [.box (EL.el a0), .box (EL.el a1), .box (EL.el v1)] rfl (Ar (Bj (As ?_)))))
  obtain rfl := SJ h
  refine ⟨Or.inr rfl, _, _, _, (Ad (Bc.agg _ _ _ _ _ B4 rfl (.lp _ _ _ rfl) (Nbl rfl)) Af), (Aj rfl), ?_⟩
  rfl
 ·refine Bl (Ai (Aq (Ab (sv rfl (Ao B4 rfl (.lp _ _ _ rfl) (Nbl rfl)) ?_))))
  obtain ⟨v2, hv2, h⟩ := An h
  refine A1 rfl Aoa (Ac rfl Al) (Aj rfl) (Lr hv2) (Ax Em rfl rfl rfl rfl (Nbl rfl) (Bt [.box (EL.el a0), .box (EL.el a1), .box (EL.el v2)] rfl (Ar (Bj ?_))))
  obtain rfl := SJ h
  refine ⟨Or.inr rfl, _, _, _, (Ad (Bc.agg _ _ _ _ _ B4 rfl (.lp _ _ _ rfl) (Nbl rfl)) Af), (Aj rfl), ?_⟩
  rfl
def Lk  : Option Unit :=
 (Cn 4).bind fun v1 => if (!v1) then none else (some ())
theorem P5  {r : Unit} (h : Lk = some r) : Gs Tryz.prog 79 [] [.one (Ii6 4)] (fun y m' => y = .s (.one (.raw (.func (.func 101) #[] #[]))) ∧ m' = []) := by
 unfold Lk at h
 refine Cv Tryz.func79 rfl (nt := 11) rfl (Nbl rfl) ?_
 intro w0 S0 X0 H0
 refine Aq (Ab (sv rfl (Ak rfl) (Ar (Aq (Ab (sv rfl (G2 Rt Se (Ap rfl (Ap rfl (Ap rfl (Ap rfl (Ap rfl (Ap rfl (Ap rfl A9))))))) (Ea [Nfu, Nfu, .raw (.func (.func 99) #[] #[]), Nfu, Nfu, Nfu, Nfu, Nfu, Nfu, Nfu] rfl rfl (Nbl rfl) rfl (Ea [Nfu, Nfu, .raw (.func (.func 99) #[] #[]), .raw (.func (.func 100) #[] #[]), Nfu, Nfu, Nfu, Nfu, Nfu, Nfu] rfl rfl (Nbl rfl) rfl (Ea [Nfu, Nfu, .raw (.func (.func 99) #[] #[]), .raw (.func (.func 100) #[] #[]), .raw (.func (.func 101) #[] #[]), Nfu, Nfu, Nfu, Nfu, Nfu] rfl rfl (Nbl rfl) rfl (Ea [Nfu, Nfu, .raw (.func (.func 99) #[] #[]), .raw (.func (.func 100) #[] #[]), .raw (.func (.func 101) #[] #[]), .raw (.func (.func 102) #[] #[]), Nfu, Nfu, Nfu, Nfu] rfl rfl (Nbl rfl) rfl (Ea [Nfu, Nfu, .raw (.func (.func 99) #[] #[]), .raw (.func (.func 100) #[] #[]), .raw (.func (.func 101) #[] #[]), .raw (.func (.func 102) #[] #[]), .raw (.func (.func 103) #[] #[]), Nfu, Nfu, Nfu] rfl rfl (Nbl rfl) rfl (Ea [Nfu, Nfu, .raw (.func (.func 99) #[] #[]), .raw (.func (.func 100) #[] #[]), .raw (.func (.func 101) #[] #[]), .raw (.func (.func 102) #[] #[]), .raw (.func (.func 103) #[] #[]), .raw (.func (.func 104) #[] #[]), Nfu, Nfu] rfl rfl (Nbl rfl) rfl (Ea [Nfu, Nfu, .raw (.func (.func 99) #[] #[]), .raw (.func (.func 100) #[] #[]), .raw (.func (.func 101) #[] #[]), .raw (.func (.func 102) #[] #[]), .raw (.func (.func 103) #[] #[]), .raw (.func (.func 104) #[] #[]), Nfu, .raw (.func (.func 105) #[] #[])] rfl rfl (Nbl rfl) rfl (.nil _))))))))) (Bz rfl Rt (Ax Zi rfl rfl rfl rfl (Nbl rfl) (Bt [.box [Nfu, Nfu, .raw (.func (.func 99) #[] #[]), .raw (.func (.func 100) #[] #[]), .raw (.func (.func 101) #[] #[]), .raw (.func (.func 102) #[] #[]), .raw (.func (.func 103) #[] #[]), .raw (.func (.func 104) #[] #[]), Nfu, .raw (.func (.func 105) #[] #[])]] rfl (Ar (Aq (Aq (Ab (sv rfl (Ah rfl) ?_))))))))))))))
 obtain ⟨v1, hv1, h⟩ := An h
 refine A1 rfl Ajp (Ac rfl Al) (Aj rfl) (Dz hv1) (sv rfl (B8 rfl) (Ar (ccI h rfl (fun h => ?_) (fun h => ?_))))
 ·refine Aq (Ab ?_)
  cases h
 ·refine Bl (Ai (Aq (Ab (sv rfl (Ah rfl) ?_))))
  refine sv rfl (Ot (o := 4) Se rfl rfl (by decide)) ?_
  refine sv rfl (Ae Ab4 rfl (.lp _ _ _ rfl) rfl) (sv rfl (Ak rfl) (Ar (Bj ?_)))
  obtain rfl := SJ h
  exact ⟨Or.inr rfl, _, [], [.one (.raw (.func (.func 101) #[] #[]))], [], (Ad (Bc.tmp _ _ rfl) Af), rfl, rfl, ⟨by decide, rfl⟩, rfl, rfl, ⟨rfl, rfl⟩⟩
def K9 (a0 : List UInt8) : Option Int :=
 (cut a0 0 (if 4 < (a0.length : Int) then 4 else (a0.length : Int))).bind fun c1 => (Jg c1).bind fun v2 => (A3 (c1.length : Int) v2.1 v2.2.1 v2.2.2).bind fun v3 => some (wI (v3.1.toNat : Int))
theorem Ql {a0 : List UInt8} {r : Int} (h : K9 a0 = some r) : Bp Tryz.prog 131 [.one (.sl a0.length (a0.flatMap eU8))] (· = .s (.one (Ii6 r))) := by
 unfold K9 at h
 refine A2 Tryz.func131 rfl (nt := 14) rfl (Nbl rfl) ?_
 intro w0 S0
 refine Aq (Ab (sv rfl (Ak rfl) (Ar (Aq (Ab (sv rfl (Ah rfl) (sv rfl (Ah rfl) (sv rfl (Az Lc rfl) (sv rfl (Ss rfl rfl) ?_)))))))))
 obtain ⟨c1, hc1, h⟩ := An h
 refine sv rfl (Sw (f := eU8) (lo := 0) (hi := (if 4 < (a0.length : Int) then 4 else (a0.length : Int))) Lc (fun _ => rfl) rfl rfl rfl Re (Hs rfl (Int.le_trans (Kp hc1).1.1 (Kp hc1).1.2.1)) hc1) ?_
 refine sv rfl (Ak rfl) (Ar (Aq (Ab (sv rfl (Ah rfl) ?_))))
 obtain ⟨v2, hv2, h⟩ := An h
 refine C2 (x' := .s (.one (.lp 0 0))) (M' := [.box [.fn 112 [] [.lp 1 0, .lp 2 0], Ii6 v2.1], .box [Ii6 v2.2.1], .box [.sl v2.2.2.length (v2.2.2.flatMap eU8)]]) [] rfl Asg (.func _) (Ac rfl Al) (Oy hv2) rfl rfl (by decide) rfl rfl rfl ?_
 refine sv rfl (Ah rfl) (sv rfl (Az Lc rfl) ?_)
 obtain ⟨v3, hv3, h⟩ := An h
 refine C2 (x' := .s (.one (.i .u64 (v3.1.toNat : Int)))) (M' := [.box [.fn 112 [] [.lp 1 0, .lp 2 0], Ii6 v3.2.1], .box [Ii6 v3.2.2], .box [.sl v2.2.2.length (v2.2.2.flatMap eU8)]]) [0, 1, 2] rfl Ah4 (.func _) (Ac rfl (Ac rfl Al)) (Cx hv3) rfl rfl (by decide) rfl rfl rfl ?_
 refine sv rfl (Fx Tryz.underlying112 Tryz.underlying3 rfl) (sv rfl (Ak rfl) (Ar (Bj ?_)))
 obtain rfl := SJ h
 refine ⟨Or.inr rfl, _, _, _, (Ad (Bc.tmp _ _ rfl) Af), (Aj rfl), ?_⟩
 rfl
def Np (b1 : Int) : Option Int :=
 some b1
def Jt (a0 : List C9) (s2 : Int × Int) : Option (LB (Int × Int) (Int)) :=
 if (decide (s2.2 < (a0.length : Int))) then ((idx a0 s2.2).bind fun u3 => (K9 u3.Val).bind fun v4 => (Ia (wI (s2.1 + v4))).bind fun v5 => some (.cont (v5, (wI (s2.2 + 1))))) else (some (.brk s2.1))
def Mi (a0 : List C9) : Option Int :=
 (Ez (Jt a0) fuel (0, 0)).bind fun e6 => Np e6
theorem Wb {a0 : List C9} {r : Int} (h : Mi a0 = some r) : Bp Tryz.prog 132 [.one (.sl a0.length (a0.flatMap Dr))] (· = .s (.one (Ii6 r))) := by
 unfold Mi at h
 refine A2 Tryz.func132 rfl (nt := 20) rfl (Nbl rfl) ?_
 intro w0 S0
 refine Aq (Ab (sv rfl (Ak rfl) (Ar (Aq (Ab (sv rfl (Ak rfl) (Ar (Aq (Aq (Ab (sv rfl (Ah rfl) (sv rfl (Az Ac5 rfl) (sv rfl (Ah rfl) (Ar (G5 (Int) (fun b1 => [(3, .s (.one (Ii6 b1)))]) (fun b1 => []) (fun b1 => Np b1 = some r) (fun _ _ => Bg rfl) (fun _ _ => A0 rfl) (fun _ _ => Nbl rfl) (fun b1 h => ?_) ?_)))))))))))))))
 ·unfold Np at h
  refine Aq (Ab (sv rfl (Ah rfl) (sv rfl (Ak rfl) (Ar (Bj ?_)))))
  obtain rfl := SJ h
  refine ⟨Or.inr rfl, _, _, _, (Ad (Bc.tmp _ _ rfl) Af), (Aj rfl), ?_⟩
  rfl
 ·skip
  refine Ca ?_
  obtain ⟨x2, hx2, ho2⟩ := An h
  refine De (G := Nat × (Int × Int)) (fun g => [(3, .s (.one (Ii6 g.2.1))), (6, .s (.one (.sl a0.length (a0.flatMap Dr)))), (7, .s (.one (Ii6 (a0.length : Int)))), (8, .s (.one (Ii6 g.2.2)))]) (fun g => []) (fun g => Ez (Jt a0) g.1 g.2 = some x2) (fun g => g.1) (fuel, (0, 0)) hx2 ⟨rfl, rfl, rfl, rfl, trivial⟩ [] rfl (fun _ _ => Bg rfl) (fun _ _ => A0 rfl) (fun _ _ => Nbl rfl) ?_
  clear hx2 h
  rintro ⟨n2, s2⟩ h
  obtain ⟨n2, y2, rfl, h, hk2⟩ := Gp h
  unfold Jt at h
  refine Aq (Ab (sv rfl (Cs rfl rfl) (Ar (Aq (ccI h rfl (fun h => ?_) (fun h => ?_))))))
  ·refine Bl (Ai (Aq (Ca (Aq (Ab ?_)))))
   obtain ⟨u3, hu3, h⟩ := An h
   refine sv rfl (Fm (f := Dr) Ac5 (fun _ => rfl) rfl rfl rfl rfl hu3) ?_
   refine sv rfl (Dj (ys := [.sl u3.Key.length (u3.Key.flatMap eU8), .sl u3.Val.length (u3.Val.flatMap eU8)]) Al5 rfl (.cp _) rfl rfl) (Bz rfl Aia (Ax Amq rfl rfl rfl rfl (Nbl rfl) (Bt [.box (EL.el u3)] rfl (Ar (Ab (sv rfl (Ah rfl) (sv rfl (Aa Ye rfl) (sv rfl (Ae L2 rfl (.lp _ _ _ rfl) rfl) ?_))))))))
   obtain ⟨v4, hv4, h⟩ := An h
   refine A1 rfl Aoq (Ac rfl Al) (Aj rfl) (Ql hv4) (sv rfl (B9 rfl rfl) ?_)
   obtain ⟨v5, hv5, h⟩ := An h
   refine A1 rfl Aoz (Ac rfl Al) (Aj rfl) (Ol hv5) (sv rfl (Ak rfl) (Ls (A5 (Ai (Ab (sv rfl (B9 rfl rfl) (sv rfl (Ah rfl) (Ar ?_))))))))
   obtain rfl := SJ h
   exact ⟨(n2, (v5, (wI (s2.2 + 1)))), _, hk2, ⟨rfl, rfl, rfl, rfl, trivial⟩, rfl, Nat.lt_succ_self _⟩
  ·refine Lw (Bi (Bi (Ck (Ai ?_))))
   obtain rfl := SJ h
   obtain rfl : _ = x2 := hk2
   exact ⟨s2.1, _, ho2, ⟨rfl, trivial⟩, rfl⟩
def Gi (b4 : A6) : Option (A6 × Int) :=
 some (b4, 0)
def K4 (a0 : Co) (a1 : A6) (a2 : Be) (b2 : Unit) : Option (A6 × Int) :=
 (idx a0.Ops a1.PC).bind fun u3 => if (decide (u3.What = 1)) then (if 0 ≤ u3.B ∧ u3.B < ((8 : Nat) : Int) then ((Ib (Ev.mk a1.Regs.R0 a1.Regs.R1 a1.Regs.R2 a1.Regs.R3 a1.Regs.R4 a1.Regs.R5 a1.Regs.R6 a1.Regs.R7) u3.B 0).bind fun q6 => if 0 ≤ u3.A ∧ u3.A < ((8 : Nat) : Int) then ((Ib (Ev.mk q6.R0 q6.R1 q6.R2 q6.R3 q6.R4 q6.R5 q6.R6 q6.R7) u3.A 0).bind fun q8 => if a2.Found then (if 0 ≤ u3.B ∧ u3.B < ((8 : Nat) : Int) then ((Ib (Ev.mk q8.R0 q8.R1 q8.R2 q8.R3 q8.R4 q8.R5 q8.R6 q8.R7) u3.B 1).bind fun q10 => (K9 a2.Val).bind fun v11 => if 0 ≤ u3.A ∧ u3.A < ((8 : Nat) : Int) then ((Ib (Ev.mk q10.R0 q10.R1 q10.R2 q10.R3 q10.R4 q10.R5 q10.R6 q10.R7) u3.A v11).bind fun q13 => Gi (A6.mk (wI (a1.PC + 1)) q13 a1.Stopped)) else none) else none) else (Gi (A6.mk (wI (a1.PC + 1)) q8 a1.Stopped))) else none) else none) else (if (decide (u3.What = 4)) then ((Mi a2.List).bind fun v14 => if 0 ≤ u3.B ∧ u3.B < ((8 : Nat) : Int) then ((Ib (Ev.mk a1.Regs.R0 a1.Regs.R1 a1.Regs.R2 a1.Regs.R3 a1.Regs.R4 a1.Regs.R5 a1.Regs.R6 a1.Regs.R7) u3.B v14).bind fun q16 => if 0 ≤ u3.A ∧ u3.A < ((8 : Nat) : Int) then ((Ib (Ev.mk q16.R0 q16.R1 q16.R2 q16.R3 q16.R4 q16.R5 q16.R6 q16.R7) u3.A (a2.List.length : Int)).bind fun q18 => Gi (A6.mk (wI (a1.PC + 1)) q18 a1.Stopped)) else none) else none) else (Gi (A6.mk (wI (a1.PC + 1)) a1.Regs a1.Stopped)))
def Di (a0 : Co) (a1 : A6) (a2 : Be) : Option (A6 × Int) :=
 (D0 a0).bind fun v1 => if (!v1) then (some (G4, 1)) else ((E6 a1.PC (wI ((a0.Ops.length : Int) - 1))).bind fun v19 => if (!v19) then (some (G4, 7)) else (if a1.Stopped then (some (G4, 7)) else ((idx a0.Ops a1.PC).bind fun u20 => (J9 u20).bind fun v21 => if (!v21) then (some (G4, 7)) else (K4 a0 a1 a2 ()))))
theorem Vd {a0 : Co} {a1 : A6} {a2 : Be} {r : A6 × Int} (h : Di a0 a1 a2 = some r) : Bp Tryz.prog 118 [.agg (EL.el a0), .agg (EL.el a1), .agg (EL.el a2)] (· = .tup [.agg (EL.el r.1), .one (Ii6 r.2)]) := by
 unfold Di at h
 refine A2 Tryz.func118 rfl (nt := 88) rfl (Nbl rfl) ?_
 intro w0 S0
 refine Aq (Ab (Je rfl rfl (Je rfl rfl (Je rfl rfl (Bz rfl Ahk (sv rfl (Ak rfl) (Ar (Aq (Aq (Ab (sv rfl (Ao Alu rfl (.lp _ _ _ rfl) (Nbl rfl)) ?_)))))))))))
 obtain ⟨v1, hv1, h⟩ := An h
 refine A1 rfl Asr (Ac rfl Al) (Aj rfl) (Od hv1) (sv rfl (B8 rfl) (Ar (ccI h rfl (fun h => ?_) (fun h => ?_))))
 ·refine Aq (Ab (sv rfl (Bk Ahk Apz A9 (.nil _)) (Ax W6 rfl rfl rfl rfl (Nbl rfl) (Bt [.box (EL.el a0), .box (EL.el a1), .box (EL.el a2), .box Zbb] rfl (sv rfl (Ak rfl) (Ar (Bj (As ?_))))))))
  obtain rfl := SJ h
  refine ⟨Or.inr rfl, _, _, _, (Ad (Bc.agg _ _ _ _ _ Rz rfl (.lp _ _ _ rfl) (Nbl rfl)) (Ad (Bc.tmp _ _ rfl) Af)), (Aj rfl), ?_⟩
  rfl
 ·refine Bl (Ai (Aq (Aq (Ki (Unit) (fun b2 => [(3, .s (.one (.lp 0 0))), (4, .s (.one (.lp 1 0))), (5, .s (.one (.lp 2 0))), (6, .s (.one (.lp 3 0)))]) (fun b2 => [.box (EL.el a0), .box (EL.el a1), .box (EL.el a2), .box Zbb]) (fun b2 => K4 a0 a1 a2 b2 = some r) (fun _ _ => Bg rfl) (fun _ _ => A0 rfl) (fun _ _ => Nbl rfl) (fun b2 h => ?_) ?_))))
  ·unfold K4 at h
   refine Aq (Ab (sv rfl (Aa Rx rfl) (sv rfl (Ae Aja rfl (.lp _ _ _ rfl) rfl) (sv rfl (Aa Ou rfl) (sv rfl (Ae ti3 rfl (.lp _ _ _ rfl) rfl) ?_)))))
   obtain ⟨u3, hu3, h⟩ := An h
   refine sv rfl (Fm (f := Cf) Ah7 (fun _ => rfl) rfl rfl rfl rfl hu3) ?_
   refine sv rfl (Dj (ys := [Ii6 u3.What, Ii6 u3.A, Ii6 u3.B, Ii6 u3.N, .sl u3.Key.length (u3.Key.flatMap eU8), .sl u3.Rng.Lo.length (u3.Rng.Lo.flatMap eU8), .sl u3.Rng.Hi.length (u3.Rng.Hi.flatMap eU8), .b u3.Rng.Open]) Ak5 rfl (.cp _) rfl rfl) (Bz rfl Aps (Ax Aq7 rfl rfl rfl rfl (Nbl rfl) (Bt [.box (EL.el a0), .box (EL.el a1), .box (EL.el a2), .box Zbb, .box (EL.el u3)] rfl (Ar (Aq (Ab (sv rfl (Aa Ou rfl) (sv rfl (Ae ti3 rfl (.lp _ _ _ rfl) rfl) (sv rfl (B9 rfl rfl) (sv rfl (Aa Ou rfl) (Ax sz3 rfl rfl rfl rfl (Nbl rfl) (Bt [.box (EL.el a0), .box (EL.el {a1 with PC := wI (a1.PC + 1)}), .box (EL.el a2), .box Zbb, .box (EL.el u3)] rfl (Ar (Aq (Aq (Ab (sv rfl (Aa V3 rfl) (sv rfl (Ae ti3 rfl (.lp _ _ _ rfl) rfl) (Ar (G5 (A6) (fun b4 => [(4, .s (.one (.lp 1 0))), (6, .s (.one (.lp 3 0)))]) (fun b4 => [.box (EL.el a0), .box (EL.el b4), .box (EL.el a2), .box Zbb, .box (EL.el u3)]) (fun b4 => Gi b4 = some r) (fun _ _ => Bg rfl) (fun _ _ => A0 rfl) (fun _ _ => Nbl rfl) (fun b4 h => ?_) ?_))))))))))))))))))))
   ·unfold Gi at h
    refine Aq (Ab (sv rfl (Ao Rz rfl (.lp _ _ _ rfl) (Nbl rfl)) (Ax W6 rfl rfl rfl rfl (Nbl rfl) (Bt [.box (EL.el a0), .box (EL.el b4), .box (EL.el a2), .box (EL.el b4), .box (EL.el u3)] rfl (sv rfl (Ak rfl) (Ar (Bj ?_)))))))
    obtain rfl := SJ h
    refine ⟨Or.inr rfl, _, _, _, (Ad (Bc.agg _ _ _ _ _ Rz rfl (.lp _ _ _ rfl) (Nbl rfl)) (Ad (Bc.tmp _ _ rfl) Af)), (Aj rfl), ?_⟩
    rfl
   ·skip
    refine Ca (Aq (Ab (sv rfl (Bo rfl rfl) (sv rfl (Ak rfl) (Ar (ccI h rfl (fun h => ?_) (fun h => ?_)))))))
    ·refine Aq ?_
     obtain ⟨hj5, h⟩ := D4 h
     obtain ⟨q6, hq6, h⟩ := An h
     obtain ⟨hj7, h⟩ := D4 h
     obtain ⟨q8, hq8, h⟩ := An h
     refine Jq [6, 9] [0, 1, 0, 4, 0, 19, 51, 0, 255, 511] [[.box (EL.el a0), .box (EL.el {a1 with PC := wI (a1.PC + 1)}), .box (EL.el a2), .box Zbb, .box (EL.el u3)], [.box (EL.el a0), .box [Ii6 (wI (a1.PC + 1)), Ii6 q6.R0, Ii6 q6.R1, Ii6 q6.R2, Ii6 q6.R3, Ii6 q6.R4, Ii6 q6.R5, Ii6 q6.R6, Ii6 q6.R7, .b a1.Stopped], .box (EL.el a2), .box Zbb, .box (EL.el u3)], [.box (EL.el a0), .box [Ii6 (wI (a1.PC + 1)), Ii6 q8.R0, Ii6 q8.R1, Ii6 q8.R2, Ii6 q8.R3, Ii6 q8.R4, Ii6 q8.R5, Ii6 q8.R6, Ii6 q8.R7, .b a1.Stopped], .box (EL.el a2), .box Zbb, .box (EL.el u3)]] (by kernel_rfl) Lz (by kernel_rfl) (by decide) rfl rfl rfl rfl ?_
     refine ev (Bh 0 rfl rfl) rfl rfl (Aa Xt rfl) (ev (Bh 0 rfl rfl) rfl rfl (Ae ti3 rfl (.lp _ _ _ rfl) rfl) (ev (B3 (md := [.box (EL.el a0), .dead, .box (EL.el a2), .box Zbb, .box (EL.el u3)]) ⟨⟨rfl, ⟨trivial, ⟨rfl, ⟨rfl, ⟨rfl, trivial⟩⟩⟩⟩⟩, ⟨⟨rfl, ⟨trivial, ⟨rfl, ⟨rfl, ⟨rfl, trivial⟩⟩⟩⟩⟩, ⟨⟨rfl, ⟨trivial, ⟨rfl, ⟨rfl, ⟨rfl, trivial⟩⟩⟩⟩⟩, trivial⟩⟩⟩) rfl rfl (Aa Uz rfl) (ev (B3 (md := [.box (EL.el a0), .dead, .box (EL.el a2), .box Zbb, .box (EL.el u3)]) ⟨⟨rfl, ⟨trivial, ⟨rfl, ⟨rfl, ⟨rfl, trivial⟩⟩⟩⟩⟩, ⟨⟨rfl, ⟨trivial, ⟨rfl, ⟨rfl, ⟨rfl, trivial⟩⟩⟩⟩⟩, ⟨⟨rfl, ⟨trivial, ⟨rfl, ⟨rfl, ⟨rfl, trivial⟩⟩⟩⟩⟩, trivial⟩⟩⟩) rfl rfl (Ae ti3 rfl (.lp _ _ _ rfl) rfl) (ev (Bh 0 rfl rfl) rfl rfl (Aa Oj rfl) (ev (Bh 0 rfl rfl) rfl rfl (L3 Aep rfl rfl hj5) (ee0 0 rfl rfl rfl rfl (fun ζ => ?_) ?_))))))
     ·refine Ax sz3 rfl rfl rfl rfl (Aas hj5 (Nbl rfl)) (Bt [.box (EL.el a0), .box [Ii6 (wI (a1.PC + 1)), Ii6 q6.R0, Ii6 q6.R1, Ii6 q6.R2, Ii6 q6.R3, Ii6 q6.R4, Ii6 q6.R5, Ii6 q6.R6, Ii6 q6.R7, .b a1.Stopped], .box (EL.el a2), .box Zbb, .box (EL.el u3)] (Q0 (Ako hq6 [Ii6 (wI (a1.PC + 1))] [.b a1.Stopped])) ?_)
      exact Rq
     refine ev (B3 (md := [.box (EL.el a0), .dead, .box (EL.el a2), .box Zbb, .box (EL.el u3)]) ⟨⟨rfl, ⟨trivial, ⟨rfl, ⟨rfl, ⟨rfl, trivial⟩⟩⟩⟩⟩, ⟨⟨rfl, ⟨trivial, ⟨rfl, ⟨rfl, ⟨rfl, trivial⟩⟩⟩⟩⟩, ⟨⟨rfl, ⟨trivial, ⟨rfl, ⟨rfl, ⟨rfl, trivial⟩⟩⟩⟩⟩, trivial⟩⟩⟩) rfl rfl (Aa Oj rfl) (ev (Bh 1 rfl rfl) rfl rfl (L3 Aep rfl rfl hj7) (ee0 1 rfl rfl rfl rfl (fun ζ => ?_) ?_))
     ·refine Ax sz3 rfl rfl rfl rfl (Aas hj7 (Nbl rfl)) (Bt [.box (EL.el a0), .box [Ii6 (wI (a1.PC + 1)), Ii6 q8.R0, Ii6 q8.R1, Ii6 q8.R2, Ii6 q8.R3, Ii6 q8.R4, Ii6 q8.R5, Ii6 q8.R6, Ii6 q8.R7, .b a1.Stopped], .box (EL.el a2), .box Zbb, .box (EL.el u3)] (Q0 (Ako hq8 [Ii6 (wI (a1.PC + 1))] [.b a1.Stopped])) ?_)
      exact Rq
     refine Ys (Ai (Aq (Ab (sv rfl (Aa Aah rfl) (sv rfl (Ae ti4 rfl (.lp _ _ _ rfl) rfl) (Ar (ccI h rfl (fun h => ?_) (fun h => ?_))))))))
     ·refine Aq (Ab (sv rfl (Aa Xt rfl) (sv rfl (Ae ti3 rfl (.lp _ _ _ rfl) rfl) (sv rfl (Aa Oj rfl) ?_))))
      obtain ⟨hj9, h⟩ := D4 h
      refine sv rfl (L3 Aep rfl rfl hj9) ?_
      obtain ⟨q10, hq10, h⟩ := An h
      refine Ax sz3 rfl rfl rfl rfl (Aas hj9 (Nbl rfl)) (Bt [.box (EL.el a0), .box [Ii6 (wI (a1.PC + 1)), Ii6 q10.R0, Ii6 q10.R1, Ii6 q10.R2, Ii6 q10.R3, Ii6 q10.R4, Ii6 q10.R5, Ii6 q10.R6, Ii6 q10.R7, .b a1.Stopped], .box (EL.el a2), .box Zbb, .box (EL.el u3)] (Q0 (Ako hq10 [Ii6 (wI (a1.PC + 1))] [.b a1.Stopped])) (Ar ?_))
      obtain ⟨v11, hv11, h⟩ := An h
      obtain ⟨hj12, h⟩ := D4 h
      obtain ⟨q13, hq13, h⟩ := An h
      refine Jq [7] [0, 1, 0, 4, 12, 0, 63, 127] [[.box (EL.el a0), .box [Ii6 (wI (a1.PC + 1)), Ii6 q10.R0, Ii6 q10.R1, Ii6 q10.R2, Ii6 q10.R3, Ii6 q10.R4, Ii6 q10.R5, Ii6 q10.R6, Ii6 q10.R7, .b a1.Stopped], .box (EL.el a2), .box Zbb, .box (EL.el u3)], [.box (EL.el a0), .box [Ii6 (wI (a1.PC + 1)), Ii6 q13.R0, Ii6 q13.R1, Ii6 q13.R2, Ii6 q13.R3, Ii6 q13.R4, Ii6 q13.R5, Ii6 q13.R6, Ii6 q13.R7, .b a1.Stopped], .box (EL.el a2), .box Zbb, .box (EL.el u3)]] (by kernel_rfl) Lz (by kernel_rfl) (by decide) rfl rfl rfl rfl ?_
      refine ev (Bh 0 rfl rfl) rfl rfl (Aa Uz rfl) (ev (Bh 0 rfl rfl) rfl rfl (Ae ti3 rfl (.lp _ _ _ rfl) rfl) (ev (Bh 0 rfl rfl) rfl rfl (Aa Zy rfl) (ev (Bh 0 rfl rfl) rfl rfl (Ae L2 rfl (.lp _ _ _ rfl) rfl) (ed (Bh 0 rfl rfl) rfl rfl (Dy Aoq (Ac rfl Al) rfl (Ql hv11)) (ev (Bh 0 rfl rfl) rfl rfl (Aa Oj rfl) (ev (Bh 0 rfl rfl) rfl rfl (L3 Aep rfl rfl hj12) (ee0 0 rfl rfl rfl rfl (fun ζ => ?_) ?_)))))))
      ·refine Ax sz3 rfl rfl rfl rfl (Aas hj12 (Nbl rfl)) (Bt [.box (EL.el a0), .box [Ii6 (wI (a1.PC + 1)), Ii6 q13.R0, Ii6 q13.R1, Ii6 q13.R2, Ii6 q13.R3, Ii6 q13.R4, Ii6 q13.R5, Ii6 q13.R6, Ii6 q13.R7, .b a1.Stopped], .box (EL.el a2), .box Zbb, .box (EL.el u3)] (Q0 (Ako hq13 [Ii6 (wI (a1.PC + 1))] [.b a1.Stopped])) ?_)
       exact Rq
      refine Ys (A5 (Ai ?_))
      exact ⟨(A6.mk (wI (a1.PC + 1)) q13 a1.Stopped), _, h, ⟨rfl, rfl, trivial⟩, rfl⟩
     ·refine Bl (A5 (Ai ?_))
      exact ⟨(A6.mk (wI (a1.PC + 1)) q8 a1.Stopped), _, h, ⟨rfl, rfl, trivial⟩, rfl⟩
    ·refine Aq (Ab (sv rfl (Bo rfl rfl) (sv rfl (Ak rfl) (Ar (ccI h rfl (fun h => ?_) (fun h => ?_))))))
     ·refine Aq ?_
      obtain ⟨v14, hv14, h⟩ := An h
      obtain ⟨hj15, h⟩ := D4 h
      obtain ⟨q16, hq16, h⟩ := An h
      refine Jq [7] [0, 1, 0, 4, 12, 0, 63, 127] [[.box (EL.el a0), .box (EL.el {a1 with PC := wI (a1.PC + 1)}), .box (EL.el a2), .box Zbb, .box (EL.el u3)], [.box (EL.el a0), .box [Ii6 (wI (a1.PC + 1)), Ii6 q16.R0, Ii6 q16.R1, Ii6 q16.R2, Ii6 q16.R3, Ii6 q16.R4, Ii6 q16.R5, Ii6 q16.R6, Ii6 q16.R7, .b a1.Stopped], .box (EL.el a2), .box Zbb, .box (EL.el u3)]] (by kernel_rfl) Lz (by kernel_rfl) (by decide) rfl rfl rfl rfl ?_
      refine ev (Bh 0 rfl rfl) rfl rfl (Aa Xt rfl) (ev (Bh 0 rfl rfl) rfl rfl (Ae ti3 rfl (.lp _ _ _ rfl) rfl) (ev (Bh 0 rfl rfl) rfl rfl (Aa Ux rfl) (ev (Bh 0 rfl rfl) rfl rfl (Ae Aeq rfl (.lp _ _ _ rfl) rfl) (ed (Bh 0 rfl rfl) rfl rfl (Dy Arm (Ac rfl Al) rfl (Wb hv14)) (ev (Bh 0 rfl rfl) rfl rfl (Aa Oj rfl) (ev (Bh 0 rfl rfl) rfl rfl (L3 Aep rfl rfl hj15) (ee0 0 rfl rfl rfl rfl (fun ζ => ?_) ?_)))))))
      ·refine Ax sz3 rfl rfl rfl rfl (Aas hj15 (Nbl rfl)) (Bt [.box (EL.el a0), .box [Ii6 (wI (a1.PC + 1)), Ii6 q16.R0, Ii6 q16.R1, Ii6 q16.R2, Ii6 q16.R3, Ii6 q16.R4, Ii6 q16.R5, Ii6 q16.R6, Ii6 q16.R7, .b a1.Stopped], .box (EL.el a2), .box Zbb, .box (EL.el u3)] (Q0 (Ako hq16 [Ii6 (wI (a1.PC + 1))] [.b a1.Stopped])) ?_)
       exact Rq
      refine Ys (Ai (Ab (sv rfl (Aa Uz rfl) (sv rfl (Ae ti3 rfl (.lp _ _ _ rfl) rfl) (sv rfl (Aa Ux rfl) (sv rfl (Ae Aeq rfl (.lp _ _ _ rfl) rfl) (sv rfl (Az Ac5 rfl) (sv rfl (Aa Oj rfl) ?_))))))))
      obtain ⟨hj17, h⟩ := D4 h
      refine sv rfl (L3 Aep rfl rfl hj17) ?_
      obtain ⟨q18, hq18, h⟩ := An h
      refine Ax sz3 rfl rfl rfl rfl (Aas hj17 (Nbl rfl)) (Bt [.box (EL.el a0), .box [Ii6 (wI (a1.PC + 1)), Ii6 q18.R0, Ii6 q18.R1, Ii6 q18.R2, Ii6 q18.R3, Ii6 q18.R4, Ii6 q18.R5, Ii6 q18.R6, Ii6 q18.R7, .b a1.Stopped], .box (EL.el a2), .box Zbb, .box (EL.el u3)] (Q0 (Ako hq18 [Ii6 (wI (a1.PC + 1))] [.b a1.Stopped])) (Ls (A5 (Ai ?_))))
      exact ⟨(A6.mk (wI (a1.PC + 1)) q18 a1.Stopped), _, h, ⟨rfl, rfl, trivial⟩, rfl⟩
     ·refine Bl (A5 (Ai ?_))
      exact ⟨(A6.mk (wI (a1.PC + 1)) a1.Regs a1.Stopped), _, h, ⟨rfl, rfl, trivial⟩, rfl⟩
  ·skip
   refine Ab (sv rfl (Aa Ou rfl) (sv rfl (Ae ti3 rfl (.lp _ _ _ rfl) rfl) (sv rfl (Aa Rx rfl) (sv rfl (Ae Aja rfl (.lp _ _ _ rfl) rfl) (sv rfl (Az Ah7 rfl) (sv rfl (My rfl rfl) ?_))))))
   obtain ⟨v19, hv19, h⟩ := An h
   refine A1 rfl Afc (Ac rfl (Ac rfl Al)) (Aj rfl) (Il hv19) (sv rfl (B8 rfl) (sv rfl (Ah rfl) (Bq 21 rfl (fun hc => ?_) (fun hc => ?_))))
   ·replace h := B1 hc h
    clear hc
    refine Aw rfl rfl rfl rfl (Aw rfl rfl rfl rfl (sv rfl (Au rfl rfl) (sv rfl (Ah rfl) (Aw rfl rfl rfl rfl (Aw rfl rfl rfl rfl (Aw rfl rfl rfl rfl (Aw rfl rfl rfl rfl (Aw rfl rfl rfl rfl (Aw rfl rfl rfl rfl (Aw rfl rfl rfl rfl (Aw rfl rfl rfl rfl (sv rfl (Au rfl rfl) (Ar (Hy rfl (fun _ => ?_) (fun hx => Bool.noConfusion hx)))))))))))))))
    refine Aq (Ab (sv rfl (Bk Ahk Apz A9 (.nil _)) (Ax W6 rfl rfl rfl rfl (Nbl rfl) (Bt [.box (EL.el a0), .box (EL.el a1), .box (EL.el a2), .box Zbb] rfl (sv rfl (Ak rfl) (Ar (Bj (As ?_))))))))
    obtain rfl := SJ h
    refine ⟨Or.inr rfl, _, _, _, (Ad (Bc.agg _ _ _ _ _ Rz rfl (.lp _ _ _ rfl) (Nbl rfl)) (Ad (Bc.tmp _ _ rfl) Af)), (Aj rfl), ?_⟩
    rfl
   ·replace h := B0 hc h
    clear hc
    refine son rfl rfl rfl (sv rfl (Aa Wf rfl) (son rfl rfl rfl (sv rfl (Ae ti4 rfl (.lp _ _ _ rfl) rfl) (sv rfl (Am rfl rfl) (sv rfl (Ah rfl) (Bq 25 rfl (fun hc => ?_) (fun hc => ?_)))))))
    ·replace h := B1 hc h
     clear hc
     refine Aw rfl rfl rfl rfl (Aw rfl rfl rfl rfl (Aw rfl rfl rfl rfl (Aw rfl rfl rfl rfl (Aw rfl rfl rfl rfl (Aw rfl rfl rfl rfl (Aw rfl rfl rfl rfl (Aw rfl rfl rfl rfl (sv rfl (Au rfl rfl) (Ar (Hy rfl (fun _ => ?_) (fun hx => Bool.noConfusion hx)))))))))))
     refine Aq (Ab (sv rfl (Bk Ahk Apz A9 (.nil _)) (Ax W6 rfl rfl rfl rfl (Nbl rfl) (Bt [.box (EL.el a0), .box (EL.el a1), .box (EL.el a2), .box Zbb] rfl (sv rfl (Ak rfl) (Ar (Bj (As ?_))))))))
     obtain rfl := SJ h
     refine ⟨Or.inr rfl, _, _, _, (Ad (Bc.agg _ _ _ _ _ Rz rfl (.lp _ _ _ rfl) (Nbl rfl)) (Ad (Bc.tmp _ _ rfl) Af)), (Aj rfl), ?_⟩
     rfl
    ·replace h := B0 hc h
     clear hc
     refine son rfl rfl rfl (sv rfl (Aa Rx rfl) (son rfl rfl rfl (sv rfl (Ae Aja rfl (.lp _ _ _ rfl) rfl) (son rfl rfl rfl (sv rfl (Aa Ou rfl) (son rfl rfl rfl (sv rfl (Ae ti3 rfl (.lp _ _ _ rfl) rfl) (son rfl rfl rfl ?_))))))))
     obtain ⟨u20, hu20, h⟩ := An h
     refine sv rfl (Fm (f := Cf) Ah7 (fun _ => rfl) rfl rfl rfl rfl hu20) ?_
     refine son rfl rfl rfl (sv rfl (Dj (ys := [Ii6 u20.What, Ii6 u20.A, Ii6 u20.B, Ii6 u20.N, .sl u20.Key.length (u20.Key.flatMap eU8), .sl u20.Rng.Lo.length (u20.Rng.Lo.flatMap eU8), .sl u20.Rng.Hi.length (u20.Rng.Hi.flatMap eU8), .b u20.Rng.Open]) Ak5 rfl (.cp _) rfl rfl) (son rfl rfl rfl ?_))
     obtain ⟨v21, hv21, h⟩ := An h
     refine A1 rfl An8 (Ac rfl Al) (Aj rfl) (Py hv21) (son rfl rfl rfl (sv rfl (B8 rfl) (sv rfl (Am rfl rfl) (Ar (ccI h rfl (fun h => ?_) (fun h => ?_))))))
     ·refine Aq (Ab (sv rfl (Bk Ahk Apz A9 (.nil _)) (Ax W6 rfl rfl rfl rfl (Nbl rfl) (Bt [.box (EL.el a0), .box (EL.el a1), .box (EL.el a2), .box Zbb] rfl (sv rfl (Ak rfl) (Ar (Bj (As ?_))))))))
      obtain rfl := SJ h
      refine ⟨Or.inr rfl, _, _, _, (Ad (Bc.agg _ _ _ _ _ Rz rfl (.lp _ _ _ rfl) (Nbl rfl)) (Ad (Bc.tmp _ _ rfl) Af)), (Aj rfl), ?_⟩
      rfl
     ·refine Bl (Ai ?_)
      exact ⟨(), _, h, ⟨rfl, rfl, rfl, rfl, trivial⟩, rfl⟩
def D1 (a0 : Ag) (a1 : Be) : Option Ag :=
 if (!decide (a1.Code = 0)) then ((Cg a0).bind fun v1 => some v1) else ((idx a0.Tasks 0).bind fun u2 => (Di u2.Prog a0.St a1).bind fun v3 => if (!decide (v3.2 = 0)) then ((Cg a0).bind fun v4 => some v4) else ((Ed ({a0 with St := v3.1})).bind fun v5 => some v5))
theorem Nb {a0 : Ag} {a1 : Be} {r : Ag} (h : D1 a0 a1 = some r) : Bp Tryz.prog 101 [.agg (EL.el a0), .agg (EL.el a1)] (· = .s (.agg (EL.el r))) := by
 unfold D1 at h
 refine A2 Tryz.func101 rfl (nt := 32) rfl (Nbl rfl) ?_
 intro w0 S0
 refine Aq (Ab (Je rfl rfl (Je rfl rfl (Bz rfl Nc (Ar (Aq (Aq (Ab (sv rfl (Aa Qd rfl) (sv rfl (Ae Aaz rfl (.lp _ _ _ rfl) rfl) (sv rfl (Cd rfl rfl) (Ar (ccI h rfl (fun h => ?_) (fun h => ?_))))))))))))))
 ·refine Aq (Ab (sv rfl (Ao B4 rfl (.lp _ _ _ rfl) (Nbl rfl)) ?_))
  obtain ⟨v1, hv1, h⟩ := An h
  refine A1 rfl Agw (Ac rfl Al) (Aj rfl) (Ee hv1) (Ax Em rfl rfl rfl rfl (Nbl rfl) (Bt [.box (EL.el a0), .box (EL.el a1), .box (EL.el v1)] rfl (Ar (Bj (As ?_)))))
  obtain rfl := SJ h
  refine ⟨Or.inr rfl, _, _, _, (Ad (Bc.agg _ _ _ _ _ B4 rfl (.lp _ _ _ rfl) (Nbl rfl)) Af), (Aj rfl), ?_⟩
  rfl
 ·refine Bl (Ai (Aq (Adu ?_)))
  obtain ⟨u2, hu2, h⟩ := An h
  obtain ⟨v3, hv3, h⟩ := An h
  refine Jq [12, 13] [0, 1, 3, 7, 15, 0, 32, 0, 255, 511, 1023, 1023, 0, 6143, 16383] [[.box (EL.el a0), .box (EL.el a1), .box Zba, .hole], [.box (EL.el a0), .box (EL.el a1), .box Zba, .box Zbb], [.box (EL.el a0), .box (EL.el a1), .box Zba, .box (EL.el v3.1)]] (by kernel_rfl) Lz (by kernel_rfl) (by decide) rfl rfl rfl rfl ?_
  refine ev (B3 (md := [.box (EL.el a0), .box (EL.el a1), .box Zba, .dead]) ⟨⟨rfl, ⟨rfl, ⟨rfl, ⟨trivial, trivial⟩⟩⟩⟩, ⟨⟨rfl, ⟨rfl, ⟨rfl, ⟨trivial, trivial⟩⟩⟩⟩, ⟨⟨rfl, ⟨rfl, ⟨rfl, ⟨trivial, trivial⟩⟩⟩⟩, trivial⟩⟩⟩) rfl rfl (Aa Mb rfl) (ev (B3 (md := [.box (EL.el a0), .box (EL.el a1), .box Zba, .dead]) ⟨⟨rfl, ⟨rfl, ⟨rfl, ⟨trivial, trivial⟩⟩⟩⟩, ⟨⟨rfl, ⟨rfl, ⟨rfl, ⟨trivial, trivial⟩⟩⟩⟩, ⟨⟨rfl, ⟨rfl, ⟨rfl, ⟨trivial, trivial⟩⟩⟩⟩, trivial⟩⟩⟩) rfl rfl (Ae Y0 rfl (.lp _ _ _ rfl) rfl) (ev (B3 (md := [.box (EL.el a0), .box (EL.el a1), .box Zba, .dead]) ⟨⟨rfl, ⟨rfl, ⟨rfl, ⟨trivial, trivial⟩⟩⟩⟩, ⟨⟨rfl, ⟨rfl, ⟨rfl, ⟨trivial, trivial⟩⟩⟩⟩, ⟨⟨rfl, ⟨rfl, ⟨rfl, ⟨trivial, trivial⟩⟩⟩⟩, trivial⟩⟩⟩) rfl rfl (Fm (f := Ay) Uf (fun _ => rfl) rfl rfl rfl rfl hu2) ?_))
  refine ev (B3 (md := [.box (EL.el a0), .box (EL.el a1), .box Zba, .dead]) ⟨⟨rfl, ⟨rfl, ⟨rfl, ⟨trivial, trivial⟩⟩⟩⟩, ⟨⟨rfl, ⟨rfl, ⟨rfl, ⟨trivial, trivial⟩⟩⟩⟩, ⟨⟨rfl, ⟨rfl, ⟨rfl, ⟨trivial, trivial⟩⟩⟩⟩, trivial⟩⟩⟩) rfl rfl (B2 Acl rfl) (ev (B3 (md := [.box (EL.el a0), .box (EL.el a1), .box Zba, .dead]) ⟨⟨rfl, ⟨rfl, ⟨rfl, ⟨trivial, trivial⟩⟩⟩⟩, ⟨⟨rfl, ⟨rfl, ⟨rfl, ⟨trivial, trivial⟩⟩⟩⟩, ⟨⟨rfl, ⟨rfl, ⟨rfl, ⟨trivial, trivial⟩⟩⟩⟩, trivial⟩⟩⟩) rfl rfl (Dj (ys := [.b u2.Prog.RO, .sl u2.Prog.Ops.length (u2.Prog.Ops.flatMap Cf)]) Alu rfl (.cp _) rfl rfl) (ev (B3 (md := [.box (EL.el a0), .box (EL.el a1), .box Zba, .dead]) ⟨⟨rfl, ⟨rfl, ⟨rfl, ⟨trivial, trivial⟩⟩⟩⟩, ⟨⟨rfl, ⟨rfl, ⟨rfl, ⟨trivial, trivial⟩⟩⟩⟩, ⟨⟨rfl, ⟨rfl, ⟨rfl, ⟨trivial, trivial⟩⟩⟩⟩, trivial⟩⟩⟩) rfl rfl (Aa Pu rfl) (ev (B3 (md := [.box (EL.el a0), .box (EL.el a1), .box Zba, .dead]) ⟨⟨rfl, ⟨rfl, ⟨rfl, ⟨trivial, trivial⟩⟩⟩⟩, ⟨⟨rfl, ⟨rfl, ⟨rfl, ⟨trivial, trivial⟩⟩⟩⟩, ⟨⟨rfl, ⟨rfl, ⟨rfl, ⟨trivial, trivial⟩⟩⟩⟩, trivial⟩⟩⟩) rfl rfl (Ao Rz rfl (.lp _ _ _ rfl) (Nbl rfl)) (ev (B3 (md := [.box (EL.el a0), .box (EL.el a1), .box Zba, .dead]) ⟨⟨rfl, ⟨rfl, ⟨rfl, ⟨trivial, trivial⟩⟩⟩⟩, ⟨⟨rfl, ⟨rfl, ⟨rfl, ⟨trivial, trivial⟩⟩⟩⟩, ⟨⟨rfl, ⟨rfl, ⟨rfl, ⟨trivial, trivial⟩⟩⟩⟩, trivial⟩⟩⟩) rfl rfl (Ao Abc rfl (.lp _ _ _ rfl) (Nbl rfl)) (ed (B3 (md := [.box (EL.el a0), .box (EL.el a1), .box Zba, .dead]) ⟨⟨rfl, ⟨rfl, ⟨rfl, ⟨trivial, trivial⟩⟩⟩⟩, ⟨⟨rfl, ⟨rfl, ⟨rfl, ⟨trivial, trivial⟩⟩⟩⟩, ⟨⟨rfl, ⟨rfl, ⟨rfl, ⟨trivial, trivial⟩⟩⟩⟩, trivial⟩⟩⟩) rfl rfl (Dy Aq8 (Ac rfl (Ac rfl (Ac rfl Al))) rfl (Vd hv3)) (emv rfl rfl (fun _ => Fs rfl) ?_))))))
  refine ev (B3 (md := [.box (EL.el a0), .box (EL.el a1), .box Zba, .dead]) ⟨⟨rfl, ⟨rfl, ⟨rfl, ⟨trivial, trivial⟩⟩⟩⟩, ⟨⟨rfl, ⟨rfl, ⟨rfl, ⟨trivial, trivial⟩⟩⟩⟩, ⟨⟨rfl, ⟨rfl, ⟨rfl, ⟨trivial, trivial⟩⟩⟩⟩, trivial⟩⟩⟩) rfl rfl (A7 rfl rfl) (ev (B3 (md := [.box (EL.el a0), .box (EL.el a1), .box Zba, .dead]) ⟨⟨rfl, ⟨rfl, ⟨rfl, ⟨trivial, trivial⟩⟩⟩⟩, ⟨⟨rfl, ⟨rfl, ⟨rfl, ⟨trivial, trivial⟩⟩⟩⟩, ⟨⟨rfl, ⟨rfl, ⟨rfl, ⟨trivial, trivial⟩⟩⟩⟩, trivial⟩⟩⟩) rfl rfl (A7 rfl rfl) (ee (x := .s (.one (.lp 3 0))) 0 rfl rfl rfl rfl rfl (fun ζ => ?_) ?_))
  ·refine Na 3 rfl Ahk rfl ?_
   exact Rq
  refine ee0 1 rfl rfl rfl rfl (fun ζ => ?_) ?_
  ·refine Ax W6 rfl rfl rfl rfl (Nbl rfl) (Bt [.box (EL.el a0), .box (EL.el a1), .box Zba, .box (EL.el v3.1)] rfl ?_)
   exact Rq
  refine ev (Bh 2 rfl rfl) rfl rfl (Ak rfl) (Ys (Ai (Aq (Aq (Ab (sv rfl (Ah rfl) (sv rfl (Cd rfl rfl) (Ar (ccI h rfl (fun h => ?_) (fun h => ?_))))))))))
  ·refine Aq (Ab (sv rfl (Ao B4 rfl (.lp _ _ _ rfl) (Nbl rfl)) ?_))
   obtain ⟨v4, hv4, h⟩ := An h
   refine A1 rfl Agw (Ac rfl Al) (Aj rfl) (Ee hv4) (Ax Em rfl rfl rfl rfl (Nbl rfl) (Bt [.box (EL.el a0), .box (EL.el a1), .box (EL.el v4), .box (EL.el v3.1)] rfl (Ar (Bj (As ?_)))))
   obtain rfl := SJ h
   refine ⟨Or.inr rfl, _, _, _, (Ad (Bc.agg _ _ _ _ _ B4 rfl (.lp _ _ _ rfl) (Nbl rfl)) Af), (Aj rfl), ?_⟩
   rfl
  ·refine Bl (Ai (Aq (Ab (sv rfl (Ao Rz rfl (.lp _ _ _ rfl) (Nbl rfl)) (sv rfl (Aa Pu rfl) (Ax W6 rfl rfl rfl rfl (Nbl rfl) (Bt [.box (EL.el {a0 with St := v3.1}), .box (EL.el a1), .box Zba, .box (EL.el v3.1)] rfl (Ar (Aq (Ab (sv rfl (Ao B4 rfl (.lp _ _ _ rfl) (Nbl rfl)) ?_)))))))))))
   obtain ⟨v5, hv5, h⟩ := An h
   refine A1 rfl Aoa (Ac rfl Al) (Aj rfl) (Lr hv5) (Ax Em rfl rfl rfl rfl (Nbl rfl) (Bt [.box (EL.el {a0 with St := v3.1}), .box (EL.el a1), .box (EL.el v5), .box (EL.el v3.1)] rfl (Ar (Bj ?_))))
   obtain rfl := SJ h
   refine ⟨Or.inr rfl, _, _, _, (Ad (Bc.agg _ _ _ _ _ B4 rfl (.lp _ _ _ rfl) (Nbl rfl)) Af), (Aj rfl), ?_⟩
   rfl
def Lp  : Option Unit :=
 (Cn 5).bind fun v1 => if (!v1) then none else (some ())
theorem Qa  {r : Unit} (h : Lp = some r) : Gs Tryz.prog 79 [] [.one (Ii6 5)] (fun y m' => y = .s (.one (.raw (.func (.func 102) #[] #[]))) ∧ m' = []) := by
 unfold Lp at h
 refine Cv Tryz.func79 rfl (nt := 11) rfl (Nbl rfl) ?_
 intro w0 S0 X0 H0
 refine Aq (Ab (sv rfl (Ak rfl) (Ar (Aq (Ab (sv rfl (G2 Rt Se (Ap rfl (Ap rfl (Ap rfl (Ap rfl (Ap rfl (Ap rfl (Ap rfl A9))))))) (Ea [Nfu, Nfu, .raw (.func (.func 99) #[] #[]), Nfu, Nfu, Nfu, Nfu, Nfu, Nfu, Nfu] rfl rfl (Nbl rfl) rfl (Ea [Nfu, Nfu, .raw (.func (.func 99) #[] #[]), .raw (.func (.func 100) #[] #[]), Nfu, Nfu, Nfu, Nfu, Nfu, Nfu] rfl rfl (Nbl rfl) rfl (Ea [Nfu, Nfu, .raw (.func (.func 99) #[] #[]), .raw (.func (.func 100) #[] #[]), .raw (.func (.func 101) #[] #[]), Nfu, Nfu, Nfu, Nfu, Nfu] rfl rfl (Nbl rfl) rfl (Ea [Nfu, Nfu, .raw (.func (.func 99) #[] #[]), .raw (.func (.func 100) #[] #[]), .raw (.func (.func 101) #[] #[]), .raw (.func (.func 102) #[] #[]), Nfu, Nfu, Nfu, Nfu] rfl rfl (Nbl rfl) rfl (Ea [Nfu, Nfu, .raw (.func (.func 99) #[] #[]), .raw (.func (.func 100) #[] #[]), .raw (.func (.func 101) #[] #[]), .raw (.func (.func 102) #[] #[]), .raw (.func (.func 103) #[] #[]), Nfu, Nfu, Nfu] rfl rfl (Nbl rfl) rfl (Ea [Nfu, Nfu, .raw (.func (.func 99) #[] #[]), .raw (.func (.func 100) #[] #[]), .raw (.func (.func 101) #[] #[]), .raw (.func (.func 102) #[] #[]), .raw (.func (.func 103) #[] #[]), .raw (.func (.func 104) #[] #[]), Nfu, Nfu] rfl rfl (Nbl rfl) rfl (Ea [Nfu, Nfu, .raw (.func (.func 99) #[] #[]), .raw (.func (.func 100) #[] #[]), .raw (.func (.func 101) #[] #[]), .raw (.func (.func 102) #[] #[]), .raw (.func (.func 103) #[] #[]), .raw (.func (.func 104) #[] #[]), Nfu, .raw (.func (.func 105) #[] #[])] rfl rfl (Nbl rfl) rfl (.nil _))))))))) (Bz rfl Rt (Ax Zi rfl rfl rfl rfl (Nbl rfl) (Bt [.box [Nfu, Nfu, .raw (.func (.func 99) #[] #[]), .raw (.func (.func 100) #[] #[]), .raw (.func (.func 101) #[] #[]), .raw (.func (.func 102) #[] #[]), .raw (.func (.func 103) #[] #[]), .raw (.func (.func 104) #[] #[]), Nfu, .raw (.func (.func 105) #[] #[])]] rfl (Ar (Aq (Aq (Ab (sv rfl (Ah rfl) ?_))))))))))))))
 obtain ⟨v1, hv1, h⟩ := An h
 refine A1 rfl Ajp (Ac rfl Al) (Aj rfl) (Dz hv1) (sv rfl (B8 rfl) (Ar (ccI h rfl (fun h => ?_) (fun h => ?_))))
 ·refine Aq (Ab ?_)
  cases h
 ·refine Bl (Ai (Aq (Ab (sv rfl (Ah rfl) ?_))))
  refine sv rfl (Ot (o := 5) Se rfl rfl (by decide)) ?_
  refine sv rfl (Ae Ab4 rfl (.lp _ _ _ rfl) rfl) (sv rfl (Ak rfl) (Ar (Bj ?_)))
  obtain rfl := SJ h
  exact ⟨Or.inr rfl, _, [], [.one (.raw (.func (.func 102) #[] #[]))], [], (Ad (Bc.tmp _ _ rfl) Af), rfl, rfl, ⟨by decide, rfl⟩, rfl, rfl, ⟨rfl, rfl⟩⟩
def E2 (a0 : Ag) (a1 : Be) : Option Ag :=
 if (!decide (a1.Code = 0)) then ((Db a0 a1.Code).bind fun v1 => some v1) else ((Bu a0 1 a1.N).bind fun v2 => some v2)
theorem N8 {a0 : Ag} {a1 : Be} {r : Ag} (h : E2 a0 a1 = some r) : Bp Tryz.prog 102 [.agg (EL.el a0), .agg (EL.el a1)] (· = .s (.agg (EL.el r))) := by
 unfold E2 at h
 refine A2 Tryz.func102 rfl (nt := 16) rfl (Nbl rfl) ?_
 intro w0 S0
 refine Aq (Ab (Je rfl rfl (Je rfl rfl (Bz rfl Nc (Ar (Aq (Aq (Ab (sv rfl (Aa Qd rfl) (sv rfl (Ae Aaz rfl (.lp _ _ _ rfl) rfl) (sv rfl (Cd rfl rfl) (Ar (ccI h rfl (fun h => ?_) (fun h => ?_))))))))))))))
 ·refine Aq (Ab (sv rfl (Ao B4 rfl (.lp _ _ _ rfl) (Nbl rfl)) (sv rfl (Aa Qd rfl) (sv rfl (Ae Aaz rfl (.lp _ _ _ rfl) rfl) ?_))))
  obtain ⟨v1, hv1, h⟩ := An h
  refine A1 rfl Ape (Ac rfl (Ac rfl Al)) (Aj rfl) (Kk hv1) (Ax Em rfl rfl rfl rfl (Nbl rfl) (Bt [.box (EL.el a0), .box (EL.el a1), .box (EL.el v1)] rfl (Ar (Bj (As ?_)))))
  obtain rfl := SJ h
  refine ⟨Or.inr rfl, _, _, _, (Ad (Bc.agg _ _ _ _ _ B4 rfl (.lp _ _ _ rfl) (Nbl rfl)) Af), (Aj rfl), ?_⟩
  rfl
 ·refine Bl (Ai (Aq (Ab (sv rfl (Ao B4 rfl (.lp _ _ _ rfl) (Nbl rfl)) (sv rfl (Aa Qx rfl) (sv rfl (Ae ti3 rfl (.lp _ _ _ rfl) rfl) ?_))))))
  obtain ⟨v2, hv2, h⟩ := An h
  refine A1 rfl Aat (Ac rfl (Ac rfl (Ac rfl Al))) (Aj rfl) (Cc hv2) (Ax Em rfl rfl rfl rfl (Nbl rfl) (Bt [.box (EL.el a0), .box (EL.el a1), .box (EL.el v2)] rfl (Ar (Bj ?_))))
  obtain rfl := SJ h
  refine ⟨Or.inr rfl, _, _, _, (Ad (Bc.agg _ _ _ _ _ B4 rfl (.lp _ _ _ rfl) (Nbl rfl)) Af), (Aj rfl), ?_⟩
  rfl
def Ln  : Option Unit :=
 (Cn 6).bind fun v1 => if (!v1) then none else (some ())
theorem P4  {r : Unit} (h : Ln = some r) : Gs Tryz.prog 79 [] [.one (Ii6 6)] (fun y m' => y = .s (.one (.raw (.func (.func 103) #[] #[]))) ∧ m' = []) := by
 unfold Ln at h
 refine Cv Tryz.func79 rfl (nt := 11) rfl (Nbl rfl) ?_
 intro w0 S0 X0 H0
 refine Aq (Ab (sv rfl (Ak rfl) (Ar (Aq (Ab (sv rfl (G2 Rt Se (Ap rfl (Ap rfl (Ap rfl (Ap rfl (Ap rfl (Ap rfl (Ap rfl A9))))))) (Ea [Nfu, Nfu, .raw (.func (.func 99) #[] #[]), Nfu, Nfu, Nfu, Nfu, Nfu, Nfu, Nfu] rfl rfl (Nbl rfl) rfl (Ea [Nfu, Nfu, .raw (.func (.func 99) #[] #[]), .raw (.func (.func 100) #[] #[]), Nfu, Nfu, Nfu, Nfu, Nfu, Nfu] rfl rfl (Nbl rfl) rfl (Ea [Nfu, Nfu, .raw (.func (.func 99) #[] #[]), .raw (.func (.func 100) #[] #[]), .raw (.func (.func 101) #[] #[]), Nfu, Nfu, Nfu, Nfu, Nfu] rfl rfl (Nbl rfl) rfl (Ea [Nfu, Nfu, .raw (.func (.func 99) #[] #[]), .raw (.func (.func 100) #[] #[]), .raw (.func (.func 101) #[] #[]), .raw (.func (.func 102) #[] #[]), Nfu, Nfu, Nfu, Nfu] rfl rfl (Nbl rfl) rfl (Ea [Nfu, Nfu, .raw (.func (.func 99) #[] #[]), .raw (.func (.func 100) #[] #[]), .raw (.func (.func 101) #[] #[]), .raw (.func (.func 102) #[] #[]), .raw (.func (.func 103) #[] #[]), Nfu, Nfu, Nfu] rfl rfl (Nbl rfl) rfl (Ea [Nfu, Nfu, .raw (.func (.func 99) #[] #[]), .raw (.func (.func 100) #[] #[]), .raw (.func (.func 101) #[] #[]), .raw (.func (.func 102) #[] #[]), .raw (.func (.func 103) #[] #[]), .raw (.func (.func 104) #[] #[]), Nfu, Nfu] rfl rfl (Nbl rfl) rfl (Ea [Nfu, Nfu, .raw (.func (.func 99) #[] #[]), .raw (.func (.func 100) #[] #[]), .raw (.func (.func 101) #[] #[]), .raw (.func (.func 102) #[] #[]), .raw (.func (.func 103) #[] #[]), .raw (.func (.func 104) #[] #[]), Nfu, .raw (.func (.func 105) #[] #[])] rfl rfl (Nbl rfl) rfl (.nil _))))))))) (Bz rfl Rt (Ax Zi rfl rfl rfl rfl (Nbl rfl) (Bt [.box [Nfu, Nfu, .raw (.func (.func 99) #[] #[]), .raw (.func (.func 100) #[] #[]), .raw (.func (.func 101) #[] #[]), .raw (.func (.func 102) #[] #[]), .raw (.func (.func 103) #[] #[]), .raw (.func (.func 104) #[] #[]), Nfu, .raw (.func (.func 105) #[] #[])]] rfl (Ar (Aq (Aq (Ab (sv rfl (Ah rfl) ?_))))))))))))))
 obtain ⟨v1, hv1, h⟩ := An h
 refine A1 rfl Ajp (Ac rfl Al) (Aj rfl) (Dz hv1) (sv rfl (B8 rfl) (Ar (ccI h rfl (fun h => ?_) (fun h => ?_))))
 ·refine Aq (Ab ?_)
  cases h
 ·refine Bl (Ai (Aq (Ab (sv rfl (Ah rfl) ?_))))
  refine sv rfl (Ot (o := 6) Se rfl rfl (by decide)) ?_
  refine sv rfl (Ae Ab4 rfl (.lp _ _ _ rfl) rfl) (sv rfl (Ak rfl) (Ar (Bj ?_)))
  obtain rfl := SJ h
  exact ⟨Or.inr rfl, _, [], [.one (.raw (.func (.func 103) #[] #[]))], [], (Ad (Bc.tmp _ _ rfl) Af), rfl, rfl, ⟨by decide, rfl⟩, rfl, rfl, ⟨rfl, rfl⟩⟩
def G1 (a0 : Ag) (a1 : Be) : Option Ag :=
 (Bu a0 2 0).bind fun v1 => some v1
theorem Oh {a0 : Ag} {a1 : Be} {r : Ag} (h : G1 a0 a1 = some r) : Bp Tryz.prog 103 [.agg (EL.el a0), .agg (EL.el a1)] (· = .s (.agg (EL.el r))) := by
 unfold G1 at h
 refine A2 Tryz.func103 rfl (nt := 7) rfl (Nbl rfl) ?_
 intro w0 S0
 refine Aq (Ab (Je rfl rfl (Je rfl rfl (Bz rfl Nc (Ar (Aq (Ab (sv rfl (Ao B4 rfl (.lp _ _ _ rfl) (Nbl rfl)) ?_))))))))
 obtain ⟨v1, hv1, h⟩ := An h
 refine A1 rfl Aat (Ac rfl (Ac rfl (Ac rfl Al))) (Aj rfl) (Cc hv1) (Ax Em rfl rfl rfl rfl (Nbl rfl) (Bt [.box (EL.el a0), .box (EL.el a1), .box (EL.el v1)] rfl (Ar (Bj ?_))))
 obtain rfl := SJ h
 refine ⟨Or.inr rfl, _, _, _, (Ad (Bc.agg _ _ _ _ _ B4 rfl (.lp _ _ _ rfl) (Nbl rfl)) Af), (Aj rfl), ?_⟩
 rfl
def Ll  : Option Unit :=
 (Cn 7).bind fun v1 => if (!v1) then none else (some ())
theorem P3  {r : Unit} (h : Ll = some r) : Gs Tryz.prog 79 [] [.one (Ii6 7)] (fun y m' => y = .s (.one (.raw (.func (.func 104) #[] #[]))) ∧ m' = []) := by
 unfold Ll at h
 refine Cv Tryz.func79 rfl (nt := 11) rfl (Nbl rfl) ?_
 intro w0 S0 X0 H0
 refine Aq (Ab (sv rfl (Ak rfl) (Ar (Aq (Ab (sv rfl (G2 Rt Se (Ap rfl (Ap rfl (Ap rfl (Ap rfl (Ap rfl (Ap rfl (Ap rfl A9))))))) (Ea [Nfu, Nfu, .raw (.func (.func 99) #[] #[]), Nfu, Nfu, Nfu, Nfu, Nfu, Nfu, Nfu] rfl rfl (Nbl rfl) rfl (Ea [Nfu, Nfu, .raw (.func (.func 99) #[] #[]), .raw (.func (.func 100) #[] #[]), Nfu, Nfu, Nfu, Nfu, Nfu, Nfu] rfl rfl (Nbl rfl) rfl (Ea [Nfu, Nfu, .raw (.func (.func 99) #[] #[]), .raw (.func (.func 100) #[] #[]), .raw (.func (.func 101) #[] #[]), Nfu, Nfu, Nfu, Nfu, Nfu] rfl rfl (Nbl rfl) rfl (Ea [Nfu, Nfu, .raw (.func (.func 99) #[] #[]), .raw (.func (.func 100) #[] #[]), .raw (.func (.func 101) #[] #[]), .raw (.func (.func 102) #[] #[]), Nfu, Nfu, Nfu, Nfu] rfl rfl (Nbl rfl) rfl (Ea [Nfu, Nfu, .raw (.func (.func 99) #[] #[]), .raw (.func (.func 100) #[] #[]), .raw (.func (.func 101) #[] #[]), .raw (.func (.func 102) #[] #[]), .raw (.func (.func 103) #[] #[]), Nfu, Nfu, Nfu] rfl rfl (Nbl rfl) rfl (Ea [Nfu, Nfu, .raw (.func (.func 99) #[] #[]), .raw (.func (.func 100) #[] #[]), .raw (.func (.func 101) #[] #[]), .raw (.func (.func 102) #[] #[]), .raw (.func (.func 103) #[] #[]), .raw (.func (.func 104) #[] #[]), Nfu, Nfu] rfl rfl (Nbl rfl) rfl (Ea [Nfu, Nfu, .raw (.func (.func 99) #[] #[]), .raw (.func (.func 100) #[] #[]), .raw (.func (.func 101) #[] #[]), .raw (.func (.func 102) #[] #[]), .raw (.func (.func 103) #[] #[]), .raw (.func (.func 104) #[] #[]), Nfu, .raw (.func (.func 105) #[] #[])] rfl rfl (Nbl rfl) rfl (.nil _))))))))) (Bz rfl Rt (Ax Zi rfl rfl rfl rfl (Nbl rfl) (Bt [.box [Nfu, Nfu, .raw (.func (.func 99) #[] #[]), .raw (.func (.func 100) #[] #[]), .raw (.func (.func 101) #[] #[]), .raw (.func (.func 102) #[] #[]), .raw (.func (.func 103) #[] #[]), .raw (.func (.func 104) #[] #[]), Nfu, .raw (.func (.func 105) #[] #[])]] rfl (Ar (Aq (Aq (Ab (sv rfl (Ah rfl) ?_))))))))))))))
 obtain ⟨v1, hv1, h⟩ := An h
 refine A1 rfl Ajp (Ac rfl Al) (Aj rfl) (Dz hv1) (sv rfl (B8 rfl) (Ar (ccI h rfl (fun h => ?_) (fun h => ?_))))
 ·refine Aq (Ab ?_)
  cases h
 ·refine Bl (Ai (Aq (Ab (sv rfl (Ah rfl) ?_))))
  refine sv rfl (Ot (o := 7) Se rfl rfl (by decide)) ?_
  refine sv rfl (Ae Ab4 rfl (.lp _ _ _ rfl) rfl) (sv rfl (Ak rfl) (Ar (Bj ?_)))
  obtain rfl := SJ h
  exact ⟨Or.inr rfl, _, [], [.one (.raw (.func (.func 104) #[] #[]))], [], (Ad (Bc.tmp _ _ rfl) Af), rfl, rfl, ⟨by decide, rfl⟩, rfl, rfl, ⟨rfl, rfl⟩⟩
def Fe (a0 : Ag) (a1 : Be) : Option Ag :=
 if (!decide (a1.Code = 0)) then ((Gz a0.Cfg.Plan 0).bind fun v1 => some ({a0 with Phase := 10, Left := v1.1})) else (if (decide (0 < a1.N)) then (if a0.Risk then ((Bu a0 1 a1.N).bind fun v2 => some v2) else (if (decide (0 < a1.N)) then ((Bu a0 4 a1.N).bind fun v3 => some v3) else (if a0.St.Stopped then ((Bu a0 2 0).bind fun v4 => some v4) else ((Cg a0).bind fun v5 => some v5)))) else (if (decide (0 < a1.N)) then ((Bu a0 4 a1.N).bind fun v6 => some v6) else (if a0.St.Stopped then ((Bu a0 2 0).bind fun v7 => some v7) else ((Cg a0).bind fun v8 => some v8))))
theorem Og {a0 : Ag} {a1 : Be} {r : Ag} (h : Fe a0 a1 = some r) : Bp Tryz.prog 104 [.agg (EL.el a0), .agg (EL.el a1)] (· = .s (.agg (EL.el r))) := by
 unfold Fe at h
 refine A2 Tryz.func104 rfl (nt := 47) rfl (Nbl rfl) ?_
 intro w0 S0
 refine Aq (Ab (Je rfl rfl (Je rfl rfl (Bz rfl Nc (Ar (Aq (Ca (Aq (Ab (sv rfl (Aa Qd rfl) (sv rfl (Ae Aaz rfl (.lp _ _ _ rfl) rfl) (sv rfl (Cd rfl rfl) (sv rfl (Ak rfl) (Ar (ccI h rfl (fun h => ?_) (fun h => ?_))))))))))))))))
 ·refine Aq (Ab (sv rfl (Aa F7 rfl) (Ax sz3 rfl rfl rfl rfl (Nbl rfl) (Bt [.box (EL.el {a0 with Phase := 10}), .box (EL.el a1), .box Zba] rfl (Ar (Aq (Ab (sv rfl (Aa Qp rfl) (sv rfl (Aa Wm rfl) (sv rfl (Ao Aj9 rfl (.lp _ _ _ rfl) (Nbl rfl)) ?_))))))))))
  obtain ⟨v1, hv1, h⟩ := An h
  refine A1 rfl Aqo (Ac rfl (Ac rfl Al)) (Aj rfl) (K8 hv1) (sv rfl (Fs rfl) (sv rfl (A7 rfl rfl) (sv rfl (A7 rfl rfl) (sv rfl (Aa Q4 rfl) (Ax sz3 rfl rfl rfl rfl (Nbl rfl) (Bt [.box (EL.el {a0 with Phase := 10, Left := v1.1}), .box (EL.el a1), .box Zba] rfl (Ar (Aq (Ab (sv rfl (Ao B4 rfl (.lp _ _ _ rfl) (Nbl rfl)) (Ax Em rfl rfl rfl rfl (Nbl rfl) (Bt [.box (EL.el {a0 with Phase := 10, Left := v1.1}), .box (EL.el a1), .box (EL.el {a0 with Phase := 10, Left := v1.1})] rfl (Ar (Bj (Bd (As ?_))))))))))))))))
  obtain rfl := SJ h
  refine ⟨Or.inr rfl, _, _, _, (Ad (Bc.agg _ _ _ _ _ B4 rfl (.lp _ _ _ rfl) (Nbl rfl)) Af), (Aj rfl), ?_⟩
  rfl
 ·refine Aq (Ab (sv rfl (Aa Qx rfl) (sv rfl (Ae ti3 rfl (.lp _ _ _ rfl) rfl) (sv rfl (Dg rfl rfl) (sv rfl (Ah rfl) (Bq 23 rfl (fun hc => ?_) (fun hc => ?_)))))))
  ·replace h := B1 hc h
   clear hc
   refine son rfl rfl rfl (sv rfl (Aa X1 rfl) (son rfl rfl rfl (sv rfl (Ae ti4 rfl (.lp _ _ _ rfl) rfl) (sv rfl (Au rfl rfl) (sv rfl (Ak rfl) (Ar (ccI h rfl (fun h => ?_) (fun h => ?_))))))))
   ·refine Aq (Ab (sv rfl (Ao B4 rfl (.lp _ _ _ rfl) (Nbl rfl)) (sv rfl (Aa Qx rfl) (sv rfl (Ae ti3 rfl (.lp _ _ _ rfl) rfl) ?_))))
    obtain ⟨v2, hv2, h⟩ := An h
    refine A1 rfl Aat (Ac rfl (Ac rfl (Ac rfl Al))) (Aj rfl) (Cc hv2) (Ax Em rfl rfl rfl rfl (Nbl rfl) (Bt [.box (EL.el a0), .box (EL.el a1), .box (EL.el v2)] rfl (Ar (Bj (Bd (As ?_))))))
    obtain rfl := SJ h
    refine ⟨Or.inr rfl, _, _, _, (Ad (Bc.agg _ _ _ _ _ B4 rfl (.lp _ _ _ rfl) (Nbl rfl)) Af), (Aj rfl), ?_⟩
    rfl
   ·refine Aq (Ab (sv rfl (Aa Qx rfl) (sv rfl (Ae ti3 rfl (.lp _ _ _ rfl) rfl) (sv rfl (Dg rfl rfl) (sv rfl (Ak rfl) (Ar (ccI h rfl (fun h => ?_) (fun h => ?_))))))))
    ·refine Aq (Ab (sv rfl (Ao B4 rfl (.lp _ _ _ rfl) (Nbl rfl)) (sv rfl (Aa Qx rfl) (sv rfl (Ae ti3 rfl (.lp _ _ _ rfl) rfl) ?_))))
     obtain ⟨v3, hv3, h⟩ := An h
     refine A1 rfl Aat (Ac rfl (Ac rfl (Ac rfl Al))) (Aj rfl) (Cc hv3) (Ax Em rfl rfl rfl rfl (Nbl rfl) (Bt [.box (EL.el a0), .box (EL.el a1), .box (EL.el v3)] rfl (Ar (Bj (Bd (As ?_))))))
     obtain rfl := SJ h
     refine ⟨Or.inr rfl, _, _, _, (Ad (Bc.agg _ _ _ _ _ B4 rfl (.lp _ _ _ rfl) (Nbl rfl)) Af), (Aj rfl), ?_⟩
     rfl
    ·refine Aq (Ab (sv rfl (Aa Pu rfl) (sv rfl (Aa Wf rfl) (sv rfl (Ae ti4 rfl (.lp _ _ _ rfl) rfl) (sv rfl (Ak rfl) (Ar (ccI h rfl (fun h => ?_) (fun h => ?_))))))))
     ·refine Aq (Ab (sv rfl (Ao B4 rfl (.lp _ _ _ rfl) (Nbl rfl)) ?_))
      obtain ⟨v4, hv4, h⟩ := An h
      refine A1 rfl Aat (Ac rfl (Ac rfl (Ac rfl Al))) (Aj rfl) (Cc hv4) (Ax Em rfl rfl rfl rfl (Nbl rfl) (Bt [.box (EL.el a0), .box (EL.el a1), .box (EL.el v4)] rfl (Ar (Bj (Bd (As ?_))))))
      obtain rfl := SJ h
      refine ⟨Or.inr rfl, _, _, _, (Ad (Bc.agg _ _ _ _ _ B4 rfl (.lp _ _ _ rfl) (Nbl rfl)) Af), (Aj rfl), ?_⟩
      rfl
     ·refine Bl (A5 (Ai (Aq (Ab (sv rfl (Ao B4 rfl (.lp _ _ _ rfl) (Nbl rfl)) ?_)))))
      obtain ⟨v5, hv5, h⟩ := An h
      refine A1 rfl Agw (Ac rfl Al) (Aj rfl) (Ee hv5) (Ax Em rfl rfl rfl rfl (Nbl rfl) (Bt [.box (EL.el a0), .box (EL.el a1), .box (EL.el v5)] rfl (Ar (Bj ?_))))
      obtain rfl := SJ h
      refine ⟨Or.inr rfl, _, _, _, (Ad (Bc.agg _ _ _ _ _ B4 rfl (.lp _ _ _ rfl) (Nbl rfl)) Af), (Aj rfl), ?_⟩
      rfl
  ·replace h := B0 hc h
   clear hc
   refine Aw rfl rfl rfl rfl (Aw rfl rfl rfl rfl (sv rfl (Am rfl rfl) (sv rfl (Ak rfl) (Ar (Hy rfl (fun hx => Bool.noConfusion hx) (fun _ => ?_))))))
   refine Aq (Ab (sv rfl (Aa Qx rfl) (sv rfl (Ae ti3 rfl (.lp _ _ _ rfl) rfl) (sv rfl (Dg rfl rfl) (sv rfl (Ak rfl) (Ar (ccI h rfl (fun h => ?_) (fun h => ?_))))))))
   ·refine Aq (Ab (sv rfl (Ao B4 rfl (.lp _ _ _ rfl) (Nbl rfl)) (sv rfl (Aa Qx rfl) (sv rfl (Ae ti3 rfl (.lp _ _ _ rfl) rfl) ?_))))
    obtain ⟨v6, hv6, h⟩ := An h
    refine A1 rfl Aat (Ac rfl (Ac rfl (Ac rfl Al))) (Aj rfl) (Cc hv6) (Ax Em rfl rfl rfl rfl (Nbl rfl) (Bt [.box (EL.el a0), .box (EL.el a1), .box (EL.el v6)] rfl (Ar (Bj (Bd (As ?_))))))
    obtain rfl := SJ h
    refine ⟨Or.inr rfl, _, _, _, (Ad (Bc.agg _ _ _ _ _ B4 rfl (.lp _ _ _ rfl) (Nbl rfl)) Af), (Aj rfl), ?_⟩
    rfl
   ·refine Aq (Ab (sv rfl (Aa Pu rfl) (sv rfl (Aa Wf rfl) (sv rfl (Ae ti4 rfl (.lp _ _ _ rfl) rfl) (sv rfl (Ak rfl) (Ar (ccI h rfl (fun h => ?_) (fun h => ?_))))))))
    ·refine Aq (Ab (sv rfl (Ao B4 rfl (.lp _ _ _ rfl) (Nbl rfl)) ?_))
     obtain ⟨v7, hv7, h⟩ := An h
     refine A1 rfl Aat (Ac rfl (Ac rfl (Ac rfl Al))) (Aj rfl) (Cc hv7) (Ax Em rfl rfl rfl rfl (Nbl rfl) (Bt [.box (EL.el a0), .box (EL.el a1), .box (EL.el v7)] rfl (Ar (Bj (Bd (As ?_))))))
     obtain rfl := SJ h
     refine ⟨Or.inr rfl, _, _, _, (Ad (Bc.agg _ _ _ _ _ B4 rfl (.lp _ _ _ rfl) (Nbl rfl)) Af), (Aj rfl), ?_⟩
     rfl
    ·refine Bl (A5 (Ai (Aq (Ab (sv rfl (Ao B4 rfl (.lp _ _ _ rfl) (Nbl rfl)) ?_)))))
     obtain ⟨v8, hv8, h⟩ := An h
     refine A1 rfl Agw (Ac rfl Al) (Aj rfl) (Ee hv8) (Ax Em rfl rfl rfl rfl (Nbl rfl) (Bt [.box (EL.el a0), .box (EL.el a1), .box (EL.el v8)] rfl (Ar (Bj ?_))))
     obtain rfl := SJ h
     refine ⟨Or.inr rfl, _, _, _, (Ad (Bc.agg _ _ _ _ _ B4 rfl (.lp _ _ _ rfl) (Nbl rfl)) Af), (Aj rfl), ?_⟩
     rfl
def Lm  : Option Unit :=
 (Cn 9).bind fun v1 => if (!v1) then none else (some ())
theorem P6  {r : Unit} (h : Lm = some r) : Gs Tryz.prog 79 [] [.one (Ii6 9)] (fun y m' => y = .s (.one (.raw (.func (.func 105) #[] #[]))) ∧ m' = []) := by
 unfold Lm at h
 refine Cv Tryz.func79 rfl (nt := 11) rfl (Nbl rfl) ?_
 intro w0 S0 X0 H0
 refine Aq (Ab (sv rfl (Ak rfl) (Ar (Aq (Ab (sv rfl (G2 Rt Se (Ap rfl (Ap rfl (Ap rfl (Ap rfl (Ap rfl (Ap rfl (Ap rfl A9))))))) (Ea [Nfu, Nfu, .raw (.func (.func 99) #[] #[]), Nfu, Nfu, Nfu, Nfu, Nfu, Nfu, Nfu] rfl rfl (Nbl rfl) rfl (Ea [Nfu, Nfu, .raw (.func (.func 99) #[] #[]), .raw (.func (.func 100) #[] #[]), Nfu, Nfu, Nfu, Nfu, Nfu, Nfu] rfl rfl (Nbl rfl) rfl (Ea [Nfu, Nfu, .raw (.func (.func 99) #[] #[]), .raw (.func (.func 100) #[] #[]), .raw (.func (.func 101) #[] #[]), Nfu, Nfu, Nfu, Nfu, Nfu] rfl rfl (Nbl rfl) rfl (Ea [Nfu, Nfu, .raw (.func (.func 99) #[] #[]), .raw (.func (.func 100) #[] #[]), .raw (.func (.func 101) #[] #[]), .raw (.func (.func 102) #[] #[]), Nfu, Nfu, Nfu, Nfu] rfl rfl (Nbl rfl) rfl (Ea [Nfu, Nfu, .raw (.func (.func 99) #[] #[]), .raw (.func (.func 100) #[] #[]), .raw (.func (.func 101) #[] #[]), .raw (.func (.func 102) #[] #[]), .raw (.func (.func 103) #[] #[]), Nfu, Nfu, Nfu] rfl rfl (Nbl rfl) rfl (Ea [Nfu, Nfu, .raw (.func (.func 99) #[] #[]), .raw (.func (.func 100) #[] #[]), .raw (.func (.func 101) #[] #[]), .raw (.func (.func 102) #[] #[]), .raw (.func (.func 103) #[] #[]), .raw (.func (.func 104) #[] #[]), Nfu, Nfu] rfl rfl (Nbl rfl) rfl (Ea [Nfu, Nfu, .raw (.func (.func 99) #[] #[]), .raw (.func (.func 100) #[] #[]), .raw (.func (.func 101) #[] #[]), .raw (.func (.func 102) #[] #[]), .raw (.func (.func 103) #[] #[]), .raw (.func (.func 104) #[] #[]), Nfu, .raw (.func (.func 105) #[] #[])] rfl rfl (Nbl rfl) rfl (.nil _))))))))) (Bz rfl Rt (Ax Zi rfl rfl rfl rfl (Nbl rfl) (Bt [.box [Nfu, Nfu, .raw (.func (.func 99) #[] #[]), .raw (.func (.func 100) #[] #[]), .raw (.func (.func 101) #[] #[]), .raw (.func (.func 102) #[] #[]), .raw (.func (.func 103) #[] #[]), .raw (.func (.func 104) #[] #[]), Nfu, .raw (.func (.func 105) #[] #[])]] rfl (Ar (Aq (Aq (Ab (sv rfl (Ah rfl) ?_))))))))))))))
 obtain ⟨v1, hv1, h⟩ := An h
 refine A1 rfl Ajp (Ac rfl Al) (Aj rfl) (Dz hv1) (sv rfl (B8 rfl) (Ar (ccI h rfl (fun h => ?_) (fun h => ?_))))
 ·refine Aq (Ab ?_)
  cases h
 ·refine Bl (Ai (Aq (Ab (sv rfl (Ah rfl) ?_))))
  refine sv rfl (Ot (o := 9) Se rfl rfl (by decide)) ?_
  refine sv rfl (Ae Ab4 rfl (.lp _ _ _ rfl) rfl) (sv rfl (Ak rfl) (Ar (Bj ?_)))
  obtain rfl := SJ h
  exact ⟨Or.inr rfl, _, [], [.one (.raw (.func (.func 105) #[] #[]))], [], (Ad (Bc.tmp _ _ rfl) Af), rfl, rfl, ⟨by decide, rfl⟩, rfl, rfl, ⟨rfl, rfl⟩⟩
def E0 (a0 : Ag) (a1 : Be) : Option Ag :=
 (Es a0).bind fun v1 => (Dw ({v1 with Phase := 0})).bind fun v2 => some v2
theorem N9 {a0 : Ag} {a1 : Be} {r : Ag} (h : E0 a0 a1 = some r) : Bp Tryz.prog 105 [.agg (EL.el a0), .agg (EL.el a1)] (· = .s (.agg (EL.el r))) := by
 unfold E0 at h
 refine A2 Tryz.func105 rfl (nt := 10) rfl (Nbl rfl) ?_
 intro w0 S0
 refine Aq (Ab (Je rfl rfl (Je rfl rfl (Bz rfl Nc (Ar (Aq (Ab (sv rfl (Ao B4 rfl (.lp _ _ _ rfl) (Nbl rfl)) ?_))))))))
 obtain ⟨v1, hv1, h⟩ := An h
 refine A1 rfl Atr (Ac rfl Al) (Aj rfl) (Mf hv1) (Ax Em rfl rfl rfl rfl (Nbl rfl) (Bt [.box (EL.el v1), .box (EL.el a1), .box Zba] rfl (Ar (Aq (Ab (sv rfl (Aa F7 rfl) (Ax sz3 rfl rfl rfl rfl (Nbl rfl) (Bt [.box (EL.el {v1 with Phase := 0}), .box (EL.el a1), .box Zba] rfl (Ar (Aq (Ab (sv rfl (Ao B4 rfl (.lp _ _ _ rfl) (Nbl rfl)) ?_))))))))))))
 obtain ⟨v2, hv2, h⟩ := An h
 refine A1 rfl Asa (Ac rfl Al) (Aj rfl) (I1 hv2) (Ax Em rfl rfl rfl rfl (Nbl rfl) (Bt [.box (EL.el {v1 with Phase := 0}), .box (EL.el a1), .box (EL.el v2)] rfl (Ar (Bj ?_))))
 obtain rfl := SJ h
 refine ⟨Or.inr rfl, _, _, _, (Ad (Bc.agg _ _ _ _ _ B4 rfl (.lp _ _ _ rfl) (Nbl rfl)) Af), (Aj rfl), ?_⟩
 rfl
def G7 (a0 : Int) : Option Unit :=
 (Cn a0).bind fun v1 => if (!v1) then (some ()) else none
theorem Qc {a0 : Int} {r : Unit} (h : G7 a0 = some r) : Gs Tryz.prog 79 [] [.one (Ii6 a0)] (fun y m' => y = .s (.one Nfu) ∧ m' = []) := by
 unfold G7 at h
 refine Cv Tryz.func79 rfl (nt := 11) rfl (Nbl rfl) ?_
 intro w0 S0 X0 H0
 refine Aq (Ab (sv rfl (Ak rfl) (Ar (Aq (Ab (sv rfl (G2 Rt Se (Ap rfl (Ap rfl (Ap rfl (Ap rfl (Ap rfl (Ap rfl (Ap rfl A9))))))) (Ea [Nfu, Nfu, .raw (.func (.func 99) #[] #[]), Nfu, Nfu, Nfu, Nfu, Nfu, Nfu, Nfu] rfl rfl (Nbl rfl) rfl (Ea [Nfu, Nfu, .raw (.func (.func 99) #[] #[]), .raw (.func (.func 100) #[] #[]), Nfu, Nfu, Nfu, Nfu, Nfu, Nfu] rfl rfl (Nbl rfl) rfl (Ea [Nfu, Nfu, .raw (.func (.func 99) #[] #[]), .raw (.func (.func 100) #[] #[]), .raw (.func (.func 101) #[] #[]), Nfu, Nfu, Nfu, Nfu, Nfu] rfl rfl (Nbl rfl) rfl (Ea [Nfu, Nfu, .raw (.func (.func 99) #[] #[]), .raw (.func (.func 100) #[] #[]), .raw (.func (.func 101) #[] #[]), .raw (.func (.func 102) #[] #[]), Nfu, Nfu, Nfu, Nfu] rfl rfl (Nbl rfl) rfl (Ea [Nfu, Nfu, .raw (.func (.func 99) #[] #[]), .raw (.func (.func 100) #[] #[]), .raw (.func (.func 101) #[] #[]), .raw (.func (.func 102) #[] #[]), .raw (.func (.func 103) #[] #[]), Nfu, Nfu, Nfu] rfl rfl (Nbl rfl) rfl (Ea [Nfu, Nfu, .raw (.func (.func 99) #[] #[]), .raw (.func (.func 100) #[] #[]), .raw (.func (.func 101) #[] #[]), .raw (.func (.func 102) #[] #[]), .raw (.func (.func 103) #[] #[]), .raw (.func (.func 104) #[] #[]), Nfu, Nfu] rfl rfl (Nbl rfl) rfl (Ea [Nfu, Nfu, .raw (.func (.func 99) #[] #[]), .raw (.func (.func 100) #[] #[]), .raw (.func (.func 101) #[] #[]), .raw (.func (.func 102) #[] #[]), .raw (.func (.func 103) #[] #[]), .raw (.func (.func 104) #[] #[]), Nfu, .raw (.func (.func 105) #[] #[])] rfl rfl (Nbl rfl) rfl (.nil _))))))))) (Bz rfl Rt (Ax Zi rfl rfl rfl rfl (Nbl rfl) (Bt [.box [Nfu, Nfu, .raw (.func (.func 99) #[] #[]), .raw (.func (.func 100) #[] #[]), .raw (.func (.func 101) #[] #[]), .raw (.func (.func 102) #[] #[]), .raw (.func (.func 103) #[] #[]), .raw (.func (.func 104) #[] #[]), Nfu, .raw (.func (.func 105) #[] #[])]] rfl (Ar (Aq (Aq (Ab (sv rfl (Ah rfl) ?_))))))))))))))
 obtain ⟨v1, hv1, h⟩ := An h
 refine A1 rfl Ajp (Ac rfl Al) (Aj rfl) (Dz hv1) (sv rfl (B8 rfl) (Ar (ccI h rfl (fun h => ?_) (fun h => ?_))))
 ·refine Aq (Ab (sv rfl (Ak rfl) (Ar (Bj (As ?_)))))
  obtain rfl := SJ h
  exact ⟨Or.inr rfl, _, [], [.one Nfu], [], (Ad (Bc.tmp _ _ rfl) Af), rfl, rfl, ⟨by decide, rfl⟩, rfl, rfl, ⟨rfl, rfl⟩⟩
 ·refine Bl (Ai (Aq (Ab (sv rfl (Ah rfl) ?_))))
  cases h
def Gk (a0 : Ag) (v1 : Be × Int) (b5 : Unit) : Option Ag :=
 (Ef a0 v1.1).bind fun v6 => some v6
def Gm (a0 : Ag) (v1 : Be × Int) (b9 : Unit) : Option Ag :=
 (Ey a0 v1.1).bind fun v10 => some v10
def F3 (a0 : Ag) (v1 : Be × Int) (b13 : Unit) : Option Ag :=
 (D1 a0 v1.1).bind fun v14 => some v14
def F2 (a0 : Ag) (v1 : Be × Int) (b17 : Unit) : Option Ag :=
 (E2 a0 v1.1).bind fun v18 => some v18
def F5 (a0 : Ag) (v1 : Be × Int) (b21 : Unit) : Option Ag :=
 (G1 a0 v1.1).bind fun v22 => some v22
def F4 (a0 : Ag) (v1 : Be × Int) (b25 : Unit) : Option Ag :=
 (Fe a0 v1.1).bind fun v26 => some v26
def F6 (a0 : Ag) (v1 : Be × Int) (b29 : Unit) : Option Ag :=
 (E0 a0 v1.1).bind fun v30 => some v30
def Gb (a0 : Ag) (a1 : List UInt8) : Option Ag :=
 (Fd a1).bind fun v1 => if (!decide (v1.2 = 0)) then ((Cq a0).bind fun v2 => some v2) else (if decide (a0.Phase = 2) then ((L7).bind fun v4 => if (!decide (v1.1.Kind = a0.Req.Kind)) then (some a0) else (if (!decide (v1.1.Seq = a0.Req.Seq)) then (some a0) else (Gk a0 v1 ()))) else (if decide (a0.Phase = 3) then ((Lg).bind fun v8 => if (!decide (v1.1.Kind = a0.Req.Kind)) then (some a0) else (if (!decide (v1.1.Seq = a0.Req.Seq)) then (some a0) else (Gm a0 v1 ()))) else (if decide (a0.Phase = 4) then ((Lk).bind fun v12 => if (!decide (v1.1.Kind = a0.Req.Kind)) then (some a0) else (if (!decide (v1.1.Seq = a0.Req.Seq)) then (some a0) else (F3 a0 v1 ()))) else (if decide (a0.Phase = 5) then ((Lp).bind fun v16 => if (!decide (v1.1.Kind = a0.Req.Kind)) then (some a0) else (if (!decide (v1.1.Seq = a0.Req.Seq)) then (some a0) else (F2 a0 v1 ()))) else (if decide (a0.Phase = 6) then ((Ln).bind fun v20 => if (!decide (v1.1.Kind = a0.Req.Kind)) then (some a0) else (if (!decide (v1.1.Seq = a0.Req.Seq)) then (some a0) else (F5 a0 v1 ()))) else (if decide (a0.Phase = 7) then ((Ll).bind fun v24 => if (!decide (v1.1.Kind = a0.Req.Kind)) then (some a0) else (if (!decide (v1.1.Seq = a0.Req.Seq)) then (some a0) else (F4 a0 v1 ()))) else (if decide (a0.Phase = 9) then ((Lm).bind fun v28 => if (!decide (v1.1.Kind = a0.Req.Kind)) then (some a0) else (if (!decide (v1.1.Seq = a0.Req.Seq)) then (some a0) else (F6 a0 v1 ()))) else ((G7 a0.Phase).bind fun v31 => some (Ag.mk (Cp.mk a0.Cfg.Who (Dk.mk a0.Cfg.Plan.Wait a0.Cfg.Plan.Most a0.Cfg.Plan.Tries) a0.Cfg.Attempts a0.Cfg.Budget) a0.Tasks a0.Phase a0.Epoch a0.Seq a0.Attempt a0.Sent a0.Left a0.Resets a0.Risk (A6.mk a0.St.PC (Ev.mk a0.St.Regs.R0 a0.St.Regs.R1 a0.St.Regs.R2 a0.St.Regs.R3 a0.St.Regs.R4 a0.St.Regs.R5 a0.St.Regs.R6 a0.St.Regs.R7) a0.St.Stopped) (B6.mk a0.Req.Kind a0.Req.Seq a0.Req.Token a0.Req.Attempt a0.Req.RO a0.Req.Key a0.Req.Val (B7.mk a0.Req.Rng.Lo a0.Req.Rng.Hi a0.Req.Rng.Open)) (Bn.mk a0.In.Buf a0.In.Dead) a0.Out a0.Done a0.Tried)))))))))
theorem Pe {a0 : Ag} {a1 : List UInt8} {r : Ag} (h : Gb a0 a1 = some r) : Bp Tryz.prog 46 [.agg (EL.el a0), .one (.sl a1.length (a1.flatMap eU8))] (· = .s (.agg (EL.el r))) := by
 unfold Gb at h
 refine A2 Tryz.func46 rfl (nt := 43) rfl (Nbl rfl) ?_
 intro w0 S0
 refine Aq (Ab (Je rfl rfl (Bz rfl Nc (Ar (Aq (Ab (sv rfl (Ah rfl) ?_)))))))
 obtain ⟨v1, hv1, h⟩ := An h
 refine A1 rfl Av3 (Ac rfl Al) (Aj rfl) (Sg hv1) (sv rfl (Fs rfl) (sv rfl (A7 rfl rfl) (sv rfl (A7 rfl rfl) (Bz rfl Aki (Ax Anu rfl rfl rfl rfl (Nbl rfl) (Bt [.box (EL.el a0), .box Zba, .box (EL.el v1.1)] rfl (sv rfl (Ak rfl) (Ar (Aq (Aq (Ab (sv rfl (Ah rfl) (sv rfl (Cd rfl rfl) (Ar (ccI h rfl (fun h => ?_) (fun h => ?_))))))))))))))))
 ·refine Aq (Ab (sv rfl (Ao B4 rfl (.lp _ _ _ rfl) (Nbl rfl)) ?_))
  obtain ⟨v2, hv2, h⟩ := An h
  refine A1 rfl Apb (Ac rfl Al) (Aj rfl) (Fa hv2) (Ax Em rfl rfl rfl rfl (Nbl rfl) (Bt [.box (EL.el a0), .box (EL.el v2), .box (EL.el v1.1)] rfl (Ar (Bj (As ?_)))))
  obtain rfl := SJ h
  refine ⟨Or.inr rfl, _, _, _, (Ad (Bc.agg _ _ _ _ _ B4 rfl (.lp _ _ _ rfl) (Nbl rfl)) Af), (Aj rfl), ?_⟩
  rfl
 ·refine Bl (Ai (Aq (Ab (sv rfl (Aa F7 rfl) (sv rfl (Ae ti3 rfl (.lp _ _ _ rfl) rfl) ?_)))))
  by_cases hq3 : a0.Phase = 2
  ·replace h := B1 (decide_eq_true hq3) h
   refine U6 18 (y := .s (.one (Ii6 a0.Phase))) (.s (.one (Ii6 2))) rfl (congrArg (fun n => AV.s (.one (Ii6 n))) hq3) ?_
   obtain ⟨v4, hv4, h⟩ := An h
   refine C2 (x' := .s (.one (.raw (.func (.func 99) #[] #[])))) (M' := [.box (EL.el a0), .box Zba, .box (EL.el v1.1)]) [] rfl Ak9 (.func _) (Ac rfl Al) (Q5 hv4) rfl rfl (by decide) rfl rfl rfl ?_
   refine sv rfl (Ak rfl) (Ar (Aq (Aq (Ki (Unit) (fun b5 => [(2, .s (.one (.lp 0 0))), (4, .s (.one (.lp 1 0))), (5, .s (.one (.lp 2 0))), (7, .s (.one (.raw (.func (.func 99) #[] #[]))))]) (fun b5 => [.box (EL.el a0), .box Zba, .box (EL.el v1.1)]) (fun b5 => Gk a0 v1 b5 = some r) (fun _ _ => Bg rfl) (fun _ _ => A0 rfl) (fun _ _ => Nbl rfl) (fun b5 h => ?_) ?_))))
   ·unfold Gk at h
    refine Aq (Ab (sv rfl (Ah rfl) (sv rfl (Ao B4 rfl (.lp _ _ _ rfl) (Nbl rfl)) (sv rfl (Ao Abc rfl (.lp _ _ _ rfl) (Nbl rfl)) ?_))))
    obtain ⟨v6, hv6, h⟩ := An h
    refine sd rfl (Oa Awc (.raw _ _ rfl) (Ac rfl (Ac rfl Al)) rfl (Nw hv6)) (Ax Em rfl rfl rfl rfl (Nbl rfl) (Bt [.box (EL.el a0), .box (EL.el v6), .box (EL.el v1.1)] rfl (Ar (Bj ?_))))
    obtain rfl := SJ h
    refine ⟨Or.inr rfl, _, _, _, (Ad (Bc.agg _ _ _ _ _ B4 rfl (.lp _ _ _ rfl) (Nbl rfl)) Af), (Aj rfl), ?_⟩
    rfl
   ·skip
    refine Ab (sv rfl (Ah rfl) (sv rfl (Jh Tryz.underlying159 rfl) (sv rfl (Ah rfl) (son rfl rfl rfl (sv rfl (Aa P0 rfl) (son rfl rfl rfl (sv rfl (Ae ti3 rfl (.lp _ _ _ rfl) rfl) (son rfl rfl rfl (sv rfl (Aa Ji rfl) (son rfl rfl rfl (sv rfl (Aa Pw rfl) (son rfl rfl rfl (sv rfl (Ae ti3 rfl (.lp _ _ _ rfl) rfl) (son rfl rfl rfl (sv rfl (Cd rfl rfl) (sv rfl (Am rfl rfl) (sv rfl (Ah rfl) (Bq 30 rfl (fun hc => ?_) (fun hc => ?_)))))))))))))))))))
    ·replace h := B1 hc h
     clear hc
     refine Aw rfl rfl rfl rfl (Aw rfl rfl rfl rfl (Aw rfl rfl rfl rfl (Aw rfl rfl rfl rfl (Aw rfl rfl rfl rfl (Aw rfl rfl rfl rfl (sv rfl (Au rfl rfl) (Ar (Hy rfl (fun _ => ?_) (fun hx => Bool.noConfusion hx)))))))))
     refine Aq (Ab (sv rfl (Ao B4 rfl (.lp _ _ _ rfl) (Nbl rfl)) (Ax Em rfl rfl rfl rfl (Nbl rfl) (Bt [.box (EL.el a0), .box (EL.el a0), .box (EL.el v1.1)] rfl (Ar (Bj (As ?_)))))))
     obtain rfl := SJ h
     refine ⟨Or.inr rfl, _, _, _, (Ad (Bc.agg _ _ _ _ _ B4 rfl (.lp _ _ _ rfl) (Nbl rfl)) Af), (Aj rfl), ?_⟩
     rfl
    ·replace h := B0 hc h
     clear hc
     refine son rfl rfl rfl (sv rfl (Aa R8 rfl) (son rfl rfl rfl (sv rfl (Ae ti3 rfl (.lp _ _ _ rfl) rfl) (son rfl rfl rfl (sv rfl (Aa Ji rfl) (son rfl rfl rfl (sv rfl (Aa Qq rfl) (son rfl rfl rfl (sv rfl (Ae ti3 rfl (.lp _ _ _ rfl) rfl) (son rfl rfl rfl (sv rfl (Cd rfl rfl) (sv rfl (Am rfl rfl) (Ar (ccI h rfl (fun h => ?_) (fun h => ?_)))))))))))))))
     ·refine Aq (Ab (sv rfl (Ao B4 rfl (.lp _ _ _ rfl) (Nbl rfl)) (Ax Em rfl rfl rfl rfl (Nbl rfl) (Bt [.box (EL.el a0), .box (EL.el a0), .box (EL.el v1.1)] rfl (Ar (Bj (As ?_)))))))
      obtain rfl := SJ h
      refine ⟨Or.inr rfl, _, _, _, (Ad (Bc.agg _ _ _ _ _ B4 rfl (.lp _ _ _ rfl) (Nbl rfl)) Af), (Aj rfl), ?_⟩
      rfl
     ·refine Bl (Ai ?_)
      exact ⟨(), _, h, ⟨rfl, rfl, rfl, rfl, trivial⟩, rfl⟩
  replace h := B0 (decide_eq_false hq3) h
  by_cases hq7 : a0.Phase = 3
  ·replace h := B1 (decide_eq_true hq7) h
   refine U6 18 (y := .s (.one (Ii6 a0.Phase))) (.s (.one (Ii6 3))) rfl (congrArg (fun n => AV.s (.one (Ii6 n))) hq7) ?_
   obtain ⟨v8, hv8, h⟩ := An h
   refine C2 (x' := .s (.one (.raw (.func (.func 100) #[] #[])))) (M' := [.box (EL.el a0), .box Zba, .box (EL.el v1.1)]) [] rfl Ak9 (.func _) (Ac rfl Al) (P8 hv8) rfl rfl (by decide) rfl rfl rfl ?_
   refine sv rfl (Ak rfl) (Ar (Aq (Aq (Ki (Unit) (fun b9 => [(2, .s (.one (.lp 0 0))), (4, .s (.one (.lp 1 0))), (5, .s (.one (.lp 2 0))), (7, .s (.one (.raw (.func (.func 100) #[] #[]))))]) (fun b9 => [.box (EL.el a0), .box Zba, .box (EL.el v1.1)]) (fun b9 => Gm a0 v1 b9 = some r) (fun _ _ => Bg rfl) (fun _ _ => A0 rfl) (fun _ _ => Nbl rfl) (fun b9 h => ?_) ?_))))
   ·unfold Gm at h
    refine Aq (Ab (sv rfl (Ah rfl) (sv rfl (Ao B4 rfl (.lp _ _ _ rfl) (Nbl rfl)) (sv rfl (Ao Abc rfl (.lp _ _ _ rfl) (Nbl rfl)) ?_))))
    obtain ⟨v10, hv10, h⟩ := An h
    refine sd rfl (Oa As5 (.raw _ _ rfl) (Ac rfl (Ac rfl Al)) rfl (Oe hv10)) (Ax Em rfl rfl rfl rfl (Nbl rfl) (Bt [.box (EL.el a0), .box (EL.el v10), .box (EL.el v1.1)] rfl (Ar (Bj ?_))))
    obtain rfl := SJ h
    refine ⟨Or.inr rfl, _, _, _, (Ad (Bc.agg _ _ _ _ _ B4 rfl (.lp _ _ _ rfl) (Nbl rfl)) Af), (Aj rfl), ?_⟩
    rfl
   ·skip
    refine Ab (sv rfl (Ah rfl) (sv rfl (Jh Tryz.underlying159 rfl) (sv rfl (Ah rfl) (son rfl rfl rfl (sv rfl (Aa P0 rfl) (son rfl rfl rfl (sv rfl (Ae ti3 rfl (.lp _ _ _ rfl) rfl) (son rfl rfl rfl (sv rfl (Aa Ji rfl) (son rfl rfl rfl (sv rfl (Aa Pw rfl) (son rfl rfl rfl (sv rfl (Ae ti3 rfl (.lp _ _ _ rfl) rfl) (son rfl rfl rfl (sv rfl (Cd rfl rfl) (sv rfl (Am rfl rfl) (sv rfl (Ah rfl) (Bq 30 rfl (fun hc => ?_) (fun hc => ?_)))))))))))))))))))
    ·replace h := B1 hc h
     clear hc
     refine Aw rfl rfl rfl rfl (Aw rfl rfl rfl rfl (Aw rfl rfl rfl rfl (Aw rfl rfl rfl rfl (Aw rfl rfl rfl rfl (Aw rfl rfl rfl rfl (sv rfl (Au rfl rfl) (Ar (Hy rfl (fun _ => ?_) (fun hx => Bool.noConfusion hx)))))))))
     refine Aq (Ab (sv rfl (Ao B4 rfl (.lp _ _ _ rfl) (Nbl rfl)) (Ax Em rfl rfl rfl rfl (Nbl rfl) (Bt [.box (EL.el a0), .box (EL.el a0), .box (EL.el v1.1)] rfl (Ar (Bj (As ?_)))))))
     obtain rfl := SJ h
     refine ⟨Or.inr rfl, _, _, _, (Ad (Bc.agg _ _ _ _ _ B4 rfl (.lp _ _ _ rfl) (Nbl rfl)) Af), (Aj rfl), ?_⟩
     rfl
    ·replace h := B0 hc h
     clear hc
     refine son rfl rfl rfl (sv rfl (Aa R8 rfl) (son rfl rfl rfl (sv rfl (Ae ti3 rfl (.lp _ _ _ rfl) rfl) (son rfl rfl rfl (sv rfl (Aa Ji rfl) (son rfl rfl rfl (sv rfl (Aa Qq rfl) (son rfl rfl rfl (sv rfl (Ae ti3 rfl (.lp _ _ _ rfl) rfl) (son rfl rfl rfl (sv rfl (Cd rfl rfl) (sv rfl (Am rfl rfl) (Ar (ccI h rfl (fun h => ?_) (fun h => ?_)))))))))))))))
     ·refine Aq (Ab (sv rfl (Ao B4 rfl (.lp _ _ _ rfl) (Nbl rfl)) (Ax Em rfl rfl rfl rfl (Nbl rfl) (Bt [.box (EL.el a0), .box (EL.el a0), .box (EL.el v1.1)] rfl (Ar (Bj (As ?_)))))))
      obtain rfl := SJ h
      refine ⟨Or.inr rfl, _, _, _, (Ad (Bc.agg _ _ _ _ _ B4 rfl (.lp _ _ _ rfl) (Nbl rfl)) Af), (Aj rfl), ?_⟩
      rfl
     ·refine Bl (Ai ?_)
      exact ⟨(), _, h, ⟨rfl, rfl, rfl, rfl, trivial⟩, rfl⟩
  replace h := B0 (decide_eq_false hq7) h
  by_cases hq11 : a0.Phase = 4
  ·replace h := B1 (decide_eq_true hq11) h
   refine U6 18 (y := .s (.one (Ii6 a0.Phase))) (.s (.one (Ii6 4))) rfl (congrArg (fun n => AV.s (.one (Ii6 n))) hq11) ?_
   obtain ⟨v12, hv12, h⟩ := An h
   refine C2 (x' := .s (.one (.raw (.func (.func 101) #[] #[])))) (M' := [.box (EL.el a0), .box Zba, .box (EL.el v1.1)]) [] rfl Ak9 (.func _) (Ac rfl Al) (P5 hv12) rfl rfl (by decide) rfl rfl rfl ?_
   refine sv rfl (Ak rfl) (Ar (Aq (Aq (Ki (Unit) (fun b13 => [(2, .s (.one (.lp 0 0))), (4, .s (.one (.lp 1 0))), (5, .s (.one (.lp 2 0))), (7, .s (.one (.raw (.func (.func 101) #[] #[]))))]) (fun b13 => [.box (EL.el a0), .box Zba, .box (EL.el v1.1)]) (fun b13 => F3 a0 v1 b13 = some r) (fun _ _ => Bg rfl) (fun _ _ => A0 rfl) (fun _ _ => Nbl rfl) (fun b13 h => ?_) ?_))))
   ·unfold F3 at h
    refine Aq (Ab (sv rfl (Ah rfl) (sv rfl (Ao B4 rfl (.lp _ _ _ rfl) (Nbl rfl)) (sv rfl (Ao Abc rfl (.lp _ _ _ rfl) (Nbl rfl)) ?_))))
    obtain ⟨v14, hv14, h⟩ := An h
    refine sd rfl (Oa Arh (.raw _ _ rfl) (Ac rfl (Ac rfl Al)) rfl (Nb hv14)) (Ax Em rfl rfl rfl rfl (Nbl rfl) (Bt [.box (EL.el a0), .box (EL.el v14), .box (EL.el v1.1)] rfl (Ar (Bj ?_))))
    obtain rfl := SJ h
    refine ⟨Or.inr rfl, _, _, _, (Ad (Bc.agg _ _ _ _ _ B4 rfl (.lp _ _ _ rfl) (Nbl rfl)) Af), (Aj rfl), ?_⟩
    rfl
   ·skip
    refine Ab (sv rfl (Ah rfl) (sv rfl (Jh Tryz.underlying159 rfl) (sv rfl (Ah rfl) (son rfl rfl rfl (sv rfl (Aa P0 rfl) (son rfl rfl rfl (sv rfl (Ae ti3 rfl (.lp _ _ _ rfl) rfl) (son rfl rfl rfl (sv rfl (Aa Ji rfl) (son rfl rfl rfl (sv rfl (Aa Pw rfl) (son rfl rfl rfl (sv rfl (Ae ti3 rfl (.lp _ _ _ rfl) rfl) (son rfl rfl rfl (sv rfl (Cd rfl rfl) (sv rfl (Am rfl rfl) (sv rfl (Ah rfl) (Bq 30 rfl (fun hc => ?_) (fun hc => ?_)))))))))))))))))))
    ·replace h := B1 hc h
     clear hc
     refine Aw rfl rfl rfl rfl (Aw rfl rfl rfl rfl (Aw rfl rfl rfl rfl (Aw rfl rfl rfl rfl (Aw rfl rfl rfl rfl (Aw rfl rfl rfl rfl (sv rfl (Au rfl rfl) (Ar (Hy rfl (fun _ => ?_) (fun hx => Bool.noConfusion hx)))))))))
     refine Aq (Ab (sv rfl (Ao B4 rfl (.lp _ _ _ rfl) (Nbl rfl)) (Ax Em rfl rfl rfl rfl (Nbl rfl) (Bt [.box (EL.el a0), .box (EL.el a0), .box (EL.el v1.1)] rfl (Ar (Bj (As ?_)))))))
     obtain rfl := SJ h
     refine ⟨Or.inr rfl, _, _, _, (Ad (Bc.agg _ _ _ _ _ B4 rfl (.lp _ _ _ rfl) (Nbl rfl)) Af), (Aj rfl), ?_⟩
     rfl
    ·replace h := B0 hc h
     clear hc
     refine son rfl rfl rfl (sv rfl (Aa R8 rfl) (son rfl rfl rfl (sv rfl (Ae ti3 rfl (.lp _ _ _ rfl) rfl) (son rfl rfl rfl (sv rfl (Aa Ji rfl) (son rfl rfl rfl (sv rfl (Aa Qq rfl) (son rfl rfl rfl (sv rfl (Ae ti3 rfl (.lp _ _ _ rfl) rfl) (son rfl rfl rfl (sv rfl (Cd rfl rfl) (sv rfl (Am rfl rfl) (Ar (ccI h rfl (fun h => ?_) (fun h => ?_)))))))))))))))
     ·refine Aq (Ab (sv rfl (Ao B4 rfl (.lp _ _ _ rfl) (Nbl rfl)) (Ax Em rfl rfl rfl rfl (Nbl rfl) (Bt [.box (EL.el a0), .box (EL.el a0), .box (EL.el v1.1)] rfl (Ar (Bj (As ?_)))))))
      obtain rfl := SJ h
      refine ⟨Or.inr rfl, _, _, _, (Ad (Bc.agg _ _ _ _ _ B4 rfl (.lp _ _ _ rfl) (Nbl rfl)) Af), (Aj rfl), ?_⟩
      rfl
     ·refine Bl (Ai ?_)
      exact ⟨(), _, h, ⟨rfl, rfl, rfl, rfl, trivial⟩, rfl⟩
  replace h := B0 (decide_eq_false hq11) h
  by_cases hq15 : a0.Phase = 5
  ·replace h := B1 (decide_eq_true hq15) h
   refine U6 18 (y := .s (.one (Ii6 a0.Phase))) (.s (.one (Ii6 5))) rfl (congrArg (fun n => AV.s (.one (Ii6 n))) hq15) ?_
   obtain ⟨v16, hv16, h⟩ := An h
   refine C2 (x' := .s (.one (.raw (.func (.func 102) #[] #[])))) (M' := [.box (EL.el a0), .box Zba, .box (EL.el v1.1)]) [] rfl Ak9 (.func _) (Ac rfl Al) (Qa hv16) rfl rfl (by decide) rfl rfl rfl ?_
   refine sv rfl (Ak rfl) (Ar (Aq (Aq (Ki (Unit) (fun b17 => [(2, .s (.one (.lp 0 0))), (4, .s (.one (.lp 1 0))), (5, .s (.one (.lp 2 0))), (7, .s (.one (.raw (.func (.func 102) #[] #[]))))]) (fun b17 => [.box (EL.el a0), .box Zba, .box (EL.el v1.1)]) (fun b17 => F2 a0 v1 b17 = some r) (fun _ _ => Bg rfl) (fun _ _ => A0 rfl) (fun _ _ => Nbl rfl) (fun b17 h => ?_) ?_))))
   ·unfold F2 at h
    refine Aq (Ab (sv rfl (Ah rfl) (sv rfl (Ao B4 rfl (.lp _ _ _ rfl) (Nbl rfl)) (sv rfl (Ao Abc rfl (.lp _ _ _ rfl) (Nbl rfl)) ?_))))
    obtain ⟨v18, hv18, h⟩ := An h
    refine sd rfl (Oa As9 (.raw _ _ rfl) (Ac rfl (Ac rfl Al)) rfl (N8 hv18)) (Ax Em rfl rfl rfl rfl (Nbl rfl) (Bt [.box (EL.el a0), .box (EL.el v18), .box (EL.el v1.1)] rfl (Ar (Bj ?_))))
    obtain rfl := SJ h
    refine ⟨Or.inr rfl, _, _, _, (Ad (Bc.agg _ _ _ _ _ B4 rfl (.lp _ _ _ rfl) (Nbl rfl)) Af), (Aj rfl), ?_⟩
    rfl
   ·skip
    refine Ab (sv rfl (Ah rfl) (sv rfl (Jh Tryz.underlying159 rfl) (sv rfl (Ah rfl) (son rfl rfl rfl (sv rfl (Aa P0 rfl) (son rfl rfl rfl (sv rfl (Ae ti3 rfl (.lp _ _ _ rfl) rfl) (son rfl rfl rfl (sv rfl (Aa Ji rfl) (son rfl rfl rfl (sv rfl (Aa Pw rfl) (son rfl rfl rfl (sv rfl (Ae ti3 rfl (.lp _ _ _ rfl) rfl) (son rfl rfl rfl (sv rfl (Cd rfl rfl) (sv rfl (Am rfl rfl) (sv rfl (Ah rfl) (Bq 30 rfl (fun hc => ?_) (fun hc => ?_)))))))))))))))))))
    ·replace h := B1 hc h
     clear hc
     refine Aw rfl rfl rfl rfl (Aw rfl rfl rfl rfl (Aw rfl rfl rfl rfl (Aw rfl rfl rfl rfl (Aw rfl rfl rfl rfl (Aw rfl rfl rfl rfl (sv rfl (Au rfl rfl) (Ar (Hy rfl (fun _ => ?_) (fun hx => Bool.noConfusion hx)))))))))
     refine Aq (Ab (sv rfl (Ao B4 rfl (.lp _ _ _ rfl) (Nbl rfl)) (Ax Em rfl rfl rfl rfl (Nbl rfl) (Bt [.box (EL.el a0), .box (EL.el a0), .box (EL.el v1.1)] rfl (Ar (Bj (As ?_)))))))
     obtain rfl := SJ h
     refine ⟨Or.inr rfl, _, _, _, (Ad (Bc.agg _ _ _ _ _ B4 rfl (.lp _ _ _ rfl) (Nbl rfl)) Af), (Aj rfl), ?_⟩
     rfl
    ·replace h := B0 hc h
     clear hc
     refine son rfl rfl rfl (sv rfl (Aa R8 rfl) (son rfl rfl rfl (sv rfl (Ae ti3 rfl (.lp _ _ _ rfl) rfl) (son rfl rfl rfl (sv rfl (Aa Ji rfl) (son rfl rfl rfl (sv rfl (Aa Qq rfl) (son rfl rfl rfl (sv rfl (Ae ti3 rfl (.lp _ _ _ rfl) rfl) (son rfl rfl rfl (sv rfl (Cd rfl rfl) (sv rfl (Am rfl rfl) (Ar (ccI h rfl (fun h => ?_) (fun h => ?_)))))))))))))))
     ·refine Aq (Ab (sv rfl (Ao B4 rfl (.lp _ _ _ rfl) (Nbl rfl)) (Ax Em rfl rfl rfl rfl (Nbl rfl) (Bt [.box (EL.el a0), .box (EL.el a0), .box (EL.el v1.1)] rfl (Ar (Bj (As ?_)))))))
      obtain rfl := SJ h
      refine ⟨Or.inr rfl, _, _, _, (Ad (Bc.agg _ _ _ _ _ B4 rfl (.lp _ _ _ rfl) (Nbl rfl)) Af), (Aj rfl), ?_⟩
      rfl
     ·refine Bl (Ai ?_)
      exact ⟨(), _, h, ⟨rfl, rfl, rfl, rfl, trivial⟩, rfl⟩
  replace h := B0 (decide_eq_false hq15) h
  by_cases hq19 : a0.Phase = 6
  ·replace h := B1 (decide_eq_true hq19) h
   refine U6 18 (y := .s (.one (Ii6 a0.Phase))) (.s (.one (Ii6 6))) rfl (congrArg (fun n => AV.s (.one (Ii6 n))) hq19) ?_
   obtain ⟨v20, hv20, h⟩ := An h
   refine C2 (x' := .s (.one (.raw (.func (.func 103) #[] #[])))) (M' := [.box (EL.el a0), .box Zba, .box (EL.el v1.1)]) [] rfl Ak9 (.func _) (Ac rfl Al) (P4 hv20) rfl rfl (by decide) rfl rfl rfl ?_
   refine sv rfl (Ak rfl) (Ar (Aq (Aq (Ki (Unit) (fun b21 => [(2, .s (.one (.lp 0 0))), (4, .s (.one (.lp 1 0))), (5, .s (.one (.lp 2 0))), (7, .s (.one (.raw (.func (.func 103) #[] #[]))))]) (fun b21 => [.box (EL.el a0), .box Zba, .box (EL.el v1.1)]) (fun b21 => F5 a0 v1 b21 = some r) (fun _ _ => Bg rfl) (fun _ _ => A0 rfl) (fun _ _ => Nbl rfl) (fun b21 h => ?_) ?_))))
   ·unfold F5 at h
    refine Aq (Ab (sv rfl (Ah rfl) (sv rfl (Ao B4 rfl (.lp _ _ _ rfl) (Nbl rfl)) (sv rfl (Ao Abc rfl (.lp _ _ _ rfl) (Nbl rfl)) ?_))))
    obtain ⟨v22, hv22, h⟩ := An h
    refine sd rfl (Oa Arb (.raw _ _ rfl) (Ac rfl (Ac rfl Al)) rfl (Oh hv22)) (Ax Em rfl rfl rfl rfl (Nbl rfl) (Bt [.box (EL.el a0), .box (EL.el v22), .box (EL.el v1.1)] rfl (Ar (Bj ?_))))
    obtain rfl := SJ h
    refine ⟨Or.inr rfl, _, _, _, (Ad (Bc.agg _ _ _ _ _ B4 rfl (.lp _ _ _ rfl) (Nbl rfl)) Af), (Aj rfl), ?_⟩
    rfl
   ·skip
    refine Ab (sv rfl (Ah rfl) (sv rfl (Jh Tryz.underlying159 rfl) (sv rfl (Ah rfl) (son rfl rfl rfl (sv rfl (Aa P0 rfl) (son rfl rfl rfl (sv rfl (Ae ti3 rfl (.lp _ _ _ rfl) rfl) (son rfl rfl rfl (sv rfl (Aa Ji rfl) (son rfl rfl rfl (sv rfl (Aa Pw rfl) (son rfl rfl rfl (sv rfl (Ae ti3 rfl (.lp _ _ _ rfl) rfl) (son rfl rfl rfl (sv rfl (Cd rfl rfl) (sv rfl (Am rfl rfl) (sv rfl (Ah rfl) (Bq 30 rfl (fun hc => ?_) (fun hc => ?_)))))))))))))))))))
    ·replace h := B1 hc h
     clear hc
     refine Aw rfl rfl rfl rfl (Aw rfl rfl rfl rfl (Aw rfl rfl rfl rfl (Aw rfl rfl rfl rfl (Aw rfl rfl rfl rfl (Aw rfl rfl rfl rfl (sv rfl (Au rfl rfl) (Ar (Hy rfl (fun _ => ?_) (fun hx => Bool.noConfusion hx)))))))))
     refine Aq (Ab (sv rfl (Ao B4 rfl (.lp _ _ _ rfl) (Nbl rfl)) (Ax Em rfl rfl rfl rfl (Nbl rfl) (Bt [.box (EL.el a0), .box (EL.el a0), .box (EL.el v1.1)] rfl (Ar (Bj (As ?_)))))))
     obtain rfl := SJ h
     refine ⟨Or.inr rfl, _, _, _, (Ad (Bc.agg _ _ _ _ _ B4 rfl (.lp _ _ _ rfl) (Nbl rfl)) Af), (Aj rfl), ?_⟩
     rfl
    ·replace h := B0 hc h
     clear hc
     refine son rfl rfl rfl (sv rfl (Aa R8 rfl) (son rfl rfl rfl (sv rfl (Ae ti3 rfl (.lp _ _ _ rfl) rfl) (son rfl rfl rfl (sv rfl (Aa Ji rfl) (son rfl rfl rfl (sv rfl (Aa Qq rfl) (son rfl rfl rfl (sv rfl (Ae ti3 rfl (.lp _ _ _ rfl) rfl) (son rfl rfl rfl (sv rfl (Cd rfl rfl) (sv rfl (Am rfl rfl) (Ar (ccI h rfl (fun h => ?_) (fun h => ?_)))))))))))))))
     ·refine Aq (Ab (sv rfl (Ao B4 rfl (.lp _ _ _ rfl) (Nbl rfl)) (Ax Em rfl rfl rfl rfl (Nbl rfl) (Bt [.box (EL.el a0), .box (EL.el a0), .box (EL.el v1.1)] rfl (Ar (Bj (As ?_)))))))
      obtain rfl := SJ h
      refine ⟨Or.inr rfl, _, _, _, (Ad (Bc.agg _ _ _ _ _ B4 rfl (.lp _ _ _ rfl) (Nbl rfl)) Af), (Aj rfl), ?_⟩
      rfl
     ·refine Bl (Ai ?_)
      exact ⟨(), _, h, ⟨rfl, rfl, rfl, rfl, trivial⟩, rfl⟩
  replace h := B0 (decide_eq_false hq19) h
  by_cases hq23 : a0.Phase = 7
  ·replace h := B1 (decide_eq_true hq23) h
   refine U6 18 (y := .s (.one (Ii6 a0.Phase))) (.s (.one (Ii6 7))) rfl (congrArg (fun n => AV.s (.one (Ii6 n))) hq23) ?_
   obtain ⟨v24, hv24, h⟩ := An h
   refine C2 (x' := .s (.one (.raw (.func (.func 104) #[] #[])))) (M' := [.box (EL.el a0), .box Zba, .box (EL.el v1.1)]) [] rfl Ak9 (.func _) (Ac rfl Al) (P3 hv24) rfl rfl (by decide) rfl rfl rfl ?_
   refine sv rfl (Ak rfl) (Ar (Aq (Aq (Ki (Unit) (fun b25 => [(2, .s (.one (.lp 0 0))), (4, .s (.one (.lp 1 0))), (5, .s (.one (.lp 2 0))), (7, .s (.one (.raw (.func (.func 104) #[] #[]))))]) (fun b25 => [.box (EL.el a0), .box Zba, .box (EL.el v1.1)]) (fun b25 => F4 a0 v1 b25 = some r) (fun _ _ => Bg rfl) (fun _ _ => A0 rfl) (fun _ _ => Nbl rfl) (fun b25 h => ?_) ?_))))
   ·unfold F4 at h
    refine Aq (Ab (sv rfl (Ah rfl) (sv rfl (Ao B4 rfl (.lp _ _ _ rfl) (Nbl rfl)) (sv rfl (Ao Abc rfl (.lp _ _ _ rfl) (Nbl rfl)) ?_))))
    obtain ⟨v26, hv26, h⟩ := An h
    refine sd rfl (Oa Ata (.raw _ _ rfl) (Ac rfl (Ac rfl Al)) rfl (Og hv26)) (Ax Em rfl rfl rfl rfl (Nbl rfl) (Bt [.box (EL.el a0), .box (EL.el v26), .box (EL.el v1.1)] rfl (Ar (Bj ?_))))
    obtain rfl := SJ h
    refine ⟨Or.inr rfl, _, _, _, (Ad (Bc.agg _ _ _ _ _ B4 rfl (.lp _ _ _ rfl) (Nbl rfl)) Af), (Aj rfl), ?_⟩
    rfl
   ·skip
    refine Ab (sv rfl (Ah rfl) (sv rfl (Jh Tryz.underlying159 rfl) (sv rfl (Ah rfl) (son rfl rfl rfl (sv rfl (Aa P0 rfl) (son rfl rfl rfl (sv rfl (Ae ti3 rfl (.lp _ _ _ rfl) rfl) (son rfl rfl rfl (sv rfl (Aa Ji rfl) (son rfl rfl rfl (sv rfl (Aa Pw rfl) (son rfl rfl rfl (sv rfl (Ae ti3 rfl (.lp _ _ _ rfl) rfl) (son rfl rfl rfl (sv rfl (Cd rfl rfl) (sv rfl (Am rfl rfl) (sv rfl (Ah rfl) (Bq 30 rfl (fun hc => ?_) (fun hc => ?_)))))))))))))))))))
    ·replace h := B1 hc h
     clear hc
     refine Aw rfl rfl rfl rfl (Aw rfl rfl rfl rfl (Aw rfl rfl rfl rfl (Aw rfl rfl rfl rfl (Aw rfl rfl rfl rfl (Aw rfl rfl rfl rfl (sv rfl (Au rfl rfl) (Ar (Hy rfl (fun _ => ?_) (fun hx => Bool.noConfusion hx)))))))))
     refine Aq (Ab (sv rfl (Ao B4 rfl (.lp _ _ _ rfl) (Nbl rfl)) (Ax Em rfl rfl rfl rfl (Nbl rfl) (Bt [.box (EL.el a0), .box (EL.el a0), .box (EL.el v1.1)] rfl (Ar (Bj (As ?_)))))))
     obtain rfl := SJ h
     refine ⟨Or.inr rfl, _, _, _, (Ad (Bc.agg _ _ _ _ _ B4 rfl (.lp _ _ _ rfl) (Nbl rfl)) Af), (Aj rfl), ?_⟩
     rfl
    ·replace h := B0 hc h
     clear hc
     refine son rfl rfl rfl (sv rfl (Aa R8 rfl) (son rfl rfl rfl (sv rfl (Ae ti3 rfl (.lp _ _ _ rfl) rfl) (son rfl rfl rfl (sv rfl (Aa Ji rfl) (son rfl rfl rfl (sv rfl (Aa Qq rfl) (son rfl rfl rfl (sv rfl (Ae ti3 rfl (.lp _ _ _ rfl) rfl) (son rfl rfl rfl (sv rfl (Cd rfl rfl) (sv rfl (Am rfl rfl) (Ar (ccI h rfl (fun h => ?_) (fun h => ?_)))))))))))))))
     ·refine Aq (Ab (sv rfl (Ao B4 rfl (.lp _ _ _ rfl) (Nbl rfl)) (Ax Em rfl rfl rfl rfl (Nbl rfl) (Bt [.box (EL.el a0), .box (EL.el a0), .box (EL.el v1.1)] rfl (Ar (Bj (As ?_)))))))
      obtain rfl := SJ h
      refine ⟨Or.inr rfl, _, _, _, (Ad (Bc.agg _ _ _ _ _ B4 rfl (.lp _ _ _ rfl) (Nbl rfl)) Af), (Aj rfl), ?_⟩
      rfl
     ·refine Bl (Ai ?_)
      exact ⟨(), _, h, ⟨rfl, rfl, rfl, rfl, trivial⟩, rfl⟩
  replace h := B0 (decide_eq_false hq23) h
  by_cases hq27 : a0.Phase = 9
  ·replace h := B1 (decide_eq_true hq27) h
   refine U6 18 (y := .s (.one (Ii6 a0.Phase))) (.s (.one (Ii6 9))) rfl (congrArg (fun n => AV.s (.one (Ii6 n))) hq27) ?_
   obtain ⟨v28, hv28, h⟩ := An h
   refine C2 (x' := .s (.one (.raw (.func (.func 105) #[] #[])))) (M' := [.box (EL.el a0), .box Zba, .box (EL.el v1.1)]) [] rfl Ak9 (.func _) (Ac rfl Al) (P6 hv28) rfl rfl (by decide) rfl rfl rfl ?_
   refine sv rfl (Ak rfl) (Ar (Aq (Aq (Ki (Unit) (fun b29 => [(2, .s (.one (.lp 0 0))), (4, .s (.one (.lp 1 0))), (5, .s (.one (.lp 2 0))), (7, .s (.one (.raw (.func (.func 105) #[] #[]))))]) (fun b29 => [.box (EL.el a0), .box Zba, .box (EL.el v1.1)]) (fun b29 => F6 a0 v1 b29 = some r) (fun _ _ => Bg rfl) (fun _ _ => A0 rfl) (fun _ _ => Nbl rfl) (fun b29 h => ?_) ?_))))
   ·unfold F6 at h
    refine Aq (Ab (sv rfl (Ah rfl) (sv rfl (Ao B4 rfl (.lp _ _ _ rfl) (Nbl rfl)) (sv rfl (Ao Abc rfl (.lp _ _ _ rfl) (Nbl rfl)) ?_))))
    obtain ⟨v30, hv30, h⟩ := An h
    refine sd rfl (Oa Ars (.raw _ _ rfl) (Ac rfl (Ac rfl Al)) rfl (N9 hv30)) (Ax Em rfl rfl rfl rfl (Nbl rfl) (Bt [.box (EL.el a0), .box (EL.el v30), .box (EL.el v1.1)] rfl (Ar (Bj ?_))))
    obtain rfl := SJ h
    refine ⟨Or.inr rfl, _, _, _, (Ad (Bc.agg _ _ _ _ _ B4 rfl (.lp _ _ _ rfl) (Nbl rfl)) Af), (Aj rfl), ?_⟩
    rfl
   ·skip
    refine Ab (sv rfl (Ah rfl) (sv rfl (Jh Tryz.underlying159 rfl) (sv rfl (Ah rfl) (son rfl rfl rfl (sv rfl (Aa P0 rfl) (son rfl rfl rfl (sv rfl (Ae ti3 rfl (.lp _ _ _ rfl) rfl) (son rfl rfl rfl (sv rfl (Aa Ji rfl) (son rfl rfl rfl (sv rfl (Aa Pw rfl) (son rfl rfl rfl (sv rfl (Ae ti3 rfl (.lp _ _ _ rfl) rfl) (son rfl rfl rfl (sv rfl (Cd rfl rfl) (sv rfl (Am rfl rfl) (sv rfl (Ah rfl) (Bq 30 rfl (fun hc => ?_) (fun hc => ?_)))))))))))))))))))
    ·replace h := B1 hc h
     clear hc
     refine Aw rfl rfl rfl rfl (Aw rfl rfl rfl rfl (Aw rfl rfl rfl rfl (Aw rfl rfl rfl rfl (Aw rfl rfl rfl rfl (Aw rfl rfl rfl rfl (sv rfl (Au rfl rfl) (Ar (Hy rfl (fun _ => ?_) (fun hx => Bool.noConfusion hx)))))))))
     refine Aq (Ab (sv rfl (Ao B4 rfl (.lp _ _ _ rfl) (Nbl rfl)) (Ax Em rfl rfl rfl rfl (Nbl rfl) (Bt [.box (EL.el a0), .box (EL.el a0), .box (EL.el v1.1)] rfl (Ar (Bj (As ?_)))))))
     obtain rfl := SJ h
     refine ⟨Or.inr rfl, _, _, _, (Ad (Bc.agg _ _ _ _ _ B4 rfl (.lp _ _ _ rfl) (Nbl rfl)) Af), (Aj rfl), ?_⟩
     rfl
    ·replace h := B0 hc h
     clear hc
     refine son rfl rfl rfl (sv rfl (Aa R8 rfl) (son rfl rfl rfl (sv rfl (Ae ti3 rfl (.lp _ _ _ rfl) rfl) (son rfl rfl rfl (sv rfl (Aa Ji rfl) (son rfl rfl rfl (sv rfl (Aa Qq rfl) (son rfl rfl rfl (sv rfl (Ae ti3 rfl (.lp _ _ _ rfl) rfl) (son rfl rfl rfl (sv rfl (Cd rfl rfl) (sv rfl (Am rfl rfl) (Ar (ccI h rfl (fun h => ?_) (fun h => ?_)))))))))))))))
     ·refine Aq (Ab (sv rfl (Ao B4 rfl (.lp _ _ _ rfl) (Nbl rfl)) (Ax Em rfl rfl rfl rfl (Nbl rfl) (Bt [.box (EL.el a0), .box (EL.el a0), .box (EL.el v1.1)] rfl (Ar (Bj (As ?_)))))))
      obtain rfl := SJ h
      refine ⟨Or.inr rfl, _, _, _, (Ad (Bc.agg _ _ _ _ _ B4 rfl (.lp _ _ _ rfl) (Nbl rfl)) Af), (Aj rfl), ?_⟩
      rfl
     ·refine Bl (Ai ?_)
      exact ⟨(), _, h, ⟨rfl, rfl, rfl, rfl, trivial⟩, rfl⟩
  replace h := B0 (decide_eq_false hq27) h
  obtain ⟨v31, hv31, h⟩ := An h
  refine C2 (x' := .s (.one Nfu)) (M' := [.box (EL.el a0), .box Zba, .box (EL.el v1.1)]) [] rfl Ak9 (.func _) (Ac rfl Al) (Qc hv31) rfl rfl (by decide) rfl rfl rfl ?_
  refine sv rfl (Ak rfl) (Ar (Aq (Aq (Ab (sv rfl (Ah rfl) (sv rfl (Ab3 Tryz.underlying159 rfl) (sv rfl (Ah rfl) (Aw rfl rfl rfl rfl (Aw rfl rfl rfl rfl (Aw rfl rfl rfl rfl (Aw rfl rfl rfl rfl (Aw rfl rfl rfl rfl (Aw rfl rfl rfl rfl (sv rfl (Au rfl rfl) (sv rfl (Ah rfl) (Aw rfl rfl rfl rfl (Aw rfl rfl rfl rfl (Aw rfl rfl rfl rfl (Aw rfl rfl rfl rfl (Aw rfl rfl rfl rfl (Aw rfl rfl rfl rfl (sv rfl (Au rfl rfl) (Ar (Hy rfl (fun _ => ?_) (fun hx => Bool.noConfusion hx)))))))))))))))))))))))))
  refine Aq (Ab (sv rfl (Ao B4 rfl (.lp _ _ _ rfl) (Nbl rfl)) (Ax Em rfl rfl rfl rfl (Nbl rfl) (Bt [.box (EL.el a0), .box (EL.el a0), .box (EL.el v1.1)] rfl (Ar (Bj (As ?_)))))))
  obtain rfl := SJ h
  refine ⟨Or.inr rfl, _, _, _, (Ad (Bc.agg _ _ _ _ _ B4 rfl (.lp _ _ _ rfl) (Nbl rfl)) Af), (Aj rfl), ?_⟩
  rfl
def Kg (v3 : Bn × (List (List UInt8)) × Int) (b4 : Ag) : Option Ag :=
 if (!decide (v3.2.2 = 0)) then ((Fp b4.Phase).bind fun v5 => if (!v5) then ((Cq b4).bind fun v6 => some v6) else (some b4)) else (some b4)
def El (v3 : Bn × (List (List UInt8)) × Int) (s7 : Int × Ag) : Option (LB (Int × Ag) (Ag)) :=
 if (decide (s7.1 < (v3.2.1.length : Int))) then ((idx v3.2.1 s7.1).bind fun u8 => (Fp s7.2.Phase).bind fun v9 => if (!v9) then ((Gb s7.2 u8).bind fun v10 => some (.cont ((wI (s7.1 + 1)), v10))) else (some (.cont ((wI (s7.1 + 1)), s7.2)))) else (some (.brk s7.2))
def Ht (a0 : Ag) (a1 : List UInt8) : Option Ag :=
 (Ex a0).bind fun v1 => if (!v1) then (some Cw) else ((Fp a0.Phase).bind fun v2 => if v2 then (some a0) else ((D7 a0.In a1).bind fun v3 => (Ez (El v3) fuel (0, {a0 with In := v3.1})).bind fun e11 => Kg v3 e11))
theorem M4 {a0 : Ag} {a1 : List UInt8} {r : Ag} (h : Ht a0 a1 = some r) : Bp Tryz.prog 18 [.agg (EL.el a0), .one (.sl a1.length (a1.flatMap eU8))] (· = .s (.agg (EL.el r))) := by
 unfold Ht at h
 refine A2 Tryz.func18 rfl (nt := 53) rfl (Nbl rfl) ?_
 intro w0 S0
 refine Aq (Ab (Je rfl rfl (Bz rfl Nc (Ar (Aq (Aq (Ab (sv rfl (Ao B4 rfl (.lp _ _ _ rfl) (Nbl rfl)) ?_))))))))
 obtain ⟨v1, hv1, h⟩ := An h
 refine A1 rfl Anm (Ac rfl Al) (Aj rfl) (Hp hv1) (sv rfl (B8 rfl) (Ar (ccI h rfl (fun h => ?_) (fun h => ?_))))
 ·refine Aq (Ab (sv rfl (Bk Nc Add A9 (.nil _)) (Ax Em rfl rfl rfl rfl (Nbl rfl) (Bt [.box (EL.el a0), .box Zba] rfl (Ar (Bj (As ?_)))))))
  obtain rfl := SJ h
  refine ⟨Or.inr rfl, _, _, _, (Ad (Bc.agg _ _ _ _ _ B4 rfl (.lp _ _ _ rfl) (Nbl rfl)) Af), (Nl rfl), ?_⟩
  rfl
 ·refine Bl (Ai (Aq (Aq (Ab (sv rfl (Aa F7 rfl) (sv rfl (Ae ti3 rfl (.lp _ _ _ rfl) rfl) ?_))))))
  obtain ⟨v2, hv2, h⟩ := An h
  refine A1 rfl Apo (Ac rfl Al) (Aj rfl) (I6 hv2) (Ar (ccI h rfl (fun h => ?_) (fun h => ?_)))
  ·refine Aq (Ab (sv rfl (Ao B4 rfl (.lp _ _ _ rfl) (Nbl rfl)) (Ax Em rfl rfl rfl rfl (Nbl rfl) (Bt [.box (EL.el a0), .box (EL.el a0)] rfl (Ar (Bj (As ?_)))))))
   obtain rfl := SJ h
   refine ⟨Or.inr rfl, _, _, _, (Ad (Bc.agg _ _ _ _ _ B4 rfl (.lp _ _ _ rfl) (Nbl rfl)) Af), (Aj rfl), ?_⟩
   rfl
  ·refine Bl (Ai (Aq (Ab (sv rfl (Aa Ws rfl) (sv rfl (Ao Ah0 rfl (.lp _ _ _ rfl) (Nbl rfl)) (sv rfl (Ah rfl) ?_))))))
   obtain ⟨v3, hv3, h⟩ := An h
   refine A1 rfl Av6 (Ac rfl (Ac rfl Al)) (Aj rfl) (T2 hv3) (sv rfl (Fs rfl) (sv rfl (A7 rfl rfl) (sv rfl (A7 rfl rfl) (sv rfl (A7 rfl rfl) (Bz rfl Anl (Ax Alx rfl rfl rfl rfl (Nbl rfl) (Bt [.box (EL.el a0), .box Zba, .box (EL.el v3.1)] rfl (sv rfl (Ak rfl) (sv rfl (Ak rfl) (Ar (Aq (Ab (sv rfl (Ao Ah0 rfl (.lp _ _ _ rfl) (Nbl rfl)) (sv rfl (Aa Ws rfl) (Ax Alx rfl rfl rfl rfl (Nbl rfl) (Bt [.box (EL.el {a0 with In := v3.1}), .box Zba, .box (EL.el v3.1)] rfl (Ar (Aq (Aq (Ab (sv rfl (Ah rfl) (sv rfl (Az Adz rfl) (sv rfl (Ah rfl) (Ar (G5 (Ag) (fun b4 => [(2, .s (.one (.lp 0 0))), (4, .s (.one (.lp 1 0))), (7, .s (.one (Ii6 v3.2.2)))]) (fun b4 => [.box (EL.el b4), .box Zba, .box (EL.el v3.1)]) (fun b4 => Kg v3 b4 = some r) (fun _ _ => Bg rfl) (fun _ _ => A0 rfl) (fun _ _ => Nbl rfl) (fun b4 h => ?_) ?_)))))))))))))))))))))))))
   ·unfold Kg at h
    refine Aq (Aq (Ab (sv rfl (Ah rfl) (sv rfl (Cd rfl rfl) (sv rfl (Ah rfl) (Bq 44 rfl (fun hc => ?_) (fun hc => ?_)))))))
    ·replace h := B1 hc h
     clear hc
     refine son rfl rfl rfl (sv rfl (Aa F7 rfl) (son rfl rfl rfl (sv rfl (Ae ti3 rfl (.lp _ _ _ rfl) rfl) (son rfl rfl rfl ?_))))
     obtain ⟨v5, hv5, h⟩ := An h
     refine A1 rfl Apo (Ac rfl Al) (Aj rfl) (I6 hv5) (son rfl rfl rfl (sv rfl (B8 rfl) (sv rfl (Au rfl rfl) (Ar (ccI h rfl (fun h => ?_) (fun h => ?_))))))
     ·refine Ab (sv rfl (Ao B4 rfl (.lp _ _ _ rfl) (Nbl rfl)) ?_)
      obtain ⟨v6, hv6, h⟩ := An h
      refine A1 rfl Apb (Ac rfl Al) (Aj rfl) (Fa hv6) (Ax Em rfl rfl rfl rfl (Nbl rfl) (Bt [.box (EL.el v6), .box Zba, .box (EL.el v3.1)] rfl (Ar (Aq (Ab (sv rfl (Ao B4 rfl (.lp _ _ _ rfl) (Nbl rfl)) (Ax Em rfl rfl rfl rfl (Nbl rfl) (Bt [.box (EL.el v6), .box (EL.el v6), .box (EL.el v3.1)] rfl (Ar (Bj ?_))))))))))
      obtain rfl := SJ h
      refine ⟨Or.inr rfl, _, _, _, (Ad (Bc.agg _ _ _ _ _ B4 rfl (.lp _ _ _ rfl) (Nbl rfl)) Af), (Aj rfl), ?_⟩
      rfl
     ·refine Bl (Ai (Aq (Ab (sv rfl (Ao B4 rfl (.lp _ _ _ rfl) (Nbl rfl)) (Ax Em rfl rfl rfl rfl (Nbl rfl) (Bt [.box (EL.el b4), .box (EL.el b4), .box (EL.el v3.1)] rfl (Ar (Bj ?_))))))))
      obtain rfl := SJ h
      refine ⟨Or.inr rfl, _, _, _, (Ad (Bc.agg _ _ _ _ _ B4 rfl (.lp _ _ _ rfl) (Nbl rfl)) Af), (Aj rfl), ?_⟩
      rfl
    ·replace h := B0 hc h
     clear hc
     refine Aw rfl rfl rfl rfl (Aw rfl rfl rfl rfl (Aw rfl rfl rfl rfl (Aw rfl rfl rfl rfl (sv rfl (Am rfl rfl) (Ar (Hy rfl (fun hx => Bool.noConfusion hx) (fun _ => ?_)))))))
     refine Bl (Ai (Aq (Ab (sv rfl (Ao B4 rfl (.lp _ _ _ rfl) (Nbl rfl)) (Ax Em rfl rfl rfl rfl (Nbl rfl) (Bt [.box (EL.el b4), .box (EL.el b4), .box (EL.el v3.1)] rfl (Ar (Bj ?_))))))))
     obtain rfl := SJ h
     refine ⟨Or.inr rfl, _, _, _, (Ad (Bc.agg _ _ _ _ _ B4 rfl (.lp _ _ _ rfl) (Nbl rfl)) Af), (Aj rfl), ?_⟩
     rfl
   ·skip
    refine Ca ?_
    obtain ⟨x7, hx7, ho7⟩ := An h
    refine De (G := Nat × (Int × Ag)) (fun g => [(2, .s (.one (.lp 0 0))), (4, .s (.one (.lp 1 0))), (7, .s (.one (Ii6 v3.2.2))), (28, .s (.one (.sl v3.2.1.length (v3.2.1.flatMap (eL eU8))))), (29, .s (.one (Ii6 (v3.2.1.length : Int)))), (30, .s (.one (Ii6 g.2.1)))]) (fun g => [.box (EL.el g.2.2), .box Zba, .box (EL.el v3.1)]) (fun g => Ez (El v3) g.1 g.2 = some x7) (fun g => g.1) (fuel, (0, {a0 with In := v3.1})) hx7 ⟨rfl, rfl, rfl, rfl, rfl, rfl, trivial⟩ [] rfl (fun _ _ => Bg rfl) (fun _ _ => A0 rfl) (fun _ _ => Nbl rfl) ?_
    clear hx7 h
    rintro ⟨n7, s7⟩ h
    obtain ⟨n7, y7, rfl, h, hk7⟩ := Gp h
    unfold El at h
    refine Aq (Ab (sv rfl (Cs rfl rfl) (Ar (Aq (ccI h rfl (fun h => ?_) (fun h => ?_))))))
    ·refine Bl (Ai (Aq (Ca (Aq (Ab ?_)))))
     obtain ⟨u8, hu8, h⟩ := An h
     refine sv rfl (Fm (f := (eL eU8)) Adz (fun _ => rfl) rfl rfl rfl rfl hu8) ?_
     refine sv rfl (Ae L2 rfl (.cp _) rfl) (sv rfl (Ak rfl) (Ar (Aq (Ab (sv rfl (Aa F7 rfl) (sv rfl (Ae ti3 rfl (.lp _ _ _ rfl) rfl) ?_))))))
     obtain ⟨v9, hv9, h⟩ := An h
     refine A1 rfl Apo (Ac rfl Al) (Aj rfl) (I6 hv9) (sv rfl (B8 rfl) (Ar (ccI h rfl (fun h => ?_) (fun h => ?_))))
     ·refine Ab (sv rfl (Ao B4 rfl (.lp _ _ _ rfl) (Nbl rfl)) (sv rfl (Ah rfl) ?_))
      obtain ⟨v10, hv10, h⟩ := An h
      refine A1 rfl Avw (Ac rfl (Ac rfl Al)) (Aj rfl) (Pe hv10) (Ax Em rfl rfl rfl rfl (Nbl rfl) (Bt [.box (EL.el v10), .box Zba, .box (EL.el v3.1)] rfl (Ls (A5 (Ai (Ab (sv rfl (B9 rfl rfl) (sv rfl (Ah rfl) (Ar ?_)))))))))
      obtain rfl := SJ h
      exact ⟨(n7, ((wI (s7.1 + 1)), v10)), _, hk7, ⟨rfl, rfl, rfl, rfl, rfl, rfl, trivial⟩, rfl, Nat.lt_succ_self _⟩
     ·refine Bl (A5 (Ai (Ab (sv rfl (B9 rfl rfl) (sv rfl (Ah rfl) (Ar ?_))))))
      obtain rfl := SJ h
      exact ⟨(n7, ((wI (s7.1 + 1)), s7.2)), _, hk7, ⟨rfl, rfl, rfl, rfl, rfl, rfl, trivial⟩, rfl, Nat.lt_succ_self _⟩
    ·refine Lw (Bi (Bi (Ck (Ai ?_))))
     obtain rfl := SJ h
     obtain rfl : _ = x7 := hk7
     exact ⟨s7.2, _, ho7, ⟨rfl, rfl, rfl, trivial⟩, rfl⟩
def N0 (v2 : Ag × Int) (v3 : Ag × Int) (v4 : Ag × Int) (b5 : Ag) : Option Bool :=
 if (decide (v2.2 = 0)) then (if (decide (v3.2 = 0)) then (if (decide (v4.2 = 0)) then (if (decide ((b5.Done.length : Int) = 1)) then ((idx b5.Done 0).bind fun u6 => if (decide (u6.Code = 1)) then ((idx b5.Done 0).bind fun u7 => if (decide (u7.Ts = 5)) then (if (decide (b5.Phase = 9)) then (some (decide ((b5.Tried.length : Int) = 1))) else (some false)) else (some false)) else (some false)) else (some false)) else (some false)) else (some false)) else (some false)
def N2 (s8 : Int × Ag) : Option (LB (Int × Ag) (Ag)) :=
 if (decide (s8.1 < 4)) then ((F0 s8.2 (Hx.mk 0 0 0 5 false ([] : List UInt8) ([] : List C9))).bind fun v9 => (Ht s8.2 v9).bind fun v10 => some (.cont ((wI (s8.1 + 1)), v10))) else (some (.brk s8.2))
def Ok  : Option Bool :=
 (Nf).bind fun v1 => (K6 v1).bind fun v2 => (Dn v2.1).bind fun v3 => (Dh v3.1 (Av.mk 9 (Co.mk false [(B5.mk 2 0 0 0 [(UInt8.ofBitVec (107#8))] Bs)]))).bind fun v4 => (Ez N2 fuel (0, v4.1)).bind fun e11 => N0 v2 v3 v4 e11
theorem Xe  {r : Bool} (h : Ok = some r) : Bp Tryz.prog 7 [] (· = .s (.one (.b r))) := by
 unfold Ok at h
 refine A2 Tryz.func7 rfl (nt := 79) rfl (Nbl rfl) ?_
 intro w0 S0
 refine Aq (Ab (sv rfl (Ak rfl) (Ar (Aq (Ab ?_)))))
 obtain ⟨v1, hv1, h⟩ := An h
 refine A1 rfl Atk Al (Aj rfl) (R9 hv1) ?_
 obtain ⟨v2, hv2, h⟩ := An h
 refine A1 rfl fn9 (Ac rfl Al) (Aj rfl) (Qm hv2) (sv rfl (Fs rfl) (sv rfl (A7 rfl rfl) (sv rfl (A7 rfl rfl) (Bz rfl Nc (Ax Em rfl rfl rfl rfl (Nbl rfl) (Bt [.box (EL.el v2.1)] rfl (sv rfl (Ak rfl) (Ar (Aq (Ab (sv rfl (Ao B4 rfl (.lp _ _ _ rfl) (Nbl rfl)) ?_)))))))))))
 obtain ⟨v3, hv3, h⟩ := An h
 refine A1 rfl Arf (Ac rfl Al) (Aj rfl) (Kb hv3) (sv rfl (Fs rfl) (sv rfl (A7 rfl rfl) (sv rfl (A7 rfl rfl) (Ax Em rfl rfl rfl rfl (Nbl rfl) (Bt [.box (EL.el v3.1)] rfl (sv rfl (Ak rfl) (Ar (Aq (Ab (sv rfl (Ao B4 rfl (.lp _ _ _ rfl) (Nbl rfl)) ?_))))))))))
 refine Qy rfl Tryz.underlying33 ei5 rfl rfl (List.all_eq_true.1 rfl) (by decide) ?_
 refine Bt [.box (EL.el v3.1), .arr 5 1 0 ([(UInt8.ofBitVec (107#8))].flatMap eU8)] rfl ?_
 refine Aj0 rfl Tryz.underlying33 Tryz.underlying5 rfl rfl (Bf (f := eU8) (fun _ => rfl) [(UInt8.ofBitVec (107#8))]).symm (by decide) ?_
 refine sv rfl (Bk Aps Att (Ap rfl (Ap rfl A9)) (.cons _ _ _ _ _ _ _ rfl rfl (Nbl rfl) (.cons _ _ _ _ _ _ _ rfl rfl (Nbl rfl) (.nil _)))) ?_
 refine Zf 20 rfl (by (repeat' first | exact J8.nil _ | apply J8.cons | apply Jv.one | apply Jv.agg | exact E4.nil | exact E4.id _ rfl | exact D2.nil _ | apply D2.cons)) ?_
 refine Qy rfl Tryz.underlying90 Ar4 rfl rfl (List.all_eq_true.1 rfl) (by decide) ?_
 refine Bt [.box (EL.el v3.1), .dead, .arr 89 8 0 ([(B5.mk 2 0 0 0 [(UInt8.ofBitVec (107#8))] Bs)].flatMap Cf)] rfl (sv rfl (Bk Aqs Aue (Ap rfl A9) (.cons _ _ _ _ _ _ _ rfl rfl (Nbl rfl) (.nil _))) (sv rfl (Bk Anv Aua (Ap rfl (Ap rfl A9)) (.cons _ _ _ _ _ _ _ rfl rfl (Nbl rfl) (.cons _ _ _ _ _ _ _ rfl rfl (Nbl rfl) (.nil _)))) ?_))
 refine Zf 23 rfl (by (repeat' first | exact J8.nil _ | apply J8.cons | apply Jv.one | apply Jv.agg | exact E4.nil | exact E4.ls _ _ _ _ _ _ rfl (Bf (f := Cf) (fun _ => rfl) ([(B5.mk 2 0 0 0 [(UInt8.ofBitVec (107#8))] Bs)] : List B5)).symm | exact E4.ls _ _ _ _ _ _ rfl (Bf (f := Cf) (fun _ => rfl) _).symm | exact E4.id _ rfl | exact D2.nil _ | apply D2.cons)) ?_
 obtain ⟨v4, hv4, h⟩ := An h
 refine A1 rfl Atn (Ac rfl (Ac rfl Al)) (Aj rfl) (Oc hv4) (sv rfl (Fs rfl) (sv rfl (A7 rfl rfl) (sv rfl (A7 rfl rfl) (Ax Em rfl rfl rfl rfl (Nbl rfl) (Bt [.box (EL.el v4.1), .dead, .arr 89 8 ([(B5.mk 2 0 0 0 [(UInt8.ofBitVec (107#8))] Bs)].flatMap Cf).length ([(B5.mk 2 0 0 0 [(UInt8.ofBitVec (107#8))] Bs)].flatMap Cf)] rfl (sv rfl (Ak rfl) (Ar (Aq (Aq (Ab (sv rfl (Ak rfl) (Ar (G5 (Ag) (fun b5 => [(1, .s (.one (.lp 0 0))), (2, .s (.one (Ii6 v2.2))), (3, .s (.one (Ii6 v3.2))), (4, .s (.one (Ii6 v4.2)))]) (fun b5 => [.box (EL.el b5), .dead, .arr 89 8 ([(B5.mk 2 0 0 0 [(UInt8.ofBitVec (107#8))] Bs)].flatMap Cf).length ([(B5.mk 2 0 0 0 [(UInt8.ofBitVec (107#8))] Bs)].flatMap Cf)]) (fun b5 => N0 v2 v3 v4 b5 = some r) (fun _ _ => Bg rfl) (fun _ _ => A0 rfl) (fun _ _ => Nbl rfl) (fun b5 h => ?_) ?_)))))))))))))
 ·unfold N0 at h
  refine Aq (Ab (sv rfl (Ah rfl) (sv rfl (Bo rfl rfl) (sv rfl (Ah rfl) (Bq 38 rfl (fun hc => ?_) (fun hc => ?_))))))
  ·replace h := B1 hc h
   clear hc
   refine son rfl rfl rfl (sv rfl (Ah rfl) (son rfl rfl rfl (sv rfl (Bo rfl rfl) (sv rfl (Au rfl rfl) (sv rfl (Ah rfl) (Bq 42 rfl (fun hc => ?_) (fun hc => ?_)))))))
   ·replace h := B1 hc h
    clear hc
    refine son rfl rfl rfl (sv rfl (Ah rfl) (son rfl rfl rfl (sv rfl (Bo rfl rfl) (sv rfl (Au rfl rfl) (sv rfl (Ah rfl) (Bq 46 rfl (fun hc => ?_) (fun hc => ?_)))))))
    ·replace h := B1 hc h
     clear hc
     refine son rfl rfl rfl (sv rfl (Aa Vt rfl) (son rfl rfl rfl (sv rfl (Ae Ant rfl (.lp _ _ _ rfl) rfl) (son rfl rfl rfl (sv rfl (Az Ahv rfl) (son rfl rfl rfl (sv rfl (Bo rfl rfl) (sv rfl (Au rfl rfl) (sv rfl (Ah rfl) (Bq 52 rfl (fun hc => ?_) (fun hc => ?_)))))))))))
     ·replace h := B1 hc h
      clear hc
      refine son rfl rfl rfl (sv rfl (Aa Vt rfl) (son rfl rfl rfl (sv rfl (Ae Ant rfl (.lp _ _ _ rfl) rfl) (son rfl rfl rfl ?_))))
      obtain ⟨u6, hu6, h⟩ := An h
      refine sv rfl (Fm (f := A8) Ahv (fun _ => rfl) rfl rfl rfl rfl hu6) ?_
      refine son rfl rfl rfl (sv rfl (B2 Aoj rfl) (son rfl rfl rfl (sv rfl (Ae ti3 rfl (.cp _) rfl) (son rfl rfl rfl (sv rfl (Bo rfl rfl) (sv rfl (Au rfl rfl) (sv rfl (Ah rfl) (Bq 60 rfl (fun hc => ?_) (fun hc => ?_)))))))))
      ·replace h := B1 hc h
       clear hc
       refine son rfl rfl rfl (sv rfl (Aa Vt rfl) (son rfl rfl rfl (sv rfl (Ae Ant rfl (.lp _ _ _ rfl) rfl) (son rfl rfl rfl ?_))))
       obtain ⟨u7, hu7, h⟩ := An h
       refine sv rfl (Fm (f := A8) Ahv (fun _ => rfl) rfl rfl rfl rfl hu7) ?_
       refine son rfl rfl rfl (sv rfl (B2 Aog rfl) (son rfl rfl rfl (sv rfl (Ae ti3 rfl (.cp _) rfl) (son rfl rfl rfl (sv rfl (Bo rfl rfl) (sv rfl (Au rfl rfl) (sv rfl (Ah rfl) (Bq 68 rfl (fun hc => ?_) (fun hc => ?_)))))))))
       ·replace h := B1 hc h
        clear hc
        refine son rfl rfl rfl (sv rfl (Aa F7 rfl) (son rfl rfl rfl (sv rfl (Ae ti3 rfl (.lp _ _ _ rfl) rfl) (son rfl rfl rfl (sv rfl (Bo rfl rfl) (sv rfl (Au rfl rfl) (sv rfl (Ah rfl) (Bq 73 rfl (fun hc => ?_) (fun hc => ?_)))))))))
        ·replace h := B1 hc h
         clear hc
         refine son rfl rfl rfl (sv rfl (Aa Abn rfl) (son rfl rfl rfl (sv rfl (Ae Aqx rfl (.lp _ _ _ rfl) rfl) (son rfl rfl rfl (sv rfl (Az Ak0 rfl) (son rfl rfl rfl (sv rfl (Bo rfl rfl) (sv rfl (Au rfl rfl) (sv rfl (Ak rfl) (Ar (Bj ?_)))))))))))
         obtain rfl := SJ h
         refine ⟨Or.inr rfl, _, _, _, (Ad (Bc.tmp _ _ rfl) Af), (Aj rfl), ?_⟩
         rfl
        ·replace h := B0 hc h
         clear hc
         refine Aw rfl rfl rfl rfl (Aw rfl rfl rfl rfl (Aw rfl rfl rfl rfl (Aw rfl rfl rfl rfl (sv rfl (Am rfl rfl) (sv rfl (Ak rfl) (Ar (Bj ?_)))))))
         obtain rfl := SJ h
         refine ⟨Or.inr rfl, _, _, _, (Ad (Bc.tmp _ _ rfl) Af), (Aj rfl), ?_⟩
         rfl
       ·replace h := B0 hc h
        clear hc
        refine Aw rfl rfl rfl rfl (Aw rfl rfl rfl rfl (Aw rfl rfl rfl rfl (sv rfl (Am rfl rfl) (sv rfl (Ah rfl) (Aw rfl rfl rfl rfl (Aw rfl rfl rfl rfl (Aw rfl rfl rfl rfl (Aw rfl rfl rfl rfl (sv rfl (Am rfl rfl) (sv rfl (Ak rfl) (Ar (Bj ?_))))))))))))
        obtain rfl := SJ h
        refine ⟨Or.inr rfl, _, _, _, (Ad (Bc.tmp _ _ rfl) Af), (Aj rfl), ?_⟩
        rfl
      ·replace h := B0 hc h
       clear hc
       refine Aw rfl rfl rfl rfl (Aw rfl rfl rfl rfl (Aw rfl rfl rfl rfl (Aw rfl rfl rfl rfl (Aw rfl rfl rfl rfl (Aw rfl rfl rfl rfl (sv rfl (Am rfl rfl) (sv rfl (Ah rfl) (Aw rfl rfl rfl rfl (Aw rfl rfl rfl rfl (Aw rfl rfl rfl rfl (sv rfl (Am rfl rfl) (sv rfl (Ah rfl) (Aw rfl rfl rfl rfl (Aw rfl rfl rfl rfl (Aw rfl rfl rfl rfl (Aw rfl rfl rfl rfl (sv rfl (Am rfl rfl) (sv rfl (Ak rfl) (Ar (Bj ?_))))))))))))))))))))
       obtain rfl := SJ h
       refine ⟨Or.inr rfl, _, _, _, (Ad (Bc.tmp _ _ rfl) Af), (Aj rfl), ?_⟩
       rfl
     ·replace h := B0 hc h
      clear hc
      refine Aw rfl rfl rfl rfl (Aw rfl rfl rfl rfl (Aw rfl rfl rfl rfl (Aw rfl rfl rfl rfl (Aw rfl rfl rfl rfl (Aw rfl rfl rfl rfl (sv rfl (Am rfl rfl) (sv rfl (Ah rfl) (Aw rfl rfl rfl rfl (Aw rfl rfl rfl rfl (Aw rfl rfl rfl rfl (Aw rfl rfl rfl rfl (Aw rfl rfl rfl rfl (Aw rfl rfl rfl rfl (sv rfl (Am rfl rfl) (sv rfl (Ah rfl) (Aw rfl rfl rfl rfl (Aw rfl rfl rfl rfl (Aw rfl rfl rfl rfl (sv rfl (Am rfl rfl) (sv rfl (Ah rfl) (Aw rfl rfl rfl rfl (Aw rfl rfl rfl rfl (Aw rfl rfl rfl rfl (Aw rfl rfl rfl rfl (sv rfl (Am rfl rfl) (sv rfl (Ak rfl) (Ar (Bj ?_))))))))))))))))))))))))))))
      obtain rfl := SJ h
      refine ⟨Or.inr rfl, _, _, _, (Ad (Bc.tmp _ _ rfl) Af), (Aj rfl), ?_⟩
      rfl
    ·replace h := B0 hc h
     clear hc
     refine Aw rfl rfl rfl rfl (Aw rfl rfl rfl rfl (Aw rfl rfl rfl rfl (Aw rfl rfl rfl rfl (sv rfl (Am rfl rfl) (sv rfl (Ah rfl) (Aw rfl rfl rfl rfl (Aw rfl rfl rfl rfl (Aw rfl rfl rfl rfl (Aw rfl rfl rfl rfl (Aw rfl rfl rfl rfl (Aw rfl rfl rfl rfl (sv rfl (Am rfl rfl) (sv rfl (Ah rfl) (Aw rfl rfl rfl rfl (Aw rfl rfl rfl rfl (Aw rfl rfl rfl rfl (Aw rfl rfl rfl rfl (Aw rfl rfl rfl rfl (Aw rfl rfl rfl rfl (sv rfl (Am rfl rfl) (sv rfl (Ah rfl) (Aw rfl rfl rfl rfl (Aw rfl rfl rfl rfl (Aw rfl rfl rfl rfl (sv rfl (Am rfl rfl) (sv rfl (Ah rfl) (Aw rfl rfl rfl rfl (Aw rfl rfl rfl rfl (Aw rfl rfl rfl rfl (Aw rfl rfl rfl rfl (sv rfl (Am rfl rfl) (sv rfl (Ak rfl) (Ar (Bj ?_))))))))))))))))))))))))))))))))))
     obtain rfl := SJ h
     refine ⟨Or.inr rfl, _, _, _, (Ad (Bc.tmp _ _ rfl) Af), (Aj rfl), ?_⟩
     rfl
   ·replace h := B0 hc h
    clear hc
    refine Aw rfl rfl rfl rfl (Aw rfl rfl rfl rfl (sv rfl (Am rfl rfl) (sv rfl (Ah rfl) (Aw rfl rfl rfl rfl (Aw rfl rfl rfl rfl (Aw rfl rfl rfl rfl (Aw rfl rfl rfl rfl (sv rfl (Am rfl rfl) (sv rfl (Ah rfl) (Aw rfl rfl rfl rfl (Aw rfl rfl rfl rfl (Aw rfl rfl rfl rfl (Aw rfl rfl rfl rfl (Aw rfl rfl rfl rfl (Aw rfl rfl rfl rfl (sv rfl (Am rfl rfl) (sv rfl (Ah rfl) (Aw rfl rfl rfl rfl (Aw rfl rfl rfl rfl (Aw rfl rfl rfl rfl (Aw rfl rfl rfl rfl (Aw rfl rfl rfl rfl (Aw rfl rfl rfl rfl (sv rfl (Am rfl rfl) (sv rfl (Ah rfl) (Aw rfl rfl rfl rfl (Aw rfl rfl rfl rfl (Aw rfl rfl rfl rfl (sv rfl (Am rfl rfl) (sv rfl (Ah rfl) (Aw rfl rfl rfl rfl (Aw rfl rfl rfl rfl (Aw rfl rfl rfl rfl (Aw rfl rfl rfl rfl (sv rfl (Am rfl rfl) (sv rfl (Ak rfl) (Ar (Bj ?_))))))))))))))))))))))))))))))))))))))
    obtain rfl := SJ h
    refine ⟨Or.inr rfl, _, _, _, (Ad (Bc.tmp _ _ rfl) Af), (Aj rfl), ?_⟩
    rfl
  ·replace h := B0 hc h
   clear hc
   refine Aw rfl rfl rfl rfl (Aw rfl rfl rfl rfl (sv rfl (Am rfl rfl) (sv rfl (Ah rfl) (Aw rfl rfl rfl rfl (Aw rfl rfl rfl rfl (sv rfl (Am rfl rfl) (sv rfl (Ah rfl) (Aw rfl rfl rfl rfl (Aw rfl rfl rfl rfl (Aw rfl rfl rfl rfl (Aw rfl rfl rfl rfl (sv rfl (Am rfl rfl) (sv rfl (Ah rfl) (Aw rfl rfl rfl rfl (Aw rfl rfl rfl rfl (Aw rfl rfl rfl rfl (Aw rfl rfl rfl rfl (Aw rfl rfl rfl rfl (Aw rfl rfl rfl rfl (sv rfl (Am rfl rfl) (sv rfl (Ah rfl) (Aw rfl rfl rfl rfl (Aw rfl rfl rfl rfl (Aw rfl rfl rfl rfl (Aw rfl rfl rfl rfl (Aw rfl rfl rfl rfl (Aw rfl rfl rfl rfl (sv rfl (Am rfl rfl) (sv rfl (Ah rfl) (Aw rfl rfl rfl rfl (Aw rfl rfl rfl rfl (Aw rfl rfl rfl rfl (sv rfl (Am rfl rfl) (sv rfl (Ah rfl) (Aw rfl rfl rfl rfl (Aw rfl rfl rfl rfl (Aw rfl rfl rfl rfl (Aw rfl rfl rfl rfl (sv rfl (Am rfl rfl) (sv rfl (Ak rfl) (Ar (Bj ?_))))))))))))))))))))))))))))))))))))))))))
   obtain rfl := SJ h
   refine ⟨Or.inr rfl, _, _, _, (Ad (Bc.tmp _ _ rfl) Af), (Aj rfl), ?_⟩
   rfl
 ·skip
  refine Ca ?_
  obtain ⟨x8, hx8, ho8⟩ := An h
  refine De (G := Nat × (Int × Ag)) (fun g => [(1, .s (.one (.lp 0 0))), (2, .s (.one (Ii6 v2.2))), (3, .s (.one (Ii6 v3.2))), (4, .s (.one (Ii6 v4.2))), (5, .s (.one (Ii6 g.2.1)))]) (fun g => [.box (EL.el g.2.2), .dead, .arr 89 8 ([(B5.mk 2 0 0 0 [(UInt8.ofBitVec (107#8))] Bs)].flatMap Cf).length ([(B5.mk 2 0 0 0 [(UInt8.ofBitVec (107#8))] Bs)].flatMap Cf)]) (fun g => Ez N2 g.1 g.2 = some x8) (fun g => g.1) (fuel, (0, v4.1)) hx8 ⟨rfl, rfl, rfl, rfl, rfl, trivial⟩ [] rfl (fun _ _ => Bg rfl) (fun _ _ => A0 rfl) (fun _ _ => Nbl rfl) ?_
  clear hx8 h
  rintro ⟨n8, s8⟩ h
  obtain ⟨n8, y8, rfl, h, hk8⟩ := Gp h
  unfold N2 at h
  refine Aq (Aq (Ab (sv rfl (Ah rfl) (sv rfl (Cs rfl rfl) (Ar (ccI h rfl (fun h => ?_) (fun h => ?_)))))))
  ·refine Bl (Ai (Aq (Ca ?_)))
   obtain ⟨v9, hv9, h⟩ := An h
   obtain ⟨v10, hv10, h⟩ := An h
   refine Jq [5] [0, 0, 0, 6, 15, 31] [[.box (EL.el s8.2), .dead, .arr 89 8 ([(B5.mk 2 0 0 0 [(UInt8.ofBitVec (107#8))] Bs)].flatMap Cf).length ([(B5.mk 2 0 0 0 [(UInt8.ofBitVec (107#8))] Bs)].flatMap Cf)], [.box (EL.el v10), .dead, .arr 89 8 ([(B5.mk 2 0 0 0 [(UInt8.ofBitVec (107#8))] Bs)].flatMap Cf).length ([(B5.mk 2 0 0 0 [(UInt8.ofBitVec (107#8))] Bs)].flatMap Cf)]] (by kernel_rfl) Lz (by kernel_rfl) (by decide) rfl rfl rfl rfl ?_
   refine ev (Bh 0 rfl rfl) rfl rfl (Ao B4 rfl (.lp _ _ _ rfl) (Nbl rfl)) (ev (Bh 0 rfl rfl) rfl rfl (Ao B4 rfl (.lp _ _ _ rfl) (Nbl rfl)) (ev (Bh 0 rfl rfl) rfl rfl (Bk Au5 Avx (Ap rfl A9) (.cons _ _ _ _ _ _ _ rfl rfl (Nbl rfl) (.nil _))) (ed (Bh 0 rfl rfl) rfl rfl (Tw Ats (Ac rfl (Ac rfl Al)) rfl (Oo hv9)) (ed (Bh 0 rfl rfl) rfl rfl (Dy Arg (Ac rfl (Ac rfl Al)) rfl (M4 hv10)) (ee0 0 rfl rfl rfl rfl (fun ζ => ?_) ?_)))))
   ·refine Ax Em rfl rfl rfl rfl (Nbl rfl) (Bt [.box (EL.el v10), .dead, .arr 89 8 ([(B5.mk 2 0 0 0 [(UInt8.ofBitVec (107#8))] Bs)].flatMap Cf).length ([(B5.mk 2 0 0 0 [(UInt8.ofBitVec (107#8))] Bs)].flatMap Cf)] rfl ?_)
    exact Rq
   refine Ys (A5 (Ai (Ab (sv rfl (Ah rfl) (sv rfl (B9 rfl rfl) (sv rfl (Ak rfl) (Ar ?_)))))))
   obtain rfl := SJ h
   exact ⟨(n8, ((wI (s8.1 + 1)), v10)), _, hk8, ⟨rfl, rfl, rfl, rfl, rfl, trivial⟩, rfl, Nat.lt_succ_self _⟩
  ·refine Lw (Bi (Bi (Ck (Ai ?_))))
   obtain rfl := SJ h
   obtain rfl : _ = x8 := hk8
   exact ⟨s8.2, _, ho8, ⟨rfl, rfl, rfl, rfl, trivial⟩, rfl⟩
def Jk (a0 : B7) : Option Bool :=
 if (decide ((a0.Lo.length : Int) ≤ 100)) then (some (decide ((a0.Hi.length : Int) ≤ 100))) else (some false)
theorem V8 {a0 : B7} {r : Bool} (h : Jk a0 = some r) : Bp Tryz.prog 57 [.agg (EL.el a0)] (· = .s (.one (.b r))) := by
 unfold Jk at h
 refine A2 Tryz.func57 rfl (nt := 13) rfl (Nbl rfl) ?_
 intro w0 S0
 refine Aq (Ab (Je rfl rfl (sv rfl (Ak rfl) (Ar (Aq (Ab (sv rfl (Aa Ti rfl) (sv rfl (Ae L2 rfl (.lp _ _ _ rfl) rfl) (sv rfl (Az Lc rfl) (sv rfl (F1 rfl rfl) (sv rfl (Ah rfl) (Bq 7 rfl (fun hc => ?_) (fun hc => ?_)))))))))))))
 ·replace h := B1 hc h
  clear hc
  refine son rfl rfl rfl (sv rfl (Aa Qv rfl) (son rfl rfl rfl (sv rfl (Ae L2 rfl (.lp _ _ _ rfl) rfl) (son rfl rfl rfl (sv rfl (Az Lc rfl) (son rfl rfl rfl (sv rfl (F1 rfl rfl) (sv rfl (Au rfl rfl) (sv rfl (Ak rfl) (Ar (Bj ?_)))))))))))
  obtain rfl := SJ h
  refine ⟨Or.inr rfl, _, _, _, (Ad (Bc.tmp _ _ rfl) Af), (Aj rfl), ?_⟩
  rfl
 ·replace h := B0 hc h
  clear hc
  refine Aw rfl rfl rfl rfl (Aw rfl rfl rfl rfl (Aw rfl rfl rfl rfl (Aw rfl rfl rfl rfl (sv rfl (Am rfl rfl) (sv rfl (Ak rfl) (Ar (Bj ?_)))))))
  obtain rfl := SJ h
  refine ⟨Or.inr rfl, _, _, _, (Ad (Bc.tmp _ _ rfl) Af), (Aj rfl), ?_⟩
  rfl
def O0 (b1 : Unit) : Option Bool :=
 some true
def J4 (a0 : Iz) (s2 : Int) : Option (LR (Int) (Unit) (Bool)) :=
 if (decide (s2 < (a0.Ops.length : Int))) then ((idx a0.Ops s2).bind fun u3 => if (decide (50 < (u3.Key.length : Int))) then (some (.ret false)) else ((idx a0.Ops s2).bind fun u4 => (Jk u4.Rng).bind fun v5 => if (!v5) then (some (.ret false)) else (some (.cont (wI (s2 + 1)))))) else (some (.brk ()))
def L6 (a0 : Iz) : Option Bool :=
 if (decide (40 < (a0.Ops.length : Int))) then (some false) else ((Rv (J4 a0) fuel 0).bind fun x => match x with | .inl r => some r | .inr e6 => O0 e6)
theorem X9 {a0 : Iz} {r : Bool} (h : L6 a0 = some r) : Bp Tryz.prog 23 [.agg (EL.el a0)] (· = .s (.one (.b r))) := by
 unfold L6 at h
 refine A2 Tryz.func23 rfl (nt := 33) rfl (Nbl rfl) ?_
 intro w0 S0
 refine Aq (Ab (Je rfl rfl (sv rfl (Ak rfl) (Ar (Aq (Aq (Ab (sv rfl (Aa Xw rfl) (sv rfl (Ae Ann rfl (.lp _ _ _ rfl) rfl) (sv rfl (Az Any rfl) (sv rfl (Dg rfl rfl) (Ar (ccI h rfl (fun h => ?_) (fun h => ?_))))))))))))))
 ·refine Aq (Ab (sv rfl (Ak rfl) (Ar (Bj (As ?_)))))
  obtain rfl := SJ h
  refine ⟨Or.inr rfl, _, _, _, (Ad (Bc.tmp _ _ rfl) Af), (Aj rfl), ?_⟩
  rfl
 ·refine Bl (Ai (Aq (Aq (Ab (sv rfl (Ak rfl) (Ar (G5 (Unit) (fun b1 => []) (fun b1 => [.box (EL.el a0)]) (fun b1 => O0 b1 = some r) (fun _ _ => Bg rfl) (fun _ _ => A0 rfl) (fun _ _ => Nbl rfl) (fun b1 h => ?_) ?_)))))))
  ·unfold O0 at h
   refine Aq (Ab (sv rfl (Ak rfl) (Ar (Bj ?_))))
   obtain rfl := SJ h
   refine ⟨Or.inr rfl, _, _, _, (Ad (Bc.tmp _ _ rfl) Af), (Aj rfl), ?_⟩
   rfl
  ·skip
   refine Ca ?_
   obtain ⟨x2, hx2, ho2⟩ := An h
   refine De (G := Nat × (Int)) (fun g => [(1, .s (.one (.lp 0 0))), (3, .s (.one (Ii6 g.2)))]) (fun g => [.box (EL.el a0)]) (fun g => Rv (J4 a0) g.1 g.2 = some x2) (fun g => g.1) (fuel, 0) hx2 ⟨rfl, rfl, trivial⟩ [] rfl (fun _ _ => Bg rfl) (fun _ _ => A0 rfl) (fun _ _ => Nbl rfl) ?_
   clear hx2 h
   rintro ⟨n2, s2⟩ h
   obtain ⟨n2, y2, rfl, h, hk2⟩ := Oz h
   unfold J4 at h
   refine Aq (Aq (Ab (sv rfl (Ah rfl) (sv rfl (Aa Xw rfl) (sv rfl (Ae Ann rfl (.lp _ _ _ rfl) rfl) (sv rfl (Az Any rfl) (sv rfl (Cs rfl rfl) (Ar (ccI h rfl (fun h => ?_) (fun h => ?_))))))))))
   ·refine Bl (Ai (Aq (Ca (Aq (Ab (sv rfl (Aa Xw rfl) (sv rfl (Ae Ann rfl (.lp _ _ _ rfl) rfl) (sv rfl (Ah rfl) ?_))))))))
    obtain ⟨u3, hu3, h⟩ := An h
    refine sv rfl (Fm (f := Ox) Any (fun _ => rfl) rfl rfl rfl rfl hu3) ?_
    refine sv rfl (B2 Aeu rfl) (sv rfl (Ae L2 rfl (.cp _) rfl) (sv rfl (Az Lc rfl) (sv rfl (Dg rfl rfl) (sv rfl (Ah rfl) (Bq 23 rfl (fun hc => ?_) (fun hc => ?_))))))
    ·replace h := B1 hc h
     clear hc
     refine Aw rfl rfl rfl rfl (Aw rfl rfl rfl rfl (Aw rfl rfl rfl rfl (Aw rfl rfl rfl rfl (Aw rfl rfl rfl rfl (Aw rfl rfl rfl rfl (Aw rfl rfl rfl rfl (Aw rfl rfl rfl rfl (sv rfl (Au rfl rfl) (Ar (Hy rfl (fun _ => ?_) (fun hx => Bool.noConfusion hx)))))))))))
     refine Aq (Ab (sv rfl (Ak rfl) (Ar (Bj (Bd (As (As (Bd (As ?_)))))))))
     obtain rfl := SJ h
     obtain rfl : Sum.inl _ = x2 := hk2
     replace ho2 : some _ = some _ := ho2
     obtain rfl := Option.some.inj ho2
     refine ⟨Or.inr rfl, _, _, _, (Ad (Bc.tmp _ _ rfl) Af), (Aj rfl), ?_⟩
     rfl
    ·replace h := B0 hc h
     clear hc
     refine son rfl rfl rfl (sv rfl (Aa Xw rfl) (son rfl rfl rfl (sv rfl (Ae Ann rfl (.lp _ _ _ rfl) rfl) (son rfl rfl rfl (sv rfl (Ah rfl) (son rfl rfl rfl ?_))))))
     obtain ⟨u4, hu4, h⟩ := An h
     refine sv rfl (Fm (f := Ox) Any (fun _ => rfl) rfl rfl rfl rfl hu4) ?_
     refine son rfl rfl rfl (sv rfl (B2 Afo rfl) (son rfl rfl rfl (sv rfl (Dj (ys := [.sl u4.Rng.Lo.length (u4.Rng.Lo.flatMap eU8), .sl u4.Rng.Hi.length (u4.Rng.Hi.flatMap eU8), .b u4.Rng.Open]) Ajl rfl (.cp _) rfl rfl) (son rfl rfl rfl ?_))))
     obtain ⟨v5, hv5, h⟩ := An h
     refine A1 rfl Avi (Ac rfl Al) (Aj rfl) (V8 hv5) (son rfl rfl rfl (sv rfl (B8 rfl) (sv rfl (Am rfl rfl) (Ar (ccI h rfl (fun h => ?_) (fun h => ?_))))))
     ·refine Aq (Ab (sv rfl (Ak rfl) (Ar (Bj (Bd (As (As (Bd (As ?_)))))))))
      obtain rfl := SJ h
      obtain rfl : Sum.inl _ = x2 := hk2
      replace ho2 : some _ = some _ := ho2
      obtain rfl := Option.some.inj ho2
      refine ⟨Or.inr rfl, _, _, _, (Ad (Bc.tmp _ _ rfl) Af), (Aj rfl), ?_⟩
      rfl
     ·refine Bl (A5 (Ai (Ab (sv rfl (Ah rfl) (sv rfl (B9 rfl rfl) (sv rfl (Ak rfl) (Ar ?_)))))))
      obtain rfl := SJ h
      exact ⟨(n2, (wI (s2 + 1))), _, hk2, ⟨rfl, rfl, trivial⟩, rfl, Nat.lt_succ_self _⟩
   ·refine Lw (Bi (Bi (Ck (Ai ?_))))
    obtain rfl := SJ h
    obtain rfl : _ = x2 := hk2
    exact ⟨(), _, ho2, trivial, rfl⟩
def L5 (b2 : Unit) : Option Bool :=
 some true
def Gd (a0 : Hx) (s3 : Int) : Option (LR (Int) (Unit) (Bool)) :=
 if (decide (s3 < (a0.List.length : Int))) then ((idx a0.List s3).bind fun u4 => if (decide (100 < (u4.Key.length : Int))) then (some (.ret false)) else ((idx a0.List s3).bind fun u5 => if (decide (100 < (u5.Val.length : Int))) then (some (.ret false)) else (some (.cont (wI (s3 + 1)))))) else (some (.brk ()))
def Jr (a0 : Hx) (b1 : Unit) : Option Bool :=
 (Rv (Gd a0) fuel 0).bind fun x => match x with | .inl r => some r | .inr e6 => L5 e6
def G3 (a0 : Hx) : Option Bool :=
 if (decide (100 < (a0.Val.length : Int))) then (some false) else (if (decide (20 < (a0.List.length : Int))) then (some false) else (Jr a0 ()))
theorem Tg {a0 : Hx} {r : Bool} (h : G3 a0 = some r) : Bp Tryz.prog 24 [.agg (EL.el a0)] (· = .s (.one (.b r))) := by
 unfold G3 at h
 refine A2 Tryz.func24 rfl (nt := 39) rfl (Nbl rfl) ?_
 intro w0 S0
 refine Aq (Ab (Je rfl rfl (sv rfl (Ak rfl) (Ar (Aq (Aq (Ki (Unit) (fun b1 => [(1, .s (.one (.lp 0 0)))]) (fun b1 => [.box (EL.el a0)]) (fun b1 => Jr a0 b1 = some r) (fun _ _ => Bg rfl) (fun _ _ => A0 rfl) (fun _ _ => Nbl rfl) (fun b1 h => ?_) ?_)))))))
 ·unfold Jr at h
  refine Aq (Aq (Ab (sv rfl (Ak rfl) (Ar (G5 (Unit) (fun b2 => []) (fun b2 => [.box (EL.el a0)]) (fun b2 => L5 b2 = some r) (fun _ _ => Bg rfl) (fun _ _ => A0 rfl) (fun _ _ => Nbl rfl) (fun b2 h => ?_) ?_)))))
  ·unfold L5 at h
   refine Aq (Ab (sv rfl (Ak rfl) (Ar (Bj ?_))))
   obtain rfl := SJ h
   refine ⟨Or.inr rfl, _, _, _, (Ad (Bc.tmp _ _ rfl) Af), (Aj rfl), ?_⟩
   rfl
  ·skip
   refine Ca ?_
   obtain ⟨x3, hx3, ho3⟩ := An h
   refine De (G := Nat × (Int)) (fun g => [(1, .s (.one (.lp 0 0))), (3, .s (.one (Ii6 g.2)))]) (fun g => [.box (EL.el a0)]) (fun g => Rv (Gd a0) g.1 g.2 = some x3) (fun g => g.1) (fuel, 0) hx3 ⟨rfl, rfl, trivial⟩ [] rfl (fun _ _ => Bg rfl) (fun _ _ => A0 rfl) (fun _ _ => Nbl rfl) ?_
   clear hx3 h
   rintro ⟨n3, s3⟩ h
   obtain ⟨n3, y3, rfl, h, hk3⟩ := Oz h
   unfold Gd at h
   refine Aq (Aq (Ab (sv rfl (Ah rfl) (sv rfl (Aa Z5 rfl) (sv rfl (Ae Aeq rfl (.lp _ _ _ rfl) rfl) (sv rfl (Az Ac5 rfl) (sv rfl (Cs rfl rfl) (Ar (ccI h rfl (fun h => ?_) (fun h => ?_))))))))))
   ·refine Bl (Ai (Aq (Ca (Aq (Ab (sv rfl (Aa Z5 rfl) (sv rfl (Ae Aeq rfl (.lp _ _ _ rfl) rfl) (sv rfl (Ah rfl) ?_))))))))
    obtain ⟨u4, hu4, h⟩ := An h
    refine sv rfl (Fm (f := Dr) Ac5 (fun _ => rfl) rfl rfl rfl rfl hu4) ?_
    refine sv rfl (B2 Abo rfl) (sv rfl (Ae L2 rfl (.cp _) rfl) (sv rfl (Az Lc rfl) (sv rfl (Dg rfl rfl) (sv rfl (Ah rfl) (Bq 29 rfl (fun hc => ?_) (fun hc => ?_))))))
    ·replace h := B1 hc h
     clear hc
     refine Aw rfl rfl rfl rfl (Aw rfl rfl rfl rfl (Aw rfl rfl rfl rfl (Aw rfl rfl rfl rfl (Aw rfl rfl rfl rfl (Aw rfl rfl rfl rfl (Aw rfl rfl rfl rfl (Aw rfl rfl rfl rfl (sv rfl (Au rfl rfl) (Ar (Hy rfl (fun _ => ?_) (fun hx => Bool.noConfusion hx)))))))))))
     refine Aq (Ab (sv rfl (Ak rfl) (Ar (Bj (Bd (As (As (Bd (As ?_)))))))))
     obtain rfl := SJ h
     obtain rfl : Sum.inl _ = x3 := hk3
     replace ho3 : some _ = some _ := ho3
     obtain rfl := Option.some.inj ho3
     refine ⟨Or.inr rfl, _, _, _, (Ad (Bc.tmp _ _ rfl) Af), (Aj rfl), ?_⟩
     rfl
    ·replace h := B0 hc h
     clear hc
     refine son rfl rfl rfl (sv rfl (Aa Z5 rfl) (son rfl rfl rfl (sv rfl (Ae Aeq rfl (.lp _ _ _ rfl) rfl) (son rfl rfl rfl (sv rfl (Ah rfl) (son rfl rfl rfl ?_))))))
     obtain ⟨u5, hu5, h⟩ := An h
     refine sv rfl (Fm (f := Dr) Ac5 (fun _ => rfl) rfl rfl rfl rfl hu5) ?_
     refine son rfl rfl rfl (sv rfl (B2 Ye rfl) (son rfl rfl rfl (sv rfl (Ae L2 rfl (.cp _) rfl) (son rfl rfl rfl (sv rfl (Az Lc rfl) (son rfl rfl rfl (sv rfl (Dg rfl rfl) (sv rfl (Am rfl rfl) (Ar (ccI h rfl (fun h => ?_) (fun h => ?_)))))))))))
     ·refine Aq (Ab (sv rfl (Ak rfl) (Ar (Bj (Bd (As (As (Bd (As ?_)))))))))
      obtain rfl := SJ h
      obtain rfl : Sum.inl _ = x3 := hk3
      replace ho3 : some _ = some _ := ho3
      obtain rfl := Option.some.inj ho3
      refine ⟨Or.inr rfl, _, _, _, (Ad (Bc.tmp _ _ rfl) Af), (Aj rfl), ?_⟩
      rfl
     ·refine Bl (A5 (Ai (Ab (sv rfl (Ah rfl) (sv rfl (B9 rfl rfl) (sv rfl (Ak rfl) (Ar ?_)))))))
      obtain rfl := SJ h
      exact ⟨(n3, (wI (s3 + 1))), _, hk3, ⟨rfl, rfl, trivial⟩, rfl, Nat.lt_succ_self _⟩
   ·refine Lw (Bi (Bi (Ck (Ai ?_))))
    obtain rfl := SJ h
    obtain rfl : _ = x3 := hk3
    exact ⟨(), _, ho3, trivial, rfl⟩
 ·skip
  refine Ab (sv rfl (Aa Ak2 rfl) (sv rfl (Ae L2 rfl (.lp _ _ _ rfl) rfl) (sv rfl (Az Lc rfl) (sv rfl (Dg rfl rfl) (sv rfl (Ah rfl) (Bq 8 rfl (fun hc => ?_) (fun hc => ?_)))))))
  ·replace h := B1 hc h
   clear hc
   refine Aw rfl rfl rfl rfl (Aw rfl rfl rfl rfl (Aw rfl rfl rfl rfl (Aw rfl rfl rfl rfl (sv rfl (Au rfl rfl) (Ar (Hy rfl (fun _ => ?_) (fun hx => Bool.noConfusion hx)))))))
   refine Aq (Ab (sv rfl (Ak rfl) (Ar (Bj (As ?_)))))
   obtain rfl := SJ h
   refine ⟨Or.inr rfl, _, _, _, (Ad (Bc.tmp _ _ rfl) Af), (Aj rfl), ?_⟩
   rfl
  ·replace h := B0 hc h
   clear hc
   refine son rfl rfl rfl (sv rfl (Aa Z5 rfl) (son rfl rfl rfl (sv rfl (Ae Aeq rfl (.lp _ _ _ rfl) rfl) (son rfl rfl rfl (sv rfl (Az Ac5 rfl) (son rfl rfl rfl (sv rfl (Dg rfl rfl) (sv rfl (Am rfl rfl) (Ar (ccI h rfl (fun h => ?_) (fun h => ?_)))))))))))
   ·refine Aq (Ab (sv rfl (Ak rfl) (Ar (Bj (As ?_)))))
    obtain rfl := SJ h
    refine ⟨Or.inr rfl, _, _, _, (Ad (Bc.tmp _ _ rfl) Af), (Aj rfl), ?_⟩
    rfl
   ·refine Bl (Ai ?_)
    exact ⟨(), _, h, ⟨rfl, trivial⟩, rfl⟩
def Nz (b1 : Unit) : Option Bool :=
 some true
def Ja (a0 : List Ka) (s2 : Int) : Option (LR (Int) (Unit) (Bool)) :=
 if (decide (s2 < (a0.length : Int))) then ((idx a0 s2).bind fun u3 => (L6 u3.Task.Prog).bind fun v4 => if (!v4) then (some (.ret false)) else ((idx a0 s2).bind fun u5 => (G3 u5.Reply).bind fun v6 => if (!v6) then (some (.ret false)) else ((idx a0 s2).bind fun u7 => if (decide (300 < (u7.Bytes.length : Int))) then (some (.ret false)) else (some (.cont (wI (s2 + 1))))))) else (some (.brk ()))
def Ni (a0 : List Ka) : Option Bool :=
 if (decide (80 < (a0.length : Int))) then (some false) else ((Rv (Ja a0) fuel 0).bind fun x => match x with | .inl r => some r | .inr e8 => Nz e8)
theorem Xh {a0 : List Ka} {r : Bool} (h : Ni a0 = some r) : Bp Tryz.prog 8 [.one (.sl a0.length (a0.flatMap M6))] (· = .s (.one (.b r))) := by
 unfold Ni at h
 refine A2 Tryz.func8 rfl (nt := 39) rfl (Nbl rfl) ?_
 intro w0 S0
 refine Aq (Ab (sv rfl (Ak rfl) (Ar (Aq (Aq (Ab (sv rfl (Ah rfl) (sv rfl (Az Amk rfl) (sv rfl (Dg rfl rfl) (Ar (ccI h rfl (fun h => ?_) (fun h => ?_))))))))))))
 ·refine Aq (Ab (sv rfl (Ak rfl) (Ar (Bj (As ?_)))))
  obtain rfl := SJ h
  refine ⟨Or.inr rfl, _, _, _, (Ad (Bc.tmp _ _ rfl) Af), (Aj rfl), ?_⟩
  rfl
 ·refine Bl (Ai (Aq (Aq (Ab (sv rfl (Ak rfl) (Ar (G5 (Unit) (fun b1 => []) (fun b1 => []) (fun b1 => Nz b1 = some r) (fun _ _ => Bg rfl) (fun _ _ => A0 rfl) (fun _ _ => Nbl rfl) (fun b1 h => ?_) ?_)))))))
  ·unfold Nz at h
   refine Aq (Ab (sv rfl (Ak rfl) (Ar (Bj ?_))))
   obtain rfl := SJ h
   refine ⟨Or.inr rfl, _, _, _, (Ad (Bc.tmp _ _ rfl) Af), (Aj rfl), ?_⟩
   rfl
  ·skip
   refine Ca ?_
   obtain ⟨x2, hx2, ho2⟩ := An h
   refine De (G := Nat × (Int)) (fun g => [(0, .s (.one (.sl a0.length (a0.flatMap M6)))), (3, .s (.one (Ii6 g.2)))]) (fun g => []) (fun g => Rv (Ja a0) g.1 g.2 = some x2) (fun g => g.1) (fuel, 0) hx2 ⟨rfl, rfl, trivial⟩ [] rfl (fun _ _ => Bg rfl) (fun _ _ => A0 rfl) (fun _ _ => Nbl rfl) ?_
   clear hx2 h
   rintro ⟨n2, s2⟩ h
   obtain ⟨n2, y2, rfl, h, hk2⟩ := Oz h
   unfold Ja at h
   refine Aq (Aq (Ab (sv rfl (Ah rfl) (sv rfl (Ah rfl) (sv rfl (Az Amk rfl) (sv rfl (Cs rfl rfl) (Ar (ccI h rfl (fun h => ?_) (fun h => ?_)))))))))
   ·refine Bl (Ai (Aq (Ca (Aq (Ab (sv rfl (Ah rfl) (sv rfl (Ah rfl) ?_)))))))
    obtain ⟨u3, hu3, h⟩ := An h
    refine sv rfl (Fm (f := M6) Amk (fun _ => rfl) rfl rfl rfl rfl hu3) ?_
    refine sv rfl (B2 Ags rfl) (sv rfl (B2 Akp rfl) (sv rfl (Dj (ys := [.b u3.Task.Prog.RO, .sl u3.Task.Prog.Ops.length (u3.Task.Prog.Ops.flatMap Ox)]) Atx rfl (.cp _) rfl rfl) ?_))
    obtain ⟨v4, hv4, h⟩ := An h
    refine A1 rfl Av1 (Ac rfl Al) (Aj rfl) (X9 hv4) (sv rfl (B8 rfl) (sv rfl (Ah rfl) (Bq 21 rfl (fun hc => ?_) (fun hc => ?_))))
    ·replace h := B1 hc h
     clear hc
     refine Aw rfl rfl rfl rfl (Aw rfl rfl rfl rfl (Aw rfl rfl rfl rfl (Aw rfl rfl rfl rfl (Aw rfl rfl rfl rfl (Aw rfl rfl rfl rfl (Aw rfl rfl rfl rfl (sv rfl (Au rfl rfl) (sv rfl (Ah rfl) (Aw rfl rfl rfl rfl (Aw rfl rfl rfl rfl (Aw rfl rfl rfl rfl (Aw rfl rfl rfl rfl (Aw rfl rfl rfl rfl (Aw rfl rfl rfl rfl (Aw rfl rfl rfl rfl (sv rfl (Au rfl rfl) (Ar (Hy rfl (fun _ => ?_) (fun hx => Bool.noConfusion hx)))))))))))))))))))
     refine Aq (Ab (sv rfl (Ak rfl) (Ar (Bj (Bd (As (As (Bd (As ?_)))))))))
     obtain rfl := SJ h
     obtain rfl : Sum.inl _ = x2 := hk2
     replace ho2 : some _ = some _ := ho2
     obtain rfl := Option.some.inj ho2
     refine ⟨Or.inr rfl, _, _, _, (Ad (Bc.tmp _ _ rfl) Af), (Aj rfl), ?_⟩
     rfl
    ·replace h := B0 hc h
     clear hc
     refine son rfl rfl rfl (sv rfl (Ah rfl) (son rfl rfl rfl (sv rfl (Ah rfl) (son rfl rfl rfl ?_))))
     obtain ⟨u5, hu5, h⟩ := An h
     refine sv rfl (Fm (f := M6) Amk (fun _ => rfl) rfl rfl rfl rfl hu5) ?_
     refine son rfl rfl rfl (sv rfl (B2 Ak1 rfl) (son rfl rfl rfl (sv rfl (Dj (ys := [Ii6 u5.Reply.Kind, Ii6 u5.Reply.Seq, Ii6 u5.Reply.Code, Ii6 u5.Reply.N, .b u5.Reply.Found, .sl u5.Reply.Val.length (u5.Reply.Val.flatMap eU8), .sl u5.Reply.List.length (u5.Reply.List.flatMap Dr)]) Auk rfl (.cp _) rfl rfl) (son rfl rfl rfl ?_))))
     obtain ⟨v6, hv6, h⟩ := An h
     refine A1 rfl Auz (Ac rfl Al) (Aj rfl) (Tg hv6) (son rfl rfl rfl (sv rfl (B8 rfl) (sv rfl (Am rfl rfl) (sv rfl (Ah rfl) (Bq 30 rfl (fun hc => ?_) (fun hc => ?_))))))
     ·replace h := B1 hc h
      clear hc
      refine Aw rfl rfl rfl rfl (Aw rfl rfl rfl rfl (Aw rfl rfl rfl rfl (Aw rfl rfl rfl rfl (Aw rfl rfl rfl rfl (Aw rfl rfl rfl rfl (Aw rfl rfl rfl rfl (sv rfl (Au rfl rfl) (Ar (Hy rfl (fun _ => ?_) (fun hx => Bool.noConfusion hx))))))))))
      refine Aq (Ab (sv rfl (Ak rfl) (Ar (Bj (Bd (As (As (Bd (As ?_)))))))))
      obtain rfl := SJ h
      obtain rfl : Sum.inl _ = x2 := hk2
      replace ho2 : some _ = some _ := ho2
      obtain rfl := Option.some.inj ho2
      refine ⟨Or.inr rfl, _, _, _, (Ad (Bc.tmp _ _ rfl) Af), (Aj rfl), ?_⟩
      rfl
     ·replace h := B0 hc h
      clear hc
      refine son rfl rfl rfl (sv rfl (Ah rfl) (son rfl rfl rfl (sv rfl (Ah rfl) (son rfl rfl rfl ?_))))
      obtain ⟨u7, hu7, h⟩ := An h
      refine sv rfl (Fm (f := M6) Amk (fun _ => rfl) rfl rfl rfl rfl hu7) ?_
      refine son rfl rfl rfl (sv rfl (B2 Akd rfl) (son rfl rfl rfl (sv rfl (Ae L2 rfl (.cp _) rfl) (son rfl rfl rfl (sv rfl (Az Lc rfl) (son rfl rfl rfl (sv rfl (Dg rfl rfl) (sv rfl (Am rfl rfl) (Ar (ccI h rfl (fun h => ?_) (fun h => ?_)))))))))))
      ·refine Aq (Ab (sv rfl (Ak rfl) (Ar (Bj (Bd (As (As (Bd (As ?_)))))))))
       obtain rfl := SJ h
       obtain rfl : Sum.inl _ = x2 := hk2
       replace ho2 : some _ = some _ := ho2
       obtain rfl := Option.some.inj ho2
       refine ⟨Or.inr rfl, _, _, _, (Ad (Bc.tmp _ _ rfl) Af), (Aj rfl), ?_⟩
       rfl
      ·refine Bl (A5 (Ai (Ab (sv rfl (Ah rfl) (sv rfl (B9 rfl rfl) (sv rfl (Ak rfl) (Ar ?_)))))))
       obtain rfl := SJ h
       exact ⟨(n2, (wI (s2 + 1))), _, hk2, ⟨rfl, rfl, trivial⟩, rfl, Nat.lt_succ_self _⟩
   ·refine Lw (Bi (Bi (Ck (Ai ?_))))
    obtain rfl := SJ h
    obtain rfl : _ = x2 := hk2
    exact ⟨(), _, ho2, trivial, rfl⟩
def Mo (a0 : Iz) (b1 : (List B5)) : Option Co :=
 some (Co.mk a0.RO b1)
def Ih (a0 : Iz) (s2 : Int × (List B5)) : Option (LB (Int × (List B5)) ((List B5))) :=
 if (decide (s2.1 < (a0.Ops.length : Int))) then ((idx a0.Ops s2.1).bind fun u3 => if (s2.2.length + [(B5.mk u3.What u3.A u3.B u3.N u3.Key u3.Rng)].length) * 112 ≤ 140737488355328 then (some (.cont ((wI (s2.1 + 1)), (s2.2 ++ [(B5.mk u3.What u3.A u3.B u3.N u3.Key u3.Rng)])))) else none) else (some (.brk s2.2))
def Kl (a0 : Iz) : Option Co :=
 (Ez (Ih a0) fuel (0, ([] : List B5))).bind fun e5 => Mo a0 e5
theorem Ub {a0 : Iz} {r : Co} (h : Kl a0 = some r) : Bp Tryz.prog 26 [.agg (EL.el a0)] (· = .s (.agg (EL.el r))) := by
 unfold Kl at h
 refine A2 Tryz.func26 rfl (nt := 40) rfl (Nbl rfl) ?_
 intro w0 S0
 refine Aq (Ab (Je rfl rfl (Bz rfl Aqs (Ar (Aq (Ab (sv rfl (Aa Ap4 rfl) (sv rfl (Ae ti4 rfl (.lp _ _ _ rfl) rfl) (sv rfl (Bk Aqs Aue (Ap rfl A9) (.cons _ _ _ _ _ _ _ rfl rfl (Nbl rfl) (.nil _))) (Bz rfl Aqs (Ax Aur rfl rfl rfl rfl (Nbl rfl) (Bt [.box (EL.el a0), .box [.b false, Znl], .box [.b a0.RO, Znl]] rfl (Ar (Aq (Aq (Ab (sv rfl (Ak rfl) (Ar ?_))))))))))))))))))
 refine Aan 89 8 2 1 (by decide) rfl rfl ?_
 refine G5 ((List B5)) (fun b1 => [(2, .s (.one (.lp 1 0))), (3, .s (.one (.lp 2 0)))]) (fun b1 => [.box (EL.el a0), .box [.b false, Znl], .box [.b a0.RO, .ls 3 b1.length], .arr 89 8 0 (b1.flatMap Cf)]) (fun b1 => Mo a0 b1 = some r) (fun _ _ => Bg rfl) (fun _ _ => A0 rfl) (fun _ _ => Nbl rfl) (fun b1 h => ?_) ?_
 ·unfold Mo at h
  refine Aq (Ab (sv rfl (Ao Alu rfl (.lp _ _ _ rfl) (Nbl rfl)) (Ax Aur rfl rfl rfl rfl (Nbl rfl) (Bt [.box (EL.el a0), .box [.b a0.RO, .ls 3 b1.length], .box [.b a0.RO, .ls 3 b1.length], .arr 89 8 0 (b1.flatMap Cf)] rfl (Ar (Bj ?_))))))
  obtain rfl := SJ h
  refine ⟨Or.inr rfl, _, _, _, (Ad (Bc.agg _ _ _ _ _ Alu rfl (.lp _ _ _ rfl) (Nbl rfl)) Af), (by (repeat' first | exact J8.nil _ | apply J8.cons | apply Jv.one | apply Jv.agg | exact E4.nil | exact E4.ls _ _ _ _ _ _ rfl (Bf (f := Cf) (fun _ => rfl) _).symm | exact E4.id _ rfl | exact D2.nil _ | apply D2.cons)), ?_⟩
  rfl
 ·skip
  refine Ca ?_
  obtain ⟨x2, hx2, ho2⟩ := An h
  refine De (G := Nat × (Int × (List B5))) (fun g => [(1, .s (.one (.lp 0 0))), (2, .s (.one (.lp 1 0))), (3, .s (.one (.lp 2 0))), (4, .s (.one (Ii6 g.2.1)))]) (fun g => [.box (EL.el a0), .box [.b false, Znl], .box [.b a0.RO, .ls 3 g.2.2.length], .arr 89 8 0 (g.2.2.flatMap Cf)]) (fun g => Ez (Ih a0) g.1 g.2 = some x2) (fun g => g.1) (fuel, (0, ([] : List B5))) hx2 ⟨rfl, rfl, rfl, rfl, trivial⟩ [] rfl (fun _ _ => Bg rfl) (fun _ _ => A0 rfl) (fun _ _ => Nbl rfl) ?_
  clear hx2 h
  rintro ⟨n2, s2⟩ h
  obtain ⟨n2, y2, rfl, h, hk2⟩ := Gp h
  unfold Ih at h
  refine Aq (Aq (Ab (sv rfl (Ah rfl) (sv rfl (Aa Xw rfl) (sv rfl (Ae Ann rfl (.lp _ _ _ rfl) rfl) (sv rfl (Az Any rfl) (sv rfl (Cs rfl rfl) (Ar (ccI h rfl (fun h => ?_) (fun h => ?_))))))))))
  ·refine Bl (Ai (Aq (Ca (Aq (Ab (sv rfl (Aa Xw rfl) (sv rfl (Ae Ann rfl (.lp _ _ _ rfl) rfl) (sv rfl (Ah rfl) ?_))))))))
   obtain ⟨u3, hu3, h⟩ := An h
   refine sv rfl (Fm (f := Ox) Any (fun _ => rfl) rfl rfl rfl rfl hu3) ?_
   refine sv rfl (Dj (ys := [Ii6 u3.What, Ii6 u3.A, Ii6 u3.B, Ii6 u3.N, .sl u3.Key.length (u3.Key.flatMap eU8), .sl u3.Rng.Lo.length (u3.Rng.Lo.flatMap eU8), .sl u3.Rng.Hi.length (u3.Rng.Hi.flatMap eU8), .b u3.Rng.Open]) Arr rfl (.cp _) rfl rfl) (Bz rfl Atd (Ax Asb rfl rfl rfl rfl (Nbl rfl) (Bt [.box (EL.el a0), .box [.b false, Znl], .box [.b a0.RO, .ls 3 s2.2.length], .arr 89 8 0 (s2.2.flatMap Cf), .box (EL.el u3)] rfl (Ar (Ab (sv rfl (Aa Rx rfl) (sv rfl (Ae Aja rfl (.lp _ _ _ rfl) rfl) (sv rfl (Aa Anf rfl) (sv rfl (Ae ti3 rfl (.lp _ _ _ rfl) rfl) (sv rfl (Aa Am2 rfl) (sv rfl (Ae ti3 rfl (.lp _ _ _ rfl) rfl) (sv rfl (Aa Amr rfl) (sv rfl (Ae ti3 rfl (.lp _ _ _ rfl) rfl) (sv rfl (Aa Al2 rfl) (sv rfl (Ae ti3 rfl (.lp _ _ _ rfl) rfl) (sv rfl (Aa Aeu rfl) (sv rfl (Ae L2 rfl (.lp _ _ _ rfl) rfl) (sv rfl (Aa Afo rfl) (sv rfl (Ao Ajl rfl (.lp _ _ _ rfl) (Nbl rfl)) (sv rfl (Bk Aps Att (Ap rfl (Ap rfl (Ap rfl (Ap rfl (Ap rfl (Ap rfl A9)))))) (Ea [Ii6 u3.What, Ii6 0, Ii6 0, Ii6 0, Znl, Znl, Znl, .b false] rfl rfl (Nbl rfl) rfl (Ea [Ii6 u3.What, Ii6 u3.A, Ii6 0, Ii6 0, Znl, Znl, Znl, .b false] rfl rfl (Nbl rfl) rfl (Ea [Ii6 u3.What, Ii6 u3.A, Ii6 u3.B, Ii6 0, Znl, Znl, Znl, .b false] rfl rfl (Nbl rfl) rfl (Ea [Ii6 u3.What, Ii6 u3.A, Ii6 u3.B, Ii6 u3.N, Znl, Znl, Znl, .b false] rfl rfl (Nbl rfl) rfl (Ea [Ii6 u3.What, Ii6 u3.A, Ii6 u3.B, Ii6 u3.N, .sl u3.Key.length (u3.Key.flatMap eU8), Znl, Znl, .b false] rfl rfl (Nbl rfl) rfl (Ea [Ii6 u3.What, Ii6 u3.A, Ii6 u3.B, Ii6 u3.N, .sl u3.Key.length (u3.Key.flatMap eU8), .sl u3.Rng.Lo.length (u3.Rng.Lo.flatMap eU8), .sl u3.Rng.Hi.length (u3.Rng.Hi.flatMap eU8), .b u3.Rng.Open] rfl rfl (Nbl rfl) rfl (.nil _)))))))) ?_))))))))))))))))))))
   refine Qy rfl Tryz.underlying90 Ar4 rfl rfl (List.all_eq_true.1 rfl) (by decide) ?_
   refine Bt [.box (EL.el a0), .box [.b false, Znl], .box [.b a0.RO, .ls 3 s2.2.length], .arr 89 8 0 (s2.2.flatMap Cf), .box (EL.el u3), .arr 89 8 0 ([(B5.mk u3.What u3.A u3.B u3.N u3.Key u3.Rng)].flatMap Cf)] rfl ?_
   obtain ⟨hb4, h⟩ := D4 h
   refine Ah2 (f := Cf) (xs := s2.2) (us := [(B5.mk u3.What u3.A u3.B u3.N u3.Key u3.Rng)]) rfl Tryz.underlying90 Ar4 Auw (fun _ => rfl) rfl rfl (.one _ _ _ _ (.ls _ _ _ _ _ _ rfl (Bf (f := Cf) (fun _ => rfl) [(B5.mk u3.What u3.A u3.B u3.N u3.Key u3.Rng)]).symm)) rfl rfl rfl (.sl _ _ _ (Bf (f := Cf) (fun _ => rfl) _)) rfl rfl hb4 (by decide) ?_
   refine sv rfl (Aa Rx rfl) (Ax Aux rfl rfl rfl rfl (Nbl rfl) (Bt [.box (EL.el a0), .box [.b false, Znl], .box [.b a0.RO, .ls 3 (s2.2 ++ [(B5.mk u3.What u3.A u3.B u3.N u3.Key u3.Rng)]).length], .arr 89 8 0 ((s2.2 ++ [(B5.mk u3.What u3.A u3.B u3.N u3.Key u3.Rng)]).flatMap Cf), .box (EL.el u3), .arr 89 8 ([(B5.mk u3.What u3.A u3.B u3.N u3.Key u3.Rng)].flatMap Cf).length ([(B5.mk u3.What u3.A u3.B u3.N u3.Key u3.Rng)].flatMap Cf)] rfl (Ls (A5 (Ai (Ab (sv rfl (Ah rfl) (sv rfl (B9 rfl rfl) (sv rfl (Ak rfl) (Ar ?_))))))))))
   obtain rfl := SJ h
   exact ⟨(n2, ((wI (s2.1 + 1)), (s2.2 ++ [(B5.mk u3.What u3.A u3.B u3.N u3.Key u3.Rng)]))), _, hk2, ⟨rfl, rfl, rfl, rfl, trivial⟩, rfl, Nat.lt_succ_self _⟩
  ·refine Lw (Bi (Bi (Ck (Ai ?_))))
   obtain rfl := SJ h
   obtain rfl : _ = x2 := hk2
   exact ⟨s2.2, _, ho2, ⟨rfl, rfl, trivial⟩, rfl⟩
def Kt (a0 : Ag) : Option Ag :=
 (Ex a0).bind fun v1 => if (!v1) then (some Cw) else ((Fp a0.Phase).bind fun v2 => if v2 then (some a0) else ((Cq a0).bind fun v3 => some v3))
theorem Ud {a0 : Ag} {r : Ag} (h : Kt a0 = some r) : Bp Tryz.prog 27 [.agg (EL.el a0)] (· = .s (.agg (EL.el r))) := by
 unfold Kt at h
 refine A2 Tryz.func27 rfl (nt := 13) rfl (Nbl rfl) ?_
 intro w0 S0
 refine Aq (Ab (Je rfl rfl (Bz rfl Nc (Ar (Aq (Aq (Ab (sv rfl (Ao B4 rfl (.lp _ _ _ rfl) (Nbl rfl)) ?_))))))))
 obtain ⟨v1, hv1, h⟩ := An h
 refine A1 rfl Anm (Ac rfl Al) (Aj rfl) (Hp hv1) (sv rfl (B8 rfl) (Ar (ccI h rfl (fun h => ?_) (fun h => ?_))))
 ·refine Aq (Ab (sv rfl (Bk Nc Add A9 (.nil _)) (Ax Em rfl rfl rfl rfl (Nbl rfl) (Bt [.box (EL.el a0), .box Zba] rfl (Ar (Bj (As ?_)))))))
  obtain rfl := SJ h
  refine ⟨Or.inr rfl, _, _, _, (Ad (Bc.agg _ _ _ _ _ B4 rfl (.lp _ _ _ rfl) (Nbl rfl)) Af), (Nl rfl), ?_⟩
  rfl
 ·refine Bl (Ai (Aq (Aq (Ab (sv rfl (Aa F7 rfl) (sv rfl (Ae ti3 rfl (.lp _ _ _ rfl) rfl) ?_))))))
  obtain ⟨v2, hv2, h⟩ := An h
  refine A1 rfl Apo (Ac rfl Al) (Aj rfl) (I6 hv2) (Ar (ccI h rfl (fun h => ?_) (fun h => ?_)))
  ·refine Aq (Ab (sv rfl (Ao B4 rfl (.lp _ _ _ rfl) (Nbl rfl)) (Ax Em rfl rfl rfl rfl (Nbl rfl) (Bt [.box (EL.el a0), .box (EL.el a0)] rfl (Ar (Bj (As ?_)))))))
   obtain rfl := SJ h
   refine ⟨Or.inr rfl, _, _, _, (Ad (Bc.agg _ _ _ _ _ B4 rfl (.lp _ _ _ rfl) (Nbl rfl)) Af), (Aj rfl), ?_⟩
   rfl
  ·refine Bl (Ai (Aq (Ab (sv rfl (Ao B4 rfl (.lp _ _ _ rfl) (Nbl rfl)) ?_))))
   obtain ⟨v3, hv3, h⟩ := An h
   refine A1 rfl Apb (Ac rfl Al) (Aj rfl) (Fa hv3) (Ax Em rfl rfl rfl rfl (Nbl rfl) (Bt [.box (EL.el a0), .box (EL.el v3)] rfl (Ar (Bj ?_))))
   obtain rfl := SJ h
   refine ⟨Or.inr rfl, _, _, _, (Ad (Bc.agg _ _ _ _ _ B4 rfl (.lp _ _ _ rfl) (Nbl rfl)) Af), (Aj rfl), ?_⟩
   rfl
def D6 (a0 : Ag) : Option Ag :=
 (Gz a0.Cfg.Plan (wI (a0.Sent + 1))).bind fun v1 => if (!v1.2) then ((Cq a0).bind fun v2 => some v2) else ((Ep a0).bind fun v3 => if v3 then ((Ce a0).bind fun v4 => some v4) else ((Fg ({a0 with Sent := (wI (a0.Sent + 1)), Left := v1.1})).bind fun v5 => some v5))
theorem Nk {a0 : Ag} {r : Ag} (h : D6 a0 = some r) : Bp Tryz.prog 73 [.agg (EL.el a0)] (· = .s (.agg (EL.el r))) := by
 unfold D6 at h
 refine A2 Tryz.func73 rfl (nt := 33) rfl (Nbl rfl) ?_
 intro w0 S0
 refine Aq (Ab (Je rfl rfl (Bz rfl Nc (Ar (Aq (Ab (sv rfl (Aa Qp rfl) (sv rfl (Aa Wm rfl) (sv rfl (Ao Aj9 rfl (.lp _ _ _ rfl) (Nbl rfl)) (sv rfl (Aa Aai rfl) (sv rfl (Ae ti3 rfl (.lp _ _ _ rfl) rfl) (sv rfl (B9 rfl rfl) ?_))))))))))))
 obtain ⟨v1, hv1, h⟩ := An h
 refine A1 rfl Aqo (Ac rfl (Ac rfl Al)) (Aj rfl) (K8 hv1) (sv rfl (Fs rfl) (sv rfl (A7 rfl rfl) (sv rfl (A7 rfl rfl) (sv rfl (Ak rfl) (sv rfl (Ak rfl) (Ar (Aq (Ca (Aq (Ab (sv rfl (Ah rfl) (sv rfl (B8 rfl) (sv rfl (Ak rfl) (Ar (ccI h rfl (fun h => ?_) (fun h => ?_))))))))))))))))
 ·refine Aq (Ab (sv rfl (Ao B4 rfl (.lp _ _ _ rfl) (Nbl rfl)) ?_))
  obtain ⟨v2, hv2, h⟩ := An h
  refine A1 rfl Apb (Ac rfl Al) (Aj rfl) (Fa hv2) (Ax Em rfl rfl rfl rfl (Nbl rfl) (Bt [.box (EL.el a0), .box (EL.el v2)] rfl (Ar (Bj (Bd (As ?_))))))
  obtain rfl := SJ h
  refine ⟨Or.inr rfl, _, _, _, (Ad (Bc.agg _ _ _ _ _ B4 rfl (.lp _ _ _ rfl) (Nbl rfl)) Af), (Aj rfl), ?_⟩
  rfl
 ·refine Aq (Ab (sv rfl (Ao B4 rfl (.lp _ _ _ rfl) (Nbl rfl)) ?_))
  obtain ⟨v3, hv3, h⟩ := An h
  refine A1 rfl At2 (Ac rfl Al) (Aj rfl) (Mc hv3) (sv rfl (Ak rfl) (Ar (ccI h rfl (fun h => ?_) (fun h => ?_))))
  ·refine Aq (Ab (sv rfl (Ao B4 rfl (.lp _ _ _ rfl) (Nbl rfl)) ?_))
   obtain ⟨v4, hv4, h⟩ := An h
   refine A1 rfl Anh (Ac rfl Al) (Aj rfl) (Df hv4) (Ax Em rfl rfl rfl rfl (Nbl rfl) (Bt [.box (EL.el a0), .box (EL.el v4)] rfl (Ar (Bj (Bd (As ?_))))))
   obtain rfl := SJ h
   refine ⟨Or.inr rfl, _, _, _, (Ad (Bc.agg _ _ _ _ _ B4 rfl (.lp _ _ _ rfl) (Nbl rfl)) Af), (Aj rfl), ?_⟩
   rfl
  ·refine Bl (A5 (Ai (Aq (Ab (sv rfl (Aa Aai rfl) (sv rfl (Ae ti3 rfl (.lp _ _ _ rfl) rfl) (sv rfl (B9 rfl rfl) (sv rfl (Aa Aai rfl) (Ax sz3 rfl rfl rfl rfl (Nbl rfl) (Bt [.box (EL.el {a0 with Sent := wI (a0.Sent + 1)}), .box Zba] rfl (Ar (Aq (Ab (sv rfl (Ah rfl) (sv rfl (Aa Q4 rfl) (Ax sz3 rfl rfl rfl rfl (Nbl rfl) (Bt [.box (EL.el {a0 with Sent := wI (a0.Sent + 1), Left := v1.1}), .box Zba] rfl (Ar (Aq (Ab (sv rfl (Ao B4 rfl (.lp _ _ _ rfl) (Nbl rfl)) ?_)))))))))))))))))))))
   obtain ⟨v5, hv5, h⟩ := An h
   refine A1 rfl Atv (Ac rfl Al) (Aj rfl) (Mg hv5) (Ax Em rfl rfl rfl rfl (Nbl rfl) (Bt [.box (EL.el {a0 with Sent := wI (a0.Sent + 1), Left := v1.1}), .box (EL.el v5)] rfl (Ar (Bj ?_))))
   obtain rfl := SJ h
   refine ⟨Or.inr rfl, _, _, _, (Ad (Bc.agg _ _ _ _ _ B4 rfl (.lp _ _ _ rfl) (Nbl rfl)) Af), (Aj rfl), ?_⟩
   rfl
def Gu (a0 : Ag) : Option Ag :=
 if (decide (a0.Phase = 8)) then ((Eb a0).bind fun v1 => some v1) else (if (decide (a0.Phase = 10)) then ((D5 a0).bind fun v2 => some v2) else ((D6 a0).bind fun v3 => some v3))
theorem Pt {a0 : Ag} {r : Ag} (h : Gu a0 = some r) : Bp Tryz.prog 38 [.agg (EL.el a0)] (· = .s (.agg (EL.el r))) := by
 unfold Gu at h
 refine A2 Tryz.func38 rfl (nt := 15) rfl (Nbl rfl) ?_
 intro w0 S0
 refine Aq (Ab (Je rfl rfl (Bz rfl Nc (Ar (Aq (Aq (Ab (sv rfl (Aa F7 rfl) (sv rfl (Ae ti3 rfl (.lp _ _ _ rfl) rfl) (Ar (Ca (Aq (Ab (sv rfl (Bo rfl rfl) (sv rfl (Ak rfl) (Ar (ccI h rfl (fun h => ?_) (fun h => ?_))))))))))))))))))
 ·refine Aq (Ab (sv rfl (Ao B4 rfl (.lp _ _ _ rfl) (Nbl rfl)) ?_))
  obtain ⟨v1, hv1, h⟩ := An h
  refine A1 rfl At1 (Ac rfl Al) (Aj rfl) (Lv hv1) (Ax Em rfl rfl rfl rfl (Nbl rfl) (Bt [.box (EL.el a0), .box (EL.el v1)] rfl (Ar (Bj (Bd (As ?_))))))
  obtain rfl := SJ h
  refine ⟨Or.inr rfl, _, _, _, (Ad (Bc.agg _ _ _ _ _ B4 rfl (.lp _ _ _ rfl) (Nbl rfl)) Af), (Aj rfl), ?_⟩
  rfl
 ·refine Aq (Ab (sv rfl (Bo rfl rfl) (sv rfl (Ak rfl) (Ar (ccI h rfl (fun h => ?_) (fun h => ?_))))))
  ·refine Aq (Ab (sv rfl (Ao B4 rfl (.lp _ _ _ rfl) (Nbl rfl)) ?_))
   obtain ⟨v2, hv2, h⟩ := An h
   refine A1 rfl Aq6 (Ac rfl Al) (Aj rfl) (Jl hv2) (Ax Em rfl rfl rfl rfl (Nbl rfl) (Bt [.box (EL.el a0), .box (EL.el v2)] rfl (Ar (Bj (Bd (As ?_))))))
   obtain rfl := SJ h
   refine ⟨Or.inr rfl, _, _, _, (Ad (Bc.agg _ _ _ _ _ B4 rfl (.lp _ _ _ rfl) (Nbl rfl)) Af), (Aj rfl), ?_⟩
   rfl
  ·refine Bl (A5 (Ai (Aq (Ab (sv rfl (Ao B4 rfl (.lp _ _ _ rfl) (Nbl rfl)) ?_)))))
   obtain ⟨v3, hv3, h⟩ := An h
   refine A1 rfl Au6 (Ac rfl Al) (Aj rfl) (Nk hv3) (Ax Em rfl rfl rfl rfl (Nbl rfl) (Bt [.box (EL.el a0), .box (EL.el v3)] rfl (Ar (Bj ?_))))
   obtain rfl := SJ h
   refine ⟨Or.inr rfl, _, _, _, (Ad (Bc.agg _ _ _ _ _ B4 rfl (.lp _ _ _ rfl) (Nbl rfl)) Af), (Aj rfl), ?_⟩
   rfl
def Kf (b3 : Ag) : Option (Ag × Int) :=
 some (b3, 0)
def Kj (a0 : Ag) (a1 : Int) (b2 : Unit) : Option (Ag × Int) :=
 if (decide (a0.Left ≤ a1)) then ((Gu ({a0 with Left := (if (wI (a0.Left - a1)) > 0 then (wI (a0.Left - a1)) else 0)})).bind fun v4 => Kf v4) else (Kf ({a0 with Left := (if (wI (a0.Left - a1)) > 0 then (wI (a0.Left - a1)) else 0)}))
def Kh (a0 : Ag) (a1 : Int) (b1 : Unit) : Option (Ag × Int) :=
 if (decide (a0.Phase = 0)) then (some (a0, 0)) else ((Fp a0.Phase).bind fun v5 => if v5 then (some (a0, 0)) else (Kj a0 a1 ()))
def G0 (a0 : Ag) (a1 : Int) : Option (Ag × Int) :=
 (Ex a0).bind fun v6 => if (!v6) then (some (Cw, 1)) else ((Bx a1 0 1073741824).bind fun v7 => if (!v7) then (some (Cw, 1)) else (Kh a0 a1 ()))
theorem O4 {a0 : Ag} {a1 : Int} {r : Ag × Int} (h : G0 a0 a1 = some r) : Bp Tryz.prog 15 [.agg (EL.el a0), .one (Ii6 a1)] (· = .tup [.agg (EL.el r.1), .one (Ii6 r.2)]) := by
 unfold G0 at h
 refine A2 Tryz.func15 rfl (nt := 39) rfl (Nbl rfl) ?_
 intro w0 S0
 refine Aq (Ab (Je rfl rfl (Bz rfl Nc (sv rfl (Ak rfl) (Ar (Aq (Aq (Ki (Unit) (fun b1 => [(1, .s (.one (Ii6 a1))), (2, .s (.one (.lp 0 0))), (4, .s (.one (.lp 1 0)))]) (fun b1 => [.box (EL.el a0), .box Zba]) (fun b1 => Kh a0 a1 b1 = some r) (fun _ _ => Bg rfl) (fun _ _ => A0 rfl) (fun _ _ => Nbl rfl) (fun b1 h => ?_) ?_))))))))
 ·unfold Kh at h
  refine Aq (Aq (Ki (Unit) (fun b2 => [(1, .s (.one (Ii6 a1))), (2, .s (.one (.lp 0 0))), (4, .s (.one (.lp 1 0)))]) (fun b2 => [.box (EL.el a0), .box Zba]) (fun b2 => Kj a0 a1 b2 = some r) (fun _ _ => Bg rfl) (fun _ _ => A0 rfl) (fun _ _ => Nbl rfl) (fun b2 h => ?_) ?_))
  ·unfold Kj at h
   refine Aq (Ab (sv rfl (Aa Q4 rfl) (sv rfl (Ae ti3 rfl (.lp _ _ _ rfl) rfl) (sv rfl (Ah rfl) (sv rfl (F1 rfl rfl) (sv rfl (Ak rfl) (Ar (Aq (Ab (sv rfl (Aa Q4 rfl) (sv rfl (Ae ti3 rfl (.lp _ _ _ rfl) rfl) (sv rfl (Ah rfl) (sv rfl (My rfl rfl) (sv rfl (Afx rfl rfl) (sv rfl (Aa Q4 rfl) (Ax sz3 rfl rfl rfl rfl (Nbl rfl) (Bt [.box (EL.el {a0 with Left := if (wI (a0.Left - a1)) > 0 then (wI (a0.Left - a1)) else 0}), .box Zba] rfl (Ar (Aq (Aq (Ab (sv rfl (Ah rfl) (Ar (G5 (Ag) (fun b3 => [(2, .s (.one (.lp 0 0))), (4, .s (.one (.lp 1 0)))]) (fun b3 => [.box (EL.el b3), .box Zba]) (fun b3 => Kf b3 = some r) (fun _ _ => Bg rfl) (fun _ _ => A0 rfl) (fun _ _ => Nbl rfl) (fun b3 h => ?_) ?_))))))))))))))))))))))))
   ·unfold Kf at h
    refine Aq (Ab (sv rfl (Ao B4 rfl (.lp _ _ _ rfl) (Nbl rfl)) (Ax Em rfl rfl rfl rfl (Nbl rfl) (Bt [.box (EL.el b3), .box (EL.el b3)] rfl (sv rfl (Ak rfl) (Ar (Bj ?_)))))))
    obtain rfl := SJ h
    refine ⟨Or.inr rfl, _, _, _, (Ad (Bc.agg _ _ _ _ _ B4 rfl (.lp _ _ _ rfl) (Nbl rfl)) (Ad (Bc.tmp _ _ rfl) Af)), (Aj rfl), ?_⟩
    rfl
   ·skip
    refine ccI h rfl (fun h => ?_) (fun h => ?_)
    ·refine Ab (sv rfl (Ao B4 rfl (.lp _ _ _ rfl) (Nbl rfl)) ?_)
     obtain ⟨v4, hv4, h⟩ := An h
     refine A1 rfl Avh (Ac rfl Al) (Aj rfl) (Pt hv4) (Ax Em rfl rfl rfl rfl (Nbl rfl) (Bt [.box (EL.el v4), .box Zba] rfl (Ar ?_)))
     exact ⟨v4, _, h, ⟨rfl, rfl, trivial⟩, rfl⟩
    ·refine Bl (Ai ?_)
     exact ⟨{a0 with Left := (if (wI (a0.Left - a1)) > 0 then (wI (a0.Left - a1)) else 0)}, _, h, ⟨rfl, rfl, trivial⟩, rfl⟩
  ·skip
   refine Ab (sv rfl (Aa F7 rfl) (sv rfl (Ae ti3 rfl (.lp _ _ _ rfl) rfl) (sv rfl (Bo rfl rfl) (sv rfl (Ah rfl) (Bq 19 rfl (fun hc => ?_) (fun hc => ?_))))))
   ·replace h := B1 hc h
    clear hc
    refine Aw rfl rfl rfl rfl (Aw rfl rfl rfl rfl (Aw rfl rfl rfl rfl (sv rfl (Au rfl rfl) (Ar (Hy rfl (fun _ => ?_) (fun hx => Bool.noConfusion hx))))))
    refine Aq (Ab (sv rfl (Ao B4 rfl (.lp _ _ _ rfl) (Nbl rfl)) (Ax Em rfl rfl rfl rfl (Nbl rfl) (Bt [.box (EL.el a0), .box (EL.el a0)] rfl (sv rfl (Ak rfl) (Ar (Bj (As ?_))))))))
    obtain rfl := SJ h
    refine ⟨Or.inr rfl, _, _, _, (Ad (Bc.agg _ _ _ _ _ B4 rfl (.lp _ _ _ rfl) (Nbl rfl)) (Ad (Bc.tmp _ _ rfl) Af)), (Aj rfl), ?_⟩
    rfl
   ·replace h := B0 hc h
    clear hc
    refine son rfl rfl rfl (sv rfl (Aa F7 rfl) (son rfl rfl rfl (sv rfl (Ae ti3 rfl (.lp _ _ _ rfl) rfl) (son rfl rfl rfl ?_))))
    obtain ⟨v5, hv5, h⟩ := An h
    refine A1 rfl Apo (Ac rfl Al) (Aj rfl) (I6 hv5) (sv rfl (Am rfl rfl) (Ar (ccI h rfl (fun h => ?_) (fun h => ?_))))
    ·refine Aq (Ab (sv rfl (Ao B4 rfl (.lp _ _ _ rfl) (Nbl rfl)) (Ax Em rfl rfl rfl rfl (Nbl rfl) (Bt [.box (EL.el a0), .box (EL.el a0)] rfl (sv rfl (Ak rfl) (Ar (Bj (As ?_))))))))
     obtain rfl := SJ h
     refine ⟨Or.inr rfl, _, _, _, (Ad (Bc.agg _ _ _ _ _ B4 rfl (.lp _ _ _ rfl) (Nbl rfl)) (Ad (Bc.tmp _ _ rfl) Af)), (Aj rfl), ?_⟩
     rfl
    ·refine Bl (Ai ?_)
     exact ⟨(), _, h, ⟨rfl, rfl, rfl, trivial⟩, rfl⟩
 ·skip
  refine Ab (sv rfl (Ao B4 rfl (.lp _ _ _ rfl) (Nbl rfl)) ?_)
  obtain ⟨v6, hv6, h⟩ := An h
  refine A1 rfl Anm (Ac rfl Al) (Aj rfl) (Hp hv6) (sv rfl (B8 rfl) (sv rfl (Ah rfl) (Bq 10 rfl (fun hc => ?_) (fun hc => ?_))))
  ·replace h := B1 hc h
   clear hc
   refine Aw rfl rfl rfl rfl (Aw rfl rfl rfl rfl (Aw rfl rfl rfl rfl (sv rfl (Au rfl rfl) (Ar (Hy rfl (fun _ => ?_) (fun hx => Bool.noConfusion hx))))))
   refine Aq (Ab (sv rfl (Bk Nc Add A9 (.nil _)) (Ax Em rfl rfl rfl rfl (Nbl rfl) (Bt [.box (EL.el a0), .box Zba] rfl (sv rfl (Ak rfl) (Ar (Bj (As ?_))))))))
   obtain rfl := SJ h
   refine ⟨Or.inr rfl, _, _, _, (Ad (Bc.agg _ _ _ _ _ B4 rfl (.lp _ _ _ rfl) (Nbl rfl)) (Ad (Bc.tmp _ _ rfl) Af)), (Nl rfl), ?_⟩
   rfl
  ·replace h := B0 hc h
   clear hc
   refine son rfl rfl rfl (sv rfl (Ah rfl) (son rfl rfl rfl ?_))
   obtain ⟨v7, hv7, h⟩ := An h
   refine A1 rfl Aen (Ac rfl (Ac rfl (Ac rfl Al))) (Aj rfl) (Cj hv7) (son rfl rfl rfl (sv rfl (B8 rfl) (sv rfl (Am rfl rfl) (Ar (ccI h rfl (fun h => ?_) (fun h => ?_))))))
   ·refine Aq (Ab (sv rfl (Bk Nc Add A9 (.nil _)) (Ax Em rfl rfl rfl rfl (Nbl rfl) (Bt [.box (EL.el a0), .box Zba] rfl (sv rfl (Ak rfl) (Ar (Bj (As ?_))))))))
    obtain rfl := SJ h
    refine ⟨Or.inr rfl, _, _, _, (Ad (Bc.agg _ _ _ _ _ B4 rfl (.lp _ _ _ rfl) (Nbl rfl)) (Ad (Bc.tmp _ _ rfl) Af)), (Nl rfl), ?_⟩
    rfl
   ·refine Bl (Ai ?_)
    exact ⟨(), _, h, ⟨rfl, rfl, rfl, trivial⟩, rfl⟩
def Jw (a0 : Ag) : Option (Ag × (List UInt8)) :=
 (Ex a0).bind fun v1 => if (!v1) then (some (Cw, ([] : List UInt8))) else (some ({a0 with Out := ([] : List UInt8)}, a0.Out))
theorem Tn {a0 : Ag} {r : Ag × (List UInt8)} (h : Jw a0 = some r) : Bp Tryz.prog 28 [.agg (EL.el a0)] (· = .tup [.agg (EL.el r.1), .one (.sl r.2.length (r.2.flatMap eU8))]) := by
 unfold Jw at h
 refine A2 Tryz.func28 rfl (nt := 14) rfl (Nbl rfl) ?_
 intro w0 S0
 refine Aq (Ab (Je rfl rfl (Bz rfl Nc (sv rfl (Ak rfl) (Ar (Aq (Aq (Ab (sv rfl (Ao B4 rfl (.lp _ _ _ rfl) (Nbl rfl)) ?_)))))))))
 obtain ⟨v1, hv1, h⟩ := An h
 refine A1 rfl Anm (Ac rfl Al) (Aj rfl) (Hp hv1) (sv rfl (B8 rfl) (Ar (ccI h rfl (fun h => ?_) (fun h => ?_))))
 ·refine Aq (Ab (sv rfl (Bk Nc Add A9 (.nil _)) (Ax Em rfl rfl rfl rfl (Nbl rfl) (Bt [.box (EL.el a0), .box Zba] rfl (sv rfl (Ak rfl) (Ar (Bj (As ?_))))))))
  obtain rfl := SJ h
  refine ⟨Or.inr rfl, _, _, _, (Ad (Bc.agg _ _ _ _ _ B4 rfl (.lp _ _ _ rfl) (Nbl rfl)) (Ad (Bc.tmp _ _ rfl) Af)), (Nl rfl), ?_⟩
  rfl
 ·refine Bl (Ai (Aq (Ab (sv rfl (Aa Qh rfl) (sv rfl (Ae L2 rfl (.lp _ _ _ rfl) rfl) (sv rfl (Ak rfl) (Ar (Aq (Ab (sv rfl (Aa Qh rfl) (Ax Apr rfl rfl rfl rfl (Nbl rfl) (Bt [.box ((EL.el a0).set 37 (Znl)), .box Zba] rfl (Ar (Aq (Ab (sv rfl (Ao B4 rfl (.lp _ _ _ rfl) (Nbl rfl)) (sv rfl (Ah rfl) (Ax Em rfl rfl rfl rfl (Nbl rfl) (Bt [.box ((EL.el a0).set 37 (Znl)), .box ((EL.el a0).set 37 (Znl))] rfl (sv rfl (Ak rfl) (Ar (Bj ?_))))))))))))))))))))))
  obtain rfl := SJ h
  refine ⟨Or.inr rfl, _, _, _, (Ad (Bc.agg _ _ _ _ _ B4 rfl (.lp _ _ _ rfl) (Nbl rfl)) (Ad (Bc.tmp _ _ rfl) Af)), (Nl rfl), ?_⟩
  rfl
def Ng (a0 : Ag) (a1 : Ka) : Option Ag :=
 if (decide (a1.What ≤ 1)) then ((Kl a1.Task.Prog).bind fun v1 => (Dh a0 (Av.mk a1.Task.Token v1)).bind fun v2 => if (decide (v2.2 = 0)) then (some v2.1) else (some a0)) else (if (decide (a1.What = 2)) then ((Dn a0).bind fun v3 => if (decide (v3.2 = 0)) then (some v3.1) else (some a0)) else (if (decide (a1.What = 3)) then ((Kt a0).bind fun v4 => some v4) else (if (decide (a1.What ≤ 8)) then ((F0 a0 a1.Reply).bind fun v5 => (Ht a0 v5).bind fun v6 => some v6) else (if (decide (a1.What = 9)) then ((Ht a0 a1.Bytes).bind fun v7 => some v7) else (if (decide (a1.What ≤ 11)) then ((G0 a0 a1.N).bind fun v8 => if (decide (v8.2 = 0)) then (some v8.1) else (some a0)) else ((Jw a0).bind fun v9 => some v9.1))))))
theorem Xa {a0 : Ag} {a1 : Ka} {r : Ag} (h : Ng a0 a1 = some r) : Bp Tryz.prog 11 [.agg (EL.el a0), .agg (EL.el a1)] (· = .s (.agg (EL.el r))) := by
 unfold Ng at h
 refine A2 Tryz.func11 rfl (nt := 92) rfl (Nbl rfl) ?_
 intro w0 S0
 refine Aq (Ab (Je rfl rfl (Je rfl rfl (Bz rfl Nc (Ar (Aq (Ca (Aq (Ab (sv rfl (Aa Xq rfl) (sv rfl (Ae ti3 rfl (.lp _ _ _ rfl) rfl) (sv rfl (F1 rfl rfl) (sv rfl (Ak rfl) (Ar (ccI h rfl (fun h => ?_) (fun h => ?_))))))))))))))))
 ·refine Aq (Adu ?_)
  obtain ⟨v1, hv1, h⟩ := An h
  obtain ⟨v2, hv2, h⟩ := An h
  refine Jq [13, 14] [0, 0, 2, 6, 0, 16, 48, 112, 254, 511, 1023, 2047, 2047, 0, 12287, 32767] [[.box (EL.el a0), .box (EL.el a1), .box Zba, .hole], [.box (EL.el a0), .box (EL.el a1), .box Zba, .box Zba], [.box (EL.el a0), .box (EL.el a1), .box Zba, .box (EL.el v2.1)]] (by kernel_rfl) Lz (by kernel_rfl) (by decide) rfl rfl rfl rfl ?_
  refine ev (B3 (md := [.box (EL.el a0), .box (EL.el a1), .box Zba, .dead]) ⟨⟨rfl, ⟨rfl, ⟨rfl, ⟨trivial, trivial⟩⟩⟩⟩, ⟨⟨rfl, ⟨rfl, ⟨rfl, ⟨trivial, trivial⟩⟩⟩⟩, ⟨⟨rfl, ⟨rfl, ⟨rfl, ⟨trivial, trivial⟩⟩⟩⟩, trivial⟩⟩⟩) rfl rfl (Ao B4 rfl (.lp _ _ _ rfl) (Nbl rfl)) (ev (B3 (md := [.box (EL.el a0), .box (EL.el a1), .box Zba, .dead]) ⟨⟨rfl, ⟨rfl, ⟨rfl, ⟨trivial, trivial⟩⟩⟩⟩, ⟨⟨rfl, ⟨rfl, ⟨rfl, ⟨trivial, trivial⟩⟩⟩⟩, ⟨⟨rfl, ⟨rfl, ⟨rfl, ⟨trivial, trivial⟩⟩⟩⟩, trivial⟩⟩⟩) rfl rfl (Aa Ags rfl) (ev (B3 (md := [.box (EL.el a0), .box (EL.el a1), .box Zba, .dead]) ⟨⟨rfl, ⟨rfl, ⟨rfl, ⟨trivial, trivial⟩⟩⟩⟩, ⟨⟨rfl, ⟨rfl, ⟨rfl, ⟨trivial, trivial⟩⟩⟩⟩, ⟨⟨rfl, ⟨rfl, ⟨rfl, ⟨trivial, trivial⟩⟩⟩⟩, trivial⟩⟩⟩) rfl rfl (Aa Api rfl) (ev (B3 (md := [.box (EL.el a0), .box (EL.el a1), .box Zba, .dead]) ⟨⟨rfl, ⟨rfl, ⟨rfl, ⟨trivial, trivial⟩⟩⟩⟩, ⟨⟨rfl, ⟨rfl, ⟨rfl, ⟨trivial, trivial⟩⟩⟩⟩, ⟨⟨rfl, ⟨rfl, ⟨rfl, ⟨trivial, trivial⟩⟩⟩⟩, trivial⟩⟩⟩) rfl rfl (Ae ti3 rfl (.lp _ _ _ rfl) rfl) (ev (B3 (md := [.box (EL.el a0), .box (EL.el a1), .box Zba, .dead]) ⟨⟨rfl, ⟨rfl, ⟨rfl, ⟨trivial, trivial⟩⟩⟩⟩, ⟨⟨rfl, ⟨rfl, ⟨rfl, ⟨trivial, trivial⟩⟩⟩⟩, ⟨⟨rfl, ⟨rfl, ⟨rfl, ⟨trivial, trivial⟩⟩⟩⟩, trivial⟩⟩⟩) rfl rfl (Aa Ags rfl) (ev (B3 (md := [.box (EL.el a0), .box (EL.el a1), .box Zba, .dead]) ⟨⟨rfl, ⟨rfl, ⟨rfl, ⟨trivial, trivial⟩⟩⟩⟩, ⟨⟨rfl, ⟨rfl, ⟨rfl, ⟨trivial, trivial⟩⟩⟩⟩, ⟨⟨rfl, ⟨rfl, ⟨rfl, ⟨trivial, trivial⟩⟩⟩⟩, trivial⟩⟩⟩) rfl rfl (Aa Akp rfl) (ev (B3 (md := [.box (EL.el a0), .box (EL.el a1), .box Zba, .dead]) ⟨⟨rfl, ⟨rfl, ⟨rfl, ⟨trivial, trivial⟩⟩⟩⟩, ⟨⟨rfl, ⟨rfl, ⟨rfl, ⟨trivial, trivial⟩⟩⟩⟩, ⟨⟨rfl, ⟨rfl, ⟨rfl, ⟨trivial, trivial⟩⟩⟩⟩, trivial⟩⟩⟩) rfl rfl (Ao Atx rfl (.lp _ _ _ rfl) (Nbl rfl)) (ed (B3 (md := [.box (EL.el a0), .box (EL.el a1), .box Zba, .dead]) ⟨⟨rfl, ⟨rfl, ⟨rfl, ⟨trivial, trivial⟩⟩⟩⟩, ⟨⟨rfl, ⟨rfl, ⟨rfl, ⟨trivial, trivial⟩⟩⟩⟩, ⟨⟨rfl, ⟨rfl, ⟨rfl, ⟨trivial, trivial⟩⟩⟩⟩, trivial⟩⟩⟩) rfl rfl (Dy Au0 (Ac rfl Al) rfl (Ub hv1)) (ev (B3 (md := [.box (EL.el a0), .box (EL.el a1), .box Zba, .dead]) ⟨⟨rfl, ⟨rfl, ⟨rfl, ⟨trivial, trivial⟩⟩⟩⟩, ⟨⟨rfl, ⟨rfl, ⟨rfl, ⟨trivial, trivial⟩⟩⟩⟩, ⟨⟨rfl, ⟨rfl, ⟨rfl, ⟨trivial, trivial⟩⟩⟩⟩, trivial⟩⟩⟩) rfl rfl (Bk Anv Aua (Ap rfl (Ap rfl A9)) (.cons _ _ _ _ _ _ _ rfl rfl (Nbl rfl) (.cons _ _ _ _ _ _ _ rfl rfl (Nbl rfl) (.nil _)))) (ed (B3 (md := [.box (EL.el a0), .box (EL.el a1), .box Zba, .dead]) ⟨⟨rfl, ⟨rfl, ⟨rfl, ⟨trivial, trivial⟩⟩⟩⟩, ⟨⟨rfl, ⟨rfl, ⟨rfl, ⟨trivial, trivial⟩⟩⟩⟩, ⟨⟨rfl, ⟨rfl, ⟨rfl, ⟨trivial, trivial⟩⟩⟩⟩, trivial⟩⟩⟩) rfl rfl (Dy Atn (Ac rfl (Ac rfl Al)) rfl (Oc hv2)) (emv rfl rfl (fun _ => Fs rfl) ?_))))))))))
  refine ev (B3 (md := [.box (EL.el a0), .box (EL.el a1), .box Zba, .dead]) ⟨⟨rfl, ⟨rfl, ⟨rfl, ⟨trivial, trivial⟩⟩⟩⟩, ⟨⟨rfl, ⟨rfl, ⟨rfl, ⟨trivial, trivial⟩⟩⟩⟩, ⟨⟨rfl, ⟨rfl, ⟨rfl, ⟨trivial, trivial⟩⟩⟩⟩, trivial⟩⟩⟩) rfl rfl (A7 rfl rfl) (ev (B3 (md := [.box (EL.el a0), .box (EL.el a1), .box Zba, .dead]) ⟨⟨rfl, ⟨rfl, ⟨rfl, ⟨trivial, trivial⟩⟩⟩⟩, ⟨⟨rfl, ⟨rfl, ⟨rfl, ⟨trivial, trivial⟩⟩⟩⟩, ⟨⟨rfl, ⟨rfl, ⟨rfl, ⟨trivial, trivial⟩⟩⟩⟩, trivial⟩⟩⟩) rfl rfl (A7 rfl rfl) (ee (x := .s (.one (.lp 3 0))) 0 rfl rfl rfl rfl rfl (fun ζ => ?_) ?_))
  ·refine Na 3 rfl Nc rfl ?_
   exact Rq
  refine ee0 1 rfl rfl rfl rfl (fun ζ => ?_) ?_
  ·refine Ax Em rfl rfl rfl rfl (Nbl rfl) (Bt [.box (EL.el a0), .box (EL.el a1), .box Zba, .box (EL.el v2.1)] rfl ?_)
   exact Rq
  refine ev (Bh 2 rfl rfl) rfl rfl (Ak rfl) (Ys (Ai (Aq (Aq (Ab (sv rfl (Ah rfl) (sv rfl (Bo rfl rfl) (Ar (ccI h rfl (fun h => ?_) (fun h => ?_))))))))))
  ·refine Aq (Ab (sv rfl (Ao B4 rfl (.lp _ _ _ rfl) (Nbl rfl)) (Ax Em rfl rfl rfl rfl (Nbl rfl) (Bt [.box (EL.el a0), .box (EL.el a1), .box (EL.el v2.1), .box (EL.el v2.1)] rfl (Ar (Bj (As (Bd (As ?_)))))))))
   obtain rfl := SJ h
   refine ⟨Or.inr rfl, _, _, _, (Ad (Bc.agg _ _ _ _ _ B4 rfl (.lp _ _ _ rfl) (Nbl rfl)) Af), (Aj rfl), ?_⟩
   rfl
  ·refine Bl (Ai (Aq (Ab (sv rfl (Ao B4 rfl (.lp _ _ _ rfl) (Nbl rfl)) (Ax Em rfl rfl rfl rfl (Nbl rfl) (Bt [.box (EL.el a0), .box (EL.el a1), .box (EL.el a0), .box (EL.el v2.1)] rfl (Ar (Bj (Bd (As ?_))))))))))
   obtain rfl := SJ h
   refine ⟨Or.inr rfl, _, _, _, (Ad (Bc.agg _ _ _ _ _ B4 rfl (.lp _ _ _ rfl) (Nbl rfl)) Af), (Aj rfl), ?_⟩
   rfl
 ·refine Aq (Ab (sv rfl (Aa Xq rfl) (sv rfl (Ae ti3 rfl (.lp _ _ _ rfl) rfl) (sv rfl (Bo rfl rfl) (sv rfl (Ak rfl) (Ar (ccI h rfl (fun h => ?_) (fun h => ?_))))))))
  ·refine Aq (Ab (sv rfl (Ao B4 rfl (.lp _ _ _ rfl) (Nbl rfl)) ?_))
   obtain ⟨v3, hv3, h⟩ := An h
   refine A1 rfl Arf (Ac rfl Al) (Aj rfl) (Kb hv3) (sv rfl (Fs rfl) (sv rfl (A7 rfl rfl) (sv rfl (A7 rfl rfl) (Bz rfl Nc (Ax Em rfl rfl rfl rfl (Nbl rfl) (Bt [.box (EL.el a0), .box (EL.el a1), .box Zba, .box (EL.el v3.1)] rfl (sv rfl (Ak rfl) (Ar (Aq (Aq (Ab (sv rfl (Ah rfl) (sv rfl (Bo rfl rfl) (Ar (ccI h rfl (fun h => ?_) (fun h => ?_))))))))))))))))
   ·refine Aq (Ab (sv rfl (Ao B4 rfl (.lp _ _ _ rfl) (Nbl rfl)) (Ax Em rfl rfl rfl rfl (Nbl rfl) (Bt [.box (EL.el a0), .box (EL.el a1), .box (EL.el v3.1), .box (EL.el v3.1)] rfl (Ar (Bj (As (Bd (As ?_)))))))))
    obtain rfl := SJ h
    refine ⟨Or.inr rfl, _, _, _, (Ad (Bc.agg _ _ _ _ _ B4 rfl (.lp _ _ _ rfl) (Nbl rfl)) Af), (Aj rfl), ?_⟩
    rfl
   ·refine Bl (Ai (Aq (Ab (sv rfl (Ao B4 rfl (.lp _ _ _ rfl) (Nbl rfl)) (Ax Em rfl rfl rfl rfl (Nbl rfl) (Bt [.box (EL.el a0), .box (EL.el a1), .box (EL.el a0), .box (EL.el v3.1)] rfl (Ar (Bj (Bd (As ?_))))))))))
    obtain rfl := SJ h
    refine ⟨Or.inr rfl, _, _, _, (Ad (Bc.agg _ _ _ _ _ B4 rfl (.lp _ _ _ rfl) (Nbl rfl)) Af), (Aj rfl), ?_⟩
    rfl
  ·refine Aq (Ab (sv rfl (Aa Xq rfl) (sv rfl (Ae ti3 rfl (.lp _ _ _ rfl) rfl) (sv rfl (Bo rfl rfl) (sv rfl (Ak rfl) (Ar (ccI h rfl (fun h => ?_) (fun h => ?_))))))))
   ·refine Aq (Ab (sv rfl (Ao B4 rfl (.lp _ _ _ rfl) (Nbl rfl)) ?_))
    obtain ⟨v4, hv4, h⟩ := An h
    refine A1 rfl Awd (Ac rfl Al) (Aj rfl) (Ud hv4) (Ax Em rfl rfl rfl rfl (Nbl rfl) (Bt [.box (EL.el a0), .box (EL.el a1), .box (EL.el v4)] rfl (Ar (Bj (Bd (As ?_))))))
    obtain rfl := SJ h
    refine ⟨Or.inr rfl, _, _, _, (Ad (Bc.agg _ _ _ _ _ B4 rfl (.lp _ _ _ rfl) (Nbl rfl)) Af), (Aj rfl), ?_⟩
    rfl
   ·refine Aq (Ab (sv rfl (Aa Xq rfl) (sv rfl (Ae ti3 rfl (.lp _ _ _ rfl) rfl) (sv rfl (F1 rfl rfl) (sv rfl (Ak rfl) (Ar (ccI h rfl (fun h => ?_) (fun h => ?_))))))))
    ·refine Aq ?_
     obtain ⟨v5, hv5, h⟩ := An h
     obtain ⟨v6, hv6, h⟩ := An h
     refine Jq [6] [0, 0, 0, 4, 14, 31, 63] [[.box (EL.el a0), .box (EL.el a1), .box Zba], [.box (EL.el a0), .box (EL.el a1), .box (EL.el v6)]] (by kernel_rfl) Lz (by kernel_rfl) (by decide) rfl rfl rfl rfl ?_
     refine ev (Bh 0 rfl rfl) rfl rfl (Ao B4 rfl (.lp _ _ _ rfl) (Nbl rfl)) (ev (Bh 0 rfl rfl) rfl rfl (Ao B4 rfl (.lp _ _ _ rfl) (Nbl rfl)) (ev (Bh 0 rfl rfl) rfl rfl (Aa Ak1 rfl) (ev (Bh 0 rfl rfl) rfl rfl (Ao Auk rfl (.lp _ _ _ rfl) (Nbl rfl)) (ed (Bh 0 rfl rfl) rfl rfl (Dy Ats (Ac rfl (Ac rfl Al)) rfl (Oo hv5)) (ed (Bh 0 rfl rfl) rfl rfl (Dy Arg (Ac rfl (Ac rfl Al)) rfl (M4 hv6)) (ee0 0 rfl rfl rfl rfl (fun ζ => ?_) ?_))))))
     ·refine Ax Em rfl rfl rfl rfl (Nbl rfl) (Bt [.box (EL.el a0), .box (EL.el a1), .box (EL.el v6)] rfl ?_)
      exact Rq
     refine Ys (Ai (Bj (Bd (As ?_))))
     obtain rfl := SJ h
     refine ⟨Or.inr rfl, _, _, _, (Ad (Bc.agg _ _ _ _ _ B4 rfl (.lp _ _ _ rfl) (Nbl rfl)) Af), (Aj rfl), ?_⟩
     rfl
    ·refine Aq (Ab (sv rfl (Aa Xq rfl) (sv rfl (Ae ti3 rfl (.lp _ _ _ rfl) rfl) (sv rfl (Bo rfl rfl) (sv rfl (Ak rfl) (Ar (ccI h rfl (fun h => ?_) (fun h => ?_))))))))
     ·refine Aq (Ab (sv rfl (Ao B4 rfl (.lp _ _ _ rfl) (Nbl rfl)) (sv rfl (Aa Akd rfl) (sv rfl (Ae L2 rfl (.lp _ _ _ rfl) rfl) ?_))))
      obtain ⟨v7, hv7, h⟩ := An h
      refine A1 rfl Arg (Ac rfl (Ac rfl Al)) (Aj rfl) (M4 hv7) (Ax Em rfl rfl rfl rfl (Nbl rfl) (Bt [.box (EL.el a0), .box (EL.el a1), .box (EL.el v7)] rfl (Ar (Bj (Bd (As ?_))))))
      obtain rfl := SJ h
      refine ⟨Or.inr rfl, _, _, _, (Ad (Bc.agg _ _ _ _ _ B4 rfl (.lp _ _ _ rfl) (Nbl rfl)) Af), (Aj rfl), ?_⟩
      rfl
     ·refine Aq (Ab (sv rfl (Aa Xq rfl) (sv rfl (Ae ti3 rfl (.lp _ _ _ rfl) rfl) (sv rfl (F1 rfl rfl) (sv rfl (Ak rfl) (Ar (ccI h rfl (fun h => ?_) (fun h => ?_))))))))
      ·refine Aq (Ab (sv rfl (Ao B4 rfl (.lp _ _ _ rfl) (Nbl rfl)) (sv rfl (Aa Ap2 rfl) (sv rfl (Ae ti3 rfl (.lp _ _ _ rfl) rfl) ?_))))
       obtain ⟨v8, hv8, h⟩ := An h
       refine A1 rfl Auj (Ac rfl (Ac rfl Al)) (Aj rfl) (O4 hv8) (sv rfl (Fs rfl) (sv rfl (A7 rfl rfl) (sv rfl (A7 rfl rfl) (Bz rfl Nc (Ax Em rfl rfl rfl rfl (Nbl rfl) (Bt [.box (EL.el a0), .box (EL.el a1), .box Zba, .box (EL.el v8.1)] rfl (sv rfl (Ak rfl) (Ar (Aq (Aq (Ab (sv rfl (Ah rfl) (sv rfl (Bo rfl rfl) (Ar (ccI h rfl (fun h => ?_) (fun h => ?_))))))))))))))))
       ·refine Aq (Ab (sv rfl (Ao B4 rfl (.lp _ _ _ rfl) (Nbl rfl)) (Ax Em rfl rfl rfl rfl (Nbl rfl) (Bt [.box (EL.el a0), .box (EL.el a1), .box (EL.el v8.1), .box (EL.el v8.1)] rfl (Ar (Bj (As (Bd (As ?_)))))))))
        obtain rfl := SJ h
        refine ⟨Or.inr rfl, _, _, _, (Ad (Bc.agg _ _ _ _ _ B4 rfl (.lp _ _ _ rfl) (Nbl rfl)) Af), (Aj rfl), ?_⟩
        rfl
       ·refine Bl (Ai (Aq (Ab (sv rfl (Ao B4 rfl (.lp _ _ _ rfl) (Nbl rfl)) (Ax Em rfl rfl rfl rfl (Nbl rfl) (Bt [.box (EL.el a0), .box (EL.el a1), .box (EL.el a0), .box (EL.el v8.1)] rfl (Ar (Bj (Bd (As ?_))))))))))
        obtain rfl := SJ h
        refine ⟨Or.inr rfl, _, _, _, (Ad (Bc.agg _ _ _ _ _ B4 rfl (.lp _ _ _ rfl) (Nbl rfl)) Af), (Aj rfl), ?_⟩
        rfl
      ·refine Bl (A5 (Ai (Aq (Ab (sv rfl (Ao B4 rfl (.lp _ _ _ rfl) (Nbl rfl)) ?_)))))
       obtain ⟨v9, hv9, h⟩ := An h
       refine A1 rfl Avn (Ac rfl Al) (Aj rfl) (Tn hv9) (sv rfl (Fs rfl) (sv rfl (A7 rfl rfl) (sv rfl (A7 rfl rfl) (Bz rfl Nc (Ax Em rfl rfl rfl rfl (Nbl rfl) (Bt [.box (EL.el a0), .box (EL.el a1), .box Zba, .box (EL.el v9.1)] rfl (sv rfl (Ak rfl) (Ar (Aq (Ab (sv rfl (Ao B4 rfl (.lp _ _ _ rfl) (Nbl rfl)) (Ax Em rfl rfl rfl rfl (Nbl rfl) (Bt [.box (EL.el a0), .box (EL.el a1), .box (EL.el v9.1), .box (EL.el v9.1)] rfl (Ar (Bj ?_)))))))))))))))
       obtain rfl := SJ h
       refine ⟨Or.inr rfl, _, _, _, (Ad (Bc.agg _ _ _ _ _ B4 rfl (.lp _ _ _ rfl) (Nbl rfl)) Af), (Aj rfl), ?_⟩
       rfl
def Hb (v1 : Bool) (b6 : Ag) : Option Bool :=
 if v1 then (if (decide (b6.Phase = 11)) then (some (decide ((b6.Tasks.length : Int) = 0))) else (if (decide (b6.Phase = 0)) then (some (decide ((b6.Tasks.length : Int) = 0))) else (some false))) else (some false)
def Ei (s7 : Int × Ag) (b8 : Ag) (b9 : Unit) : Option (LR (Int × Ag) (Ag) (Bool)) :=
 (G0 b8 50).bind fun v10 => if (!decide (v10.2 = 0)) then (some (.ret false)) else (some (.cont ((wI (s7.1 + 1)), v10.1)))
def Dp (a1 : Bool) (v1 : Bool) (s7 : Int × Ag) (b8 : Ag) : Option (LR (Int × Ag) (Ag) (Bool)) :=
 if (!a1) then (if (decide (b8.Phase = 1)) then (some (.ret v1)) else (Ei s7 b8 ())) else (Ei s7 b8 ())
def Hd (a1 : Bool) (v1 : Bool) (s7 : Int × Ag) : Option (LR (Int × Ag) (Ag) (Bool)) :=
 if (decide (s7.1 < 200)) then (if a1 then (if (decide (s7.2.Phase = 1)) then ((Dn s7.2).bind fun v11 => if (!decide (v11.2 = 0)) then (some (.ret false)) else (Dp a1 v1 s7 v11.1)) else (Dp a1 v1 s7 s7.2)) else (Dp a1 v1 s7 s7.2)) else (some (.brk s7.2))
def Ha (a1 : Bool) (v1 : Bool) (b5 : Ag) : Option Bool :=
 (Rv (Hd a1 v1) fuel (0, b5)).bind fun x => match x with | .inl r => some r | .inr e12 => Hb v1 e12
def Gr (a0 : List Ka) (s13 : Int × Ag) : Option (LB (Int × Ag) (Ag)) :=
 if (decide (s13.1 < (a0.length : Int))) then ((idx a0 s13.1).bind fun u14 => (Ng s13.2 u14).bind fun v15 => some (.cont ((wI (s13.1 + 1)), v15))) else (some (.brk s13.2))
def Kw (a0 : List Ka) (a1 : Bool) : Option Bool :=
 (Ok).bind fun v1 => (Ni a0).bind fun v2 => if (!v2) then (some v1) else ((Nf).bind fun v3 => (K6 v3).bind fun v4 => if (!decide (v4.2 = 0)) then (some false) else ((Ez (Gr a0) fuel (0, v4.1)).bind fun e16 => Ha a1 v1 e16))
theorem Sy {a0 : List Ka} {a1 : Bool} {r : Bool} (h : Kw a0 a1 = some r) : Bp Tryz.prog 5 [.one (.sl a0.length (a0.flatMap M6)), .one (.b a1)] (· = .s (.one (.b r))) := by
 unfold Kw at h
 refine A2 Tryz.func5 rfl (nt := 89) rfl (Nbl rfl) ?_
 intro w0 S0
 refine Aq (Ab (sv rfl (Ak rfl) (Ar (Aq (Ab ?_)))))
 obtain ⟨v1, hv1, h⟩ := An h
 refine A1 rfl fn7 Al (Aj rfl) (Xe hv1) (sv rfl (Ak rfl) (Ar (Aq (Aq (Ab (sv rfl (Ah rfl) ?_))))))
 obtain ⟨v2, hv2, h⟩ := An h
 refine A1 rfl fn8 (Ac rfl Al) (Aj rfl) (Xh hv2) (sv rfl (B8 rfl) (Ar (ccI h rfl (fun h => ?_) (fun h => ?_))))
 ·refine Aq (Ab (sv rfl (Ah rfl) (sv rfl (Ak rfl) (Ar (Bj (As ?_))))))
  obtain rfl := SJ h
  refine ⟨Or.inr rfl, _, _, _, (Ad (Bc.tmp _ _ rfl) Af), (Aj rfl), ?_⟩
  rfl
 ·refine Bl (Ai (Aq (Ab ?_)))
  obtain ⟨v3, hv3, h⟩ := An h
  refine A1 rfl Atk Al (Aj rfl) (R9 hv3) ?_
  obtain ⟨v4, hv4, h⟩ := An h
  refine A1 rfl fn9 (Ac rfl Al) (Aj rfl) (Qm hv4) (sv rfl (Fs rfl) (sv rfl (A7 rfl rfl) (sv rfl (A7 rfl rfl) (Bz rfl Nc (Ax Em rfl rfl rfl rfl (Nbl rfl) (Bt [.box (EL.el v4.1)] rfl (sv rfl (Ak rfl) (Ar (Aq (Aq (Ab (sv rfl (Ah rfl) (sv rfl (Cd rfl rfl) (Ar (ccI h rfl (fun h => ?_) (fun h => ?_))))))))))))))))
  ·refine Aq (Ab (sv rfl (Ak rfl) (Ar (Bj (As ?_)))))
   obtain rfl := SJ h
   refine ⟨Or.inr rfl, _, _, _, (Ad (Bc.tmp _ _ rfl) Af), (Aj rfl), ?_⟩
   rfl
  ·refine Bl (Ai (Aq (Aq (Ab (sv rfl (Ak rfl) (Ar (G5 (Ag) (fun b5 => [(1, .s (.one (.b a1))), (5, .s (.one (.b v1))), (6, .s (.one (.lp 0 0)))]) (fun b5 => [.box (EL.el b5)]) (fun b5 => Ha a1 v1 b5 = some r) (fun _ _ => Bg rfl) (fun _ _ => A0 rfl) (fun _ _ => Nbl rfl) (fun b5 h => ?_) ?_)))))))
   ·unfold Ha at h
    refine Aq (Aq (Ab (sv rfl (Ak rfl) (Ar (G5 (Ag) (fun b6 => [(5, .s (.one (.b v1))), (6, .s (.one (.lp 0 0)))]) (fun b6 => [.box (EL.el b6)]) (fun b6 => Hb v1 b6 = some r) (fun _ _ => Bg rfl) (fun _ _ => A0 rfl) (fun _ _ => Nbl rfl) (fun b6 h => ?_) ?_)))))
    ·unfold Hb at h
     refine Aq (Ab (sv rfl (Ah rfl) (sv rfl (Ah rfl) (Bq 73 rfl (fun hc => ?_) (fun hc => ?_)))))
     ·replace h := B1 hc h
      clear hc
      refine son rfl rfl rfl (sv rfl (Aa F7 rfl) (son rfl rfl rfl (sv rfl (Ae ti3 rfl (.lp _ _ _ rfl) rfl) (son rfl rfl rfl (sv rfl (Bo rfl rfl) (son rfl rfl rfl (sv rfl (Ah rfl) (Bq 77 rfl (fun hc => ?_) (fun hc => ?_)))))))))
      ·replace h := B1 hc h
       clear hc
       refine Aw rfl rfl rfl rfl (Aw rfl rfl rfl rfl (Aw rfl rfl rfl rfl (son rfl rfl rfl (sv rfl (Au rfl rfl) (sv rfl (Au rfl rfl) (sv rfl (Ah rfl) (son rfl rfl rfl (sv rfl (Aa Mb rfl) (son rfl rfl rfl (sv rfl (Ae Y0 rfl (.lp _ _ _ rfl) rfl) (son rfl rfl rfl (sv rfl (Az Uf rfl) (son rfl rfl rfl (sv rfl (Bo rfl rfl) (sv rfl (Au rfl rfl) (sv rfl (Ak rfl) (Ar (Bj ?_))))))))))))))))))
       obtain rfl := SJ h
       refine ⟨Or.inr rfl, _, _, _, (Ad (Bc.tmp _ _ rfl) Af), (Aj rfl), ?_⟩
       rfl
      ·replace h := B0 hc h
       clear hc
       refine son rfl rfl rfl (sv rfl (Aa F7 rfl) (son rfl rfl rfl (sv rfl (Ae ti3 rfl (.lp _ _ _ rfl) rfl) (son rfl rfl rfl (sv rfl (Bo rfl rfl) (son rfl rfl rfl (sv rfl (Am rfl rfl) (sv rfl (Au rfl rfl) (sv rfl (Ah rfl) (Bq 83 rfl (fun hc => ?_) (fun hc => ?_)))))))))))
       ·replace h := B1 hc h
        clear hc
        refine son rfl rfl rfl (sv rfl (Aa Mb rfl) (son rfl rfl rfl (sv rfl (Ae Y0 rfl (.lp _ _ _ rfl) rfl) (son rfl rfl rfl (sv rfl (Az Uf rfl) (son rfl rfl rfl (sv rfl (Bo rfl rfl) (sv rfl (Au rfl rfl) (sv rfl (Ak rfl) (Ar (Bj ?_)))))))))))
        obtain rfl := SJ h
        refine ⟨Or.inr rfl, _, _, _, (Ad (Bc.tmp _ _ rfl) Af), (Aj rfl), ?_⟩
        rfl
       ·replace h := B0 hc h
        clear hc
        refine Aw rfl rfl rfl rfl (Aw rfl rfl rfl rfl (Aw rfl rfl rfl rfl (Aw rfl rfl rfl rfl (sv rfl (Am rfl rfl) (sv rfl (Ak rfl) (Ar (Bj ?_)))))))
        obtain rfl := SJ h
        refine ⟨Or.inr rfl, _, _, _, (Ad (Bc.tmp _ _ rfl) Af), (Aj rfl), ?_⟩
        rfl
     ·replace h := B0 hc h
      clear hc
      refine Aw rfl rfl rfl rfl (Aw rfl rfl rfl rfl (Aw rfl rfl rfl rfl (Aw rfl rfl rfl rfl (Ju rfl rfl rfl (Ju rfl rfl rfl (Ju rfl rfl rfl (Aw rfl rfl rfl rfl (sv rfl (Am rfl rfl) (sv rfl (Ah rfl) (Aw rfl rfl rfl rfl (Aw rfl rfl rfl rfl (Aw rfl rfl rfl rfl (Aw rfl rfl rfl rfl (sv rfl (Am rfl rfl) (sv rfl (Ak rfl) (Ar (Bj ?_)))))))))))))))))
      obtain rfl := SJ h
      refine ⟨Or.inr rfl, _, _, _, (Ad (Bc.tmp _ _ rfl) Af), (Aj rfl), ?_⟩
      rfl
    ·skip
     refine Ca ?_
     obtain ⟨x7, hx7, ho7⟩ := An h
     refine De (G := Nat × (Int × Ag)) (fun g => [(1, .s (.one (.b a1))), (5, .s (.one (.b v1))), (6, .s (.one (.lp 0 0))), (9, .s (.one (Ii6 g.2.1)))]) (fun g => [.box (EL.el g.2.2)]) (fun g => Rv (Hd a1 v1) g.1 g.2 = some x7) (fun g => g.1) (fuel, (0, b5)) hx7 ⟨rfl, rfl, rfl, rfl, trivial⟩ [] rfl (fun _ _ => Bg rfl) (fun _ _ => A0 rfl) (fun _ _ => Nbl rfl) ?_
     clear hx7 h
     rintro ⟨n7, s7⟩ h
     obtain ⟨n7, y7, rfl, h, hk7⟩ := Oz h
     unfold Hd at h
     refine Aq (Aq (Ab (sv rfl (Ah rfl) (sv rfl (Cs rfl rfl) (Ar (ccI h rfl (fun h => ?_) (fun h => ?_)))))))
     ·refine Bl (Ai (Aq (Ca (Aq (Aq (Ki (Ag) (fun b8 => [(1, .s (.one (.b a1))), (5, .s (.one (.b v1))), (6, .s (.one (.lp 0 0))), (9, .s (.one (Ii6 s7.1)))]) (fun b8 => [.box (EL.el b8)]) (fun b8 => Dp a1 v1 s7 b8 = some y7) (fun _ _ => Bg rfl) (fun _ _ => A0 rfl) (fun _ _ => Nbl rfl) (fun b8 h => ?_) ?_))))))
      ·unfold Dp at h
       refine Aq (Aq (Ki (Unit) (fun b9 => [(1, .s (.one (.b a1))), (5, .s (.one (.b v1))), (6, .s (.one (.lp 0 0))), (9, .s (.one (Ii6 s7.1)))]) (fun b9 => [.box (EL.el b8)]) (fun b9 => Ei s7 b8 b9 = some y7) (fun _ _ => Bg rfl) (fun _ _ => A0 rfl) (fun _ _ => Nbl rfl) (fun b9 h => ?_) ?_))
       ·unfold Ei at h
        refine Aq (Ab (sv rfl (Ao B4 rfl (.lp _ _ _ rfl) (Nbl rfl)) ?_))
        obtain ⟨v10, hv10, h⟩ := An h
        refine A1 rfl Auj (Ac rfl (Ac rfl Al)) (Aj rfl) (O4 hv10) (sv rfl (Fs rfl) (sv rfl (A7 rfl rfl) (sv rfl (A7 rfl rfl) (Bz rfl Nc (Ax Em rfl rfl rfl rfl (Nbl rfl) (Bt [.box (EL.el b8), .box (EL.el v10.1)] rfl (sv rfl (Ak rfl) (Ar (Aq (Aq (Ab (sv rfl (Ah rfl) (sv rfl (Cd rfl rfl) (Ar (ccI h rfl (fun h => ?_) (fun h => ?_))))))))))))))))
        ·refine Aq (Ab (sv rfl (Ak rfl) (Ar (Bj (As (Bd (As (As (Bd (As ?_))))))))))
         obtain rfl := SJ h
         obtain rfl : Sum.inl _ = x7 := hk7
         replace ho7 : some _ = some _ := ho7
         obtain rfl := Option.some.inj ho7
         refine ⟨Or.inr rfl, _, _, _, (Ad (Bc.tmp _ _ rfl) Af), (Aj rfl), ?_⟩
         rfl
        ·refine Bl (Ai (Ab (sv rfl (Ao B4 rfl (.lp _ _ _ rfl) (Nbl rfl)) (Ax Em rfl rfl rfl rfl (Nbl rfl) (Bt [.box (EL.el v10.1), .box (EL.el v10.1)] rfl (Ls (A5 (Ai (Ab (sv rfl (Ah rfl) (sv rfl (B9 rfl rfl) (sv rfl (Ak rfl) (Ar ?_)))))))))))))
         obtain rfl := SJ h
         exact ⟨(n7, ((wI (s7.1 + 1)), v10.1)), _, hk7, ⟨rfl, rfl, rfl, rfl, trivial⟩, rfl, Nat.lt_succ_self _⟩
       ·skip
        refine Ab (sv rfl (Ah rfl) (sv rfl (B8 rfl) (sv rfl (Ah rfl) (Bq 58 rfl (fun hc => ?_) (fun hc => ?_)))))
        ·replace h := B1 hc h
         clear hc
         refine son rfl rfl rfl (sv rfl (Aa F7 rfl) (son rfl rfl rfl (sv rfl (Ae ti3 rfl (.lp _ _ _ rfl) rfl) (son rfl rfl rfl (sv rfl (Bo rfl rfl) (sv rfl (Au rfl rfl) (Ar (ccI h rfl (fun h => ?_) (fun h => ?_)))))))))
         ·refine Aq (Ab (sv rfl (Ah rfl) (sv rfl (Ak rfl) (Ar (Bj (As (Bd (As (As (Bd (As ?_)))))))))))
          obtain rfl := SJ h
          obtain rfl : Sum.inl _ = x7 := hk7
          replace ho7 : some _ = some _ := ho7
          obtain rfl := Option.some.inj ho7
          refine ⟨Or.inr rfl, _, _, _, (Ad (Bc.tmp _ _ rfl) Af), (Aj rfl), ?_⟩
          rfl
         ·refine Bl (Ai ?_)
          exact ⟨(), _, h, ⟨rfl, rfl, rfl, rfl, trivial⟩, rfl⟩
        ·replace h := B0 hc h
         clear hc
         refine Aw rfl rfl rfl rfl (Aw rfl rfl rfl rfl (Aw rfl rfl rfl rfl (sv rfl (Am rfl rfl) (Ar (Hy rfl (fun hx => Bool.noConfusion hx) (fun _ => ?_))))))
         refine Bl (Ai ?_)
         exact ⟨(), _, h, ⟨rfl, rfl, rfl, rfl, trivial⟩, rfl⟩
      ·skip
       refine Ab (sv rfl (Ah rfl) (sv rfl (Ah rfl) (Bq 43 rfl (fun hc => ?_) (fun hc => ?_))))
       ·replace h := B1 hc h
        clear hc
        refine son rfl rfl rfl (sv rfl (Aa F7 rfl) (son rfl rfl rfl (sv rfl (Ae ti3 rfl (.lp _ _ _ rfl) rfl) (son rfl rfl rfl (sv rfl (Bo rfl rfl) (sv rfl (Au rfl rfl) (Ar (ccI h rfl (fun h => ?_) (fun h => ?_)))))))))
        ·refine Aq (Ab (sv rfl (Ao B4 rfl (.lp _ _ _ rfl) (Nbl rfl)) ?_))
         obtain ⟨v11, hv11, h⟩ := An h
         refine A1 rfl Arf (Ac rfl Al) (Aj rfl) (Kb hv11) (sv rfl (Fs rfl) (sv rfl (A7 rfl rfl) (sv rfl (A7 rfl rfl) (Bz rfl Nc (Ax Em rfl rfl rfl rfl (Nbl rfl) (Bt [.box (EL.el s7.2), .box (EL.el v11.1)] rfl (sv rfl (Ak rfl) (Ar (Aq (Aq (Ab (sv rfl (Ah rfl) (sv rfl (Cd rfl rfl) (Ar (ccI h rfl (fun h => ?_) (fun h => ?_))))))))))))))))
         ·refine Aq (Ab (sv rfl (Ak rfl) (Ar (Bj (As (As (Bd (As (As (Bd (As ?_)))))))))))
          obtain rfl := SJ h
          obtain rfl : Sum.inl _ = x7 := hk7
          replace ho7 : some _ = some _ := ho7
          obtain rfl := Option.some.inj ho7
          refine ⟨Or.inr rfl, _, _, _, (Ad (Bc.tmp _ _ rfl) Af), (Aj rfl), ?_⟩
          rfl
         ·refine Bl (Ai (Ab (sv rfl (Ao B4 rfl (.lp _ _ _ rfl) (Nbl rfl)) (Ax Em rfl rfl rfl rfl (Nbl rfl) (Bt [.box (EL.el v11.1), .box (EL.el v11.1)] rfl (Ar ?_))))))
          exact ⟨v11.1, _, h, ⟨rfl, rfl, rfl, rfl, trivial⟩, rfl⟩
        ·refine Bl (Ai ?_)
         exact ⟨s7.2, _, h, ⟨rfl, rfl, rfl, rfl, trivial⟩, rfl⟩
       ·replace h := B0 hc h
        clear hc
        refine Aw rfl rfl rfl rfl (Aw rfl rfl rfl rfl (Aw rfl rfl rfl rfl (sv rfl (Am rfl rfl) (Ar (Hy rfl (fun hx => Bool.noConfusion hx) (fun _ => ?_))))))
        refine Bl (Ai ?_)
        exact ⟨s7.2, _, h, ⟨rfl, rfl, rfl, rfl, trivial⟩, rfl⟩
     ·refine Lw (Bi (Bi (Ck (Ai ?_))))
      obtain rfl := SJ h
      obtain rfl : _ = x7 := hk7
      exact ⟨s7.2, _, ho7, ⟨rfl, rfl, trivial⟩, rfl⟩
   ·skip
    refine Ca ?_
    obtain ⟨x13, hx13, ho13⟩ := An h
    refine De (G := Nat × (Int × Ag)) (fun g => [(0, .s (.one (.sl a0.length (a0.flatMap M6)))), (1, .s (.one (.b a1))), (5, .s (.one (.b v1))), (6, .s (.one (.lp 0 0))), (8, .s (.one (Ii6 g.2.1)))]) (fun g => [.box (EL.el g.2.2)]) (fun g => Ez (Gr a0) g.1 g.2 = some x13) (fun g => g.1) (fuel, (0, v4.1)) hx13 ⟨rfl, rfl, rfl, rfl, rfl, trivial⟩ [] rfl (fun _ _ => Bg rfl) (fun _ _ => A0 rfl) (fun _ _ => Nbl rfl) ?_
    clear hx13 h
    rintro ⟨n13, s13⟩ h
    obtain ⟨n13, y13, rfl, h, hk13⟩ := Gp h
    unfold Gr at h
    refine Aq (Aq (Ab (sv rfl (Ah rfl) (sv rfl (Ah rfl) (sv rfl (Az Amk rfl) (sv rfl (Cs rfl rfl) (Ar (ccI h rfl (fun h => ?_) (fun h => ?_)))))))))
    ·refine Bl (Ai (Aq (Ca ?_)))
     obtain ⟨u14, hu14, h⟩ := An h
     obtain ⟨v15, hv15, h⟩ := An h
     refine Jq [6] [0, 0, 0, 6, 14, 31, 63] [[.box (EL.el s13.2)], [.box (EL.el v15)]] (by kernel_rfl) Lz (by kernel_rfl) (by decide) rfl rfl rfl rfl ?_
     refine ev (Bh 0 rfl rfl) rfl rfl (Ao B4 rfl (.lp _ _ _ rfl) (Nbl rfl)) (ev (Bh 0 rfl rfl) rfl rfl (Ah rfl) (ev (Bh 0 rfl rfl) rfl rfl (Ah rfl) (ev (Bh 0 rfl rfl) rfl rfl (Fm (f := M6) Amk (fun _ => rfl) rfl rfl rfl rfl hu14) ?_)))
     refine ev (Bh 0 rfl rfl) rfl rfl (Dj (ys := [Ii6 u14.What, Ii6 u14.N, Ii6 u14.Task.Token, .b u14.Task.Prog.RO, .sl u14.Task.Prog.Ops.length (u14.Task.Prog.Ops.flatMap Ox), Ii6 u14.Reply.Kind, Ii6 u14.Reply.Seq, Ii6 u14.Reply.Code, Ii6 u14.Reply.N, .b u14.Reply.Found, .sl u14.Reply.Val.length (u14.Reply.Val.flatMap eU8), .sl u14.Reply.List.length (u14.Reply.List.flatMap Dr), .sl u14.Bytes.length (u14.Bytes.flatMap eU8)]) Au4 rfl (.cp _) rfl rfl) (ed (Bh 0 rfl rfl) rfl rfl (Dy Av2 (Ac rfl (Ac rfl Al)) rfl (Xa hv15)) (ee0 0 rfl rfl rfl rfl (fun ζ => ?_) ?_))
     ·refine Ax Em rfl rfl rfl rfl (Nbl rfl) (Bt [.box (EL.el v15)] rfl ?_)
      exact Rq
     refine Ys (A5 (Ai (Ab (sv rfl (Ah rfl) (sv rfl (B9 rfl rfl) (sv rfl (Ak rfl) (Ar ?_)))))))
     obtain rfl := SJ h
     exact ⟨(n13, ((wI (s13.1 + 1)), v15)), _, hk13, ⟨rfl, rfl, rfl, rfl, rfl, trivial⟩, rfl, Nat.lt_succ_self _⟩
    ·refine Lw (Bi (Bi (Ck (Ai ?_))))
     obtain rfl := SJ h
     obtain rfl : _ = x13 := hk13
     exact ⟨s13.2, _, ho13, ⟨rfl, rfl, rfl, trivial⟩, rfl⟩
end Go.Proofs.YtbjckaahoacbfaaGreatDoor.Abs
