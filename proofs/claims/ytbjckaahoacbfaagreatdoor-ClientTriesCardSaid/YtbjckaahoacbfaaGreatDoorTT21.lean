/-
 t
-/
import Derived.Test.YtbjckaahoacbfaaGreatDoorTT21b
set_option linter.unusedVariables false
set_option linter.unusedSimpArgs false
namespace Go.Proofs.YtbjckaahoacbfaaGreatDoor.Abs
open Go.RowKit Go.Proofs
set_option maxRecDepth 100000
def Ed (a0 : Ai) : Option Ai :=
 (idx a0.Tasks 0).bind fun u1 => (Fq u1.Prog a0.St).bind fun v2 => if v2.2.2 then ((Cb ({a0 with Phase := 4, St := v2.2.1}) v2.1).bind fun v3 => some v3) else (if v2.2.1.Stopped then ((Cb ({a0 with Phase := 6, St := v2.2.1}) (B6.mk 8 0 0 0 false ([] : List UInt8) ([] : List UInt8) Bt)).bind fun v4 => some v4) else ((idx a0.Tasks 0).bind fun u5 => (Cb ({a0 with Phase := 5, St := v2.2.1}) (B6.mk 7 0 0 0 false ([] : List UInt8) ([] : List UInt8) Bt)).bind fun v6 => if (decide (v6.Phase = 11)) then (some v6) else ((Hy [v6.Tried, [(A6.mk u5.Token a0.Attempt v2.2.1.Regs)]]).bind fun v7 => some ({v6 with Risk := true, Tried := v7}))))
theorem Ly {a0 : Ai} {r : Ai} (h : Ed a0 = some r) : Bp Tryz.prog 116 [.agg (EL.el a0)] (· = .s (.agg (EL.el r))) := by
 unfold Ed at h
 refine A2 Tryz.func116 rfl (nt := 61) rfl (Nbl rfl) ?_
 intro w0 S0
 refine Aq (Ab (Jj rfl rfl (B1 rfl Nw (Ar (Aq (Aet (Aet ?_)))))))
 obtain ⟨u1, hu1, h⟩ := Am h
 obtain ⟨v2, hv2, h⟩ := Am h
 refine Amd [12, 13, 14, 15] [0, 1, 3, 7, 15, 0, 32, 127, 255, 511, 511, 511, 0, 0, 13311, 30719, 65535] [([false, false, false, false], [.box (EL.el a0), .box Zba, .hole, .hole]), ([false, true, false, false], [.box (EL.el a0), .box Zba, .hole, .box Zbb]), ([true, false, false, false], [.box (EL.el a0), .box Zba, .box Zbc, .hole]), ([true, true, false, false], [.box (EL.el a0), .box Zba, .box Zbc, .box Zbb]), ([true, true, true, false], [.box (EL.el a0), .box Zba, .box (EL.el v2.1), .box Zbb]), ([true, true, true, true], [.box (EL.el a0), .box Zba, .box (EL.el v2.1), .box (EL.el v2.2.1)])] (by kernel_rfl) Lm (by kernel_rfl) (by decide) rfl (by kernel_rfl) rfl rfl ?_
 refine mev (md := [.box (EL.el a0), .box Zba, .dead, .dead]) (Dc rfl ⟨rfl, ⟨rfl, ⟨trivial, ⟨trivial, trivial⟩⟩⟩⟩ (Dc rfl ⟨rfl, ⟨rfl, ⟨trivial, ⟨trivial, trivial⟩⟩⟩⟩ (Dc rfl ⟨rfl, ⟨rfl, ⟨trivial, ⟨trivial, trivial⟩⟩⟩⟩ (Dc rfl ⟨rfl, ⟨rfl, ⟨trivial, ⟨trivial, trivial⟩⟩⟩⟩ (Gg rfl (Gg rfl Jq)))))) rfl rfl (Aa Mz rfl) (mev (md := [.box (EL.el a0), .box Zba, .dead, .dead]) (Dc rfl ⟨rfl, ⟨rfl, ⟨trivial, ⟨trivial, trivial⟩⟩⟩⟩ (Dc rfl ⟨rfl, ⟨rfl, ⟨trivial, ⟨trivial, trivial⟩⟩⟩⟩ (Dc rfl ⟨rfl, ⟨rfl, ⟨trivial, ⟨trivial, trivial⟩⟩⟩⟩ (Dc rfl ⟨rfl, ⟨rfl, ⟨trivial, ⟨trivial, trivial⟩⟩⟩⟩ (Gg rfl (Gg rfl Jq)))))) rfl rfl (Ae Zk rfl (.lp _ _ _ rfl) rfl) (mev (md := [.box (EL.el a0), .box Zba, .dead, .dead]) (Dc rfl ⟨rfl, ⟨rfl, ⟨trivial, ⟨trivial, trivial⟩⟩⟩⟩ (Dc rfl ⟨rfl, ⟨rfl, ⟨trivial, ⟨trivial, trivial⟩⟩⟩⟩ (Dc rfl ⟨rfl, ⟨rfl, ⟨trivial, ⟨trivial, trivial⟩⟩⟩⟩ (Dc rfl ⟨rfl, ⟨rfl, ⟨trivial, ⟨trivial, trivial⟩⟩⟩⟩ (Gg rfl (Gg rfl Jq)))))) rfl rfl (Dp (f := Ay) Vl (fun _ => rfl) rfl rfl rfl rfl hu1) ?_))
 refine mev (md := [.box (EL.el a0), .box Zba, .dead, .dead]) (Dc rfl ⟨rfl, ⟨rfl, ⟨trivial, ⟨trivial, trivial⟩⟩⟩⟩ (Dc rfl ⟨rfl, ⟨rfl, ⟨trivial, ⟨trivial, trivial⟩⟩⟩⟩ (Dc rfl ⟨rfl, ⟨rfl, ⟨trivial, ⟨trivial, trivial⟩⟩⟩⟩ (Dc rfl ⟨rfl, ⟨rfl, ⟨trivial, ⟨trivial, trivial⟩⟩⟩⟩ (Gg rfl (Gg rfl Jq)))))) rfl rfl (Bm Adc rfl) (mev (md := [.box (EL.el a0), .box Zba, .dead, .dead]) (Dc rfl ⟨rfl, ⟨rfl, ⟨trivial, ⟨trivial, trivial⟩⟩⟩⟩ (Dc rfl ⟨rfl, ⟨rfl, ⟨trivial, ⟨trivial, trivial⟩⟩⟩⟩ (Dc rfl ⟨rfl, ⟨rfl, ⟨trivial, ⟨trivial, trivial⟩⟩⟩⟩ (Dc rfl ⟨rfl, ⟨rfl, ⟨trivial, ⟨trivial, trivial⟩⟩⟩⟩ (Gg rfl (Gg rfl Jq)))))) rfl rfl (C6 (ys := [.b u1.Prog.RO, .sl u1.Prog.Ops.length (u1.Prog.Ops.flatMap Cg)]) Am3 rfl (.cp _) rfl rfl) (mev (md := [.box (EL.el a0), .box Zba, .dead, .dead]) (Dc rfl ⟨rfl, ⟨rfl, ⟨trivial, ⟨trivial, trivial⟩⟩⟩⟩ (Dc rfl ⟨rfl, ⟨rfl, ⟨trivial, ⟨trivial, trivial⟩⟩⟩⟩ (Dc rfl ⟨rfl, ⟨rfl, ⟨trivial, ⟨trivial, trivial⟩⟩⟩⟩ (Dc rfl ⟨rfl, ⟨rfl, ⟨trivial, ⟨trivial, trivial⟩⟩⟩⟩ (Gg rfl (Gg rfl Jq)))))) rfl rfl (Aa P4 rfl) (mev (md := [.box (EL.el a0), .box Zba, .dead, .dead]) (Dc rfl ⟨rfl, ⟨rfl, ⟨trivial, ⟨trivial, trivial⟩⟩⟩⟩ (Dc rfl ⟨rfl, ⟨rfl, ⟨trivial, ⟨trivial, trivial⟩⟩⟩⟩ (Dc rfl ⟨rfl, ⟨rfl, ⟨trivial, ⟨trivial, trivial⟩⟩⟩⟩ (Dc rfl ⟨rfl, ⟨rfl, ⟨trivial, ⟨trivial, trivial⟩⟩⟩⟩ (Gg rfl (Gg rfl Jq)))))) rfl rfl (Ao Si rfl (.lp _ _ _ rfl) (Nbl rfl)) (med (md := [.box (EL.el a0), .box Zba, .dead, .dead]) (Dc rfl ⟨rfl, ⟨rfl, ⟨trivial, ⟨trivial, trivial⟩⟩⟩⟩ (Dc rfl ⟨rfl, ⟨rfl, ⟨trivial, ⟨trivial, trivial⟩⟩⟩⟩ (Dc rfl ⟨rfl, ⟨rfl, ⟨trivial, ⟨trivial, trivial⟩⟩⟩⟩ (Dc rfl ⟨rfl, ⟨rfl, ⟨trivial, ⟨trivial, trivial⟩⟩⟩⟩ (Gg rfl (Gg rfl Jq)))))) rfl rfl (D3 Asi (Ac rfl (Ac rfl Al)) rfl (Vp hv2)) (Ats rfl rfl (fun _ => Gn rfl) ?_)))))
 refine mev (md := [.box (EL.el a0), .box Zba, .dead, .dead]) (Dc rfl ⟨rfl, ⟨rfl, ⟨trivial, ⟨trivial, trivial⟩⟩⟩⟩ (Dc rfl ⟨rfl, ⟨rfl, ⟨trivial, ⟨trivial, trivial⟩⟩⟩⟩ (Dc rfl ⟨rfl, ⟨rfl, ⟨trivial, ⟨trivial, trivial⟩⟩⟩⟩ (Dc rfl ⟨rfl, ⟨rfl, ⟨trivial, ⟨trivial, trivial⟩⟩⟩⟩ (Gg rfl (Gg rfl Jq)))))) rfl rfl (Bb rfl rfl) (mev (md := [.box (EL.el a0), .box Zba, .dead, .dead]) (Dc rfl ⟨rfl, ⟨rfl, ⟨trivial, ⟨trivial, trivial⟩⟩⟩⟩ (Dc rfl ⟨rfl, ⟨rfl, ⟨trivial, ⟨trivial, trivial⟩⟩⟩⟩ (Dc rfl ⟨rfl, ⟨rfl, ⟨trivial, ⟨trivial, trivial⟩⟩⟩⟩ (Dc rfl ⟨rfl, ⟨rfl, ⟨trivial, ⟨trivial, trivial⟩⟩⟩⟩ (Dc rfl ⟨rfl, ⟨rfl, ⟨trivial, ⟨trivial, trivial⟩⟩⟩⟩ (Gg rfl Jq)))))) rfl rfl (Bb rfl rfl) (mev (md := [.box (EL.el a0), .box Zba, .dead, .dead]) (Dc rfl ⟨rfl, ⟨rfl, ⟨trivial, ⟨trivial, trivial⟩⟩⟩⟩ (Dc rfl ⟨rfl, ⟨rfl, ⟨trivial, ⟨trivial, trivial⟩⟩⟩⟩ (Dc rfl ⟨rfl, ⟨rfl, ⟨trivial, ⟨trivial, trivial⟩⟩⟩⟩ (Dc rfl ⟨rfl, ⟨rfl, ⟨trivial, ⟨trivial, trivial⟩⟩⟩⟩ (Dc rfl ⟨rfl, ⟨rfl, ⟨trivial, ⟨trivial, trivial⟩⟩⟩⟩ (Dc rfl ⟨rfl, ⟨rfl, ⟨trivial, ⟨trivial, trivial⟩⟩⟩⟩ Jq)))))) rfl rfl (Bb rfl rfl) (mee (x := .s (.one (.lp 2 0))) 0 rfl rfl ?_ ?_)))
 ·refine Dc rfl ⟨_, rfl, fun ζ => ?_⟩ ?_
  ·refine Nk 2 rfl Zf rfl ?_
   exact Sk
  refine Dc rfl ⟨_, rfl, fun ζ => ?_⟩ ?_
  ·refine Nk 2 rfl Zf rfl ?_
   exact Sk
  refine Gg rfl (Gg rfl (Gg rfl (Gg rfl ?_)))
  exact Jq
 refine mee (x := .s (.one (.lp 3 0))) 1 rfl rfl ?_ ?_
 ·refine Dc rfl ⟨_, rfl, fun ζ => ?_⟩ ?_
  ·refine Nk 3 rfl Agp rfl ?_
   exact Sk
  refine Gg rfl (Dc rfl ⟨_, rfl, fun ζ => ?_⟩ ?_)
  ·refine Nk 3 rfl Agp rfl ?_
   exact Sk
  refine Gg rfl (Gg rfl (Gg rfl ?_))
  exact Jq
 refine Atp 2 rfl ?_ ?_
 ·refine Gg rfl (Gg rfl (Gg rfl (Dc rfl ⟨_, rfl, fun ζ => ?_⟩ ?_)))
  ·refine Ax Aie rfl rfl rfl rfl (Nbl rfl) (Bu [.box (EL.el a0), .box Zba, .box (EL.el v2.1), .box Zbb] rfl ?_)
   exact Sk
  refine Gg rfl (Gg rfl ?_)
  exact Jq
 refine Atp 3 rfl ?_ ?_
 ·refine Gg rfl (Gg rfl (Gg rfl (Gg rfl (Dc rfl ⟨_, rfl, fun ζ => ?_⟩ ?_))))
  ·refine Ax Xf rfl rfl rfl rfl (Nbl rfl) (Bu [.box (EL.el a0), .box Zba, .box (EL.el v2.1), .box (EL.el v2.2.1)] rfl ?_)
   exact Sk
  refine Gg rfl ?_
  exact Jq
 refine Ats rfl rfl (fun _ => Ak rfl) ?_
 refine Asl (Ah (Aq (Ab (sv rfl (Ao Si rfl (.lp _ _ _ rfl) (Nbl rfl)) (sv rfl (Aa P4 rfl) (Ax Xf rfl rfl rfl rfl (Nbl rfl) (Bu [.box (EL.el {a0 with St := v2.2.1}), .box Zba, .box (EL.el v2.1), .box (EL.el v2.2.1)] rfl (Ar (Aq (B4 (Aq (Ab (sv rfl (Ag rfl) (sv rfl (Ak rfl) (Ar (ccI h rfl (fun h => ?_) (fun h => ?_)))))))))))))))))
 ·refine Aq (Ab (sv rfl (Aa Hf rfl) (Ax sz3 rfl rfl rfl rfl (Nbl rfl) (Bu [.box (EL.el {a0 with Phase := 4, St := v2.2.1}), .box Zba, .box (EL.el v2.1), .box (EL.el v2.2.1)] rfl (Ar (Aq (Ab (sv rfl (Ao B8 rfl (.lp _ _ _ rfl) (Nbl rfl)) (sv rfl (Ao Aex rfl (.lp _ _ _ rfl) (Nbl rfl)) ?_)))))))))
  obtain ⟨v3, hv3, h⟩ := Am h
  refine A3 rfl Anw (Ac rfl (Ac rfl Al)) (Aj rfl) (C9 hv3) (Ax E7 rfl rfl rfl rfl (Nbl rfl) (Bu [.box (EL.el {a0 with Phase := 4, St := v2.2.1}), .box (EL.el v3), .box (EL.el v2.1), .box (EL.el v2.2.1)] rfl (Ar (Bk (Bc (Au ?_))))))
  obtain rfl := SJ h
  refine ⟨Or.inr rfl, _, _, _, (Ad (Bd.agg _ _ _ _ _ B8 rfl (.lp _ _ _ rfl) (Nbl rfl)) Af), (Aj rfl), ?_⟩
  rfl
 ·refine Aq (Ab (sv rfl (Aa W5 rfl) (sv rfl (Ae ti4 rfl (.lp _ _ _ rfl) rfl) (sv rfl (Ak rfl) (Ar (ccI h rfl (fun h => ?_) (fun h => ?_)))))))
  ·refine Aq (Ab (sv rfl (Aa Hf rfl) (Ax sz3 rfl rfl rfl rfl (Nbl rfl) (Bu [.box (EL.el {a0 with Phase := 6, St := v2.2.1}), .box Zba, .box (EL.el v2.1), .box (EL.el v2.2.1)] rfl (Ar (Aq (Ab (sv rfl (Ao B8 rfl (.lp _ _ _ rfl) (Nbl rfl)) (sv rfl (Bj Zf Aeq (Ap rfl Ba) (.cons _ _ _ _ _ _ _ rfl rfl (Nbl rfl) (.nil _))) ?_)))))))))
   obtain ⟨v4, hv4, h⟩ := Am h
   refine A3 rfl Anw (Ac rfl (Ac rfl Al)) (Nt rfl) (C9 hv4) (Ax E7 rfl rfl rfl rfl (Nbl rfl) (Bu [.box (EL.el {a0 with Phase := 6, St := v2.2.1}), .box (EL.el v4), .box (EL.el v2.1), .box (EL.el v2.2.1)] rfl (Ar (Bk (Bc (Au ?_))))))
   obtain rfl := SJ h
   refine ⟨Or.inr rfl, _, _, _, (Ad (Bd.agg _ _ _ _ _ B8 rfl (.lp _ _ _ rfl) (Nbl rfl)) Af), (Aj rfl), ?_⟩
   rfl
  ·refine Bl (A1 (Ah (Aq (Aet ?_))))
   obtain ⟨u5, hu5, h⟩ := Am h
   refine Ke [10, 11] [0, 1, 3, 7, 15, 0, 32, 0, 128, 511, 0, 2047] [[.box (EL.el {a0 with St := v2.2.1}), .box Zba, .box (EL.el v2.1), .box (EL.el v2.2.1), .hole], [.box (EL.el {a0 with St := v2.2.1}), .box Zba, .box (EL.el v2.1), .box (EL.el v2.2.1), .box [Ii6 0, Ii6 0, Ii6 0, Ii6 0, Ii6 0, Ii6 0, Ii6 0, Ii6 0, Ii6 0, Ii6 0]], [.box (EL.el {a0 with St := v2.2.1}), .box Zba, .box (EL.el v2.1), .box (EL.el v2.2.1), .box (EL.el (A6.mk u5.Token a0.Attempt v2.2.1.Regs))]] (by kernel_rfl) Lm (by kernel_rfl) (by decide) rfl rfl rfl rfl ?_
   refine ev (B5 (md := [.box (EL.el {a0 with St := v2.2.1}), .box Zba, .box (EL.el v2.1), .box (EL.el v2.2.1), .dead]) ⟨⟨rfl, ⟨rfl, ⟨rfl, ⟨rfl, ⟨trivial, trivial⟩⟩⟩⟩⟩, ⟨⟨rfl, ⟨rfl, ⟨rfl, ⟨rfl, ⟨trivial, trivial⟩⟩⟩⟩⟩, ⟨⟨rfl, ⟨rfl, ⟨rfl, ⟨rfl, ⟨trivial, trivial⟩⟩⟩⟩⟩, trivial⟩⟩⟩) rfl rfl (Aa Mz rfl) (ev (B5 (md := [.box (EL.el {a0 with St := v2.2.1}), .box Zba, .box (EL.el v2.1), .box (EL.el v2.2.1), .dead]) ⟨⟨rfl, ⟨rfl, ⟨rfl, ⟨rfl, ⟨trivial, trivial⟩⟩⟩⟩⟩, ⟨⟨rfl, ⟨rfl, ⟨rfl, ⟨rfl, ⟨trivial, trivial⟩⟩⟩⟩⟩, ⟨⟨rfl, ⟨rfl, ⟨rfl, ⟨rfl, ⟨trivial, trivial⟩⟩⟩⟩⟩, trivial⟩⟩⟩) rfl rfl (Ae Zk rfl (.lp _ _ _ rfl) rfl) (ev (B5 (md := [.box (EL.el {a0 with St := v2.2.1}), .box Zba, .box (EL.el v2.1), .box (EL.el v2.2.1), .dead]) ⟨⟨rfl, ⟨rfl, ⟨rfl, ⟨rfl, ⟨trivial, trivial⟩⟩⟩⟩⟩, ⟨⟨rfl, ⟨rfl, ⟨rfl, ⟨rfl, ⟨trivial, trivial⟩⟩⟩⟩⟩, ⟨⟨rfl, ⟨rfl, ⟨rfl, ⟨rfl, ⟨trivial, trivial⟩⟩⟩⟩⟩, trivial⟩⟩⟩) rfl rfl (Dp (f := Ay) Vl (fun _ => rfl) rfl rfl rfl rfl hu5) ?_))
   refine ev (B5 (md := [.box (EL.el {a0 with St := v2.2.1}), .box Zba, .box (EL.el v2.1), .box (EL.el v2.2.1), .dead]) ⟨⟨rfl, ⟨rfl, ⟨rfl, ⟨rfl, ⟨trivial, trivial⟩⟩⟩⟩⟩, ⟨⟨rfl, ⟨rfl, ⟨rfl, ⟨rfl, ⟨trivial, trivial⟩⟩⟩⟩⟩, ⟨⟨rfl, ⟨rfl, ⟨rfl, ⟨rfl, ⟨trivial, trivial⟩⟩⟩⟩⟩, trivial⟩⟩⟩) rfl rfl (Bm Sf rfl) (ev (B5 (md := [.box (EL.el {a0 with St := v2.2.1}), .box Zba, .box (EL.el v2.1), .box (EL.el v2.2.1), .dead]) ⟨⟨rfl, ⟨rfl, ⟨rfl, ⟨rfl, ⟨trivial, trivial⟩⟩⟩⟩⟩, ⟨⟨rfl, ⟨rfl, ⟨rfl, ⟨rfl, ⟨trivial, trivial⟩⟩⟩⟩⟩, ⟨⟨rfl, ⟨rfl, ⟨rfl, ⟨rfl, ⟨trivial, trivial⟩⟩⟩⟩⟩, trivial⟩⟩⟩) rfl rfl (Ae ti3 rfl (.cp _) rfl) (ev (B5 (md := [.box (EL.el {a0 with St := v2.2.1}), .box Zba, .box (EL.el v2.1), .box (EL.el v2.2.1), .dead]) ⟨⟨rfl, ⟨rfl, ⟨rfl, ⟨rfl, ⟨trivial, trivial⟩⟩⟩⟩⟩, ⟨⟨rfl, ⟨rfl, ⟨rfl, ⟨rfl, ⟨trivial, trivial⟩⟩⟩⟩⟩, ⟨⟨rfl, ⟨rfl, ⟨rfl, ⟨rfl, ⟨trivial, trivial⟩⟩⟩⟩⟩, trivial⟩⟩⟩) rfl rfl (Aa Oe rfl) (ev (B5 (md := [.box (EL.el {a0 with St := v2.2.1}), .box Zba, .box (EL.el v2.1), .box (EL.el v2.2.1), .dead]) ⟨⟨rfl, ⟨rfl, ⟨rfl, ⟨rfl, ⟨trivial, trivial⟩⟩⟩⟩⟩, ⟨⟨rfl, ⟨rfl, ⟨rfl, ⟨rfl, ⟨trivial, trivial⟩⟩⟩⟩⟩, ⟨⟨rfl, ⟨rfl, ⟨rfl, ⟨rfl, ⟨trivial, trivial⟩⟩⟩⟩⟩, trivial⟩⟩⟩) rfl rfl (Ae ti3 rfl (.lp _ _ _ rfl) rfl) (ev (B5 (md := [.box (EL.el {a0 with St := v2.2.1}), .box Zba, .box (EL.el v2.1), .box (EL.el v2.2.1), .dead]) ⟨⟨rfl, ⟨rfl, ⟨rfl, ⟨rfl, ⟨trivial, trivial⟩⟩⟩⟩⟩, ⟨⟨rfl, ⟨rfl, ⟨rfl, ⟨rfl, ⟨trivial, trivial⟩⟩⟩⟩⟩, ⟨⟨rfl, ⟨rfl, ⟨rfl, ⟨rfl, ⟨trivial, trivial⟩⟩⟩⟩⟩, trivial⟩⟩⟩) rfl rfl (Aa O3 rfl) (ev (B5 (md := [.box (EL.el {a0 with St := v2.2.1}), .box Zba, .box (EL.el v2.1), .box (EL.el v2.2.1), .dead]) ⟨⟨rfl, ⟨rfl, ⟨rfl, ⟨rfl, ⟨trivial, trivial⟩⟩⟩⟩⟩, ⟨⟨rfl, ⟨rfl, ⟨rfl, ⟨rfl, ⟨trivial, trivial⟩⟩⟩⟩⟩, ⟨⟨rfl, ⟨rfl, ⟨rfl, ⟨rfl, ⟨trivial, trivial⟩⟩⟩⟩⟩, trivial⟩⟩⟩) rfl rfl (Ao Aqu rfl (.lp _ _ _ rfl) (Nbl rfl)) (ev (B5 (md := [.box (EL.el {a0 with St := v2.2.1}), .box Zba, .box (EL.el v2.1), .box (EL.el v2.2.1), .dead]) ⟨⟨rfl, ⟨rfl, ⟨rfl, ⟨rfl, ⟨trivial, trivial⟩⟩⟩⟩⟩, ⟨⟨rfl, ⟨rfl, ⟨rfl, ⟨rfl, ⟨trivial, trivial⟩⟩⟩⟩⟩, ⟨⟨rfl, ⟨rfl, ⟨rfl, ⟨rfl, ⟨trivial, trivial⟩⟩⟩⟩⟩, trivial⟩⟩⟩) rfl rfl (Bj Ask Au8 (Ap rfl (Ap rfl (Ap rfl Ba))) (.cons _ _ _ _ _ _ _ rfl rfl (Nbl rfl) (.cons _ _ _ _ _ _ _ rfl rfl (Nbl rfl) (.cons _ _ _ _ _ _ _ rfl rfl (Nbl rfl) (.nil _))))) (ee (x := .s (.one (.lp 4 0))) 0 rfl rfl rfl rfl rfl (fun ζ => ?_) ?_)))))))
   ·refine Nk 4 rfl Ask rfl ?_
    exact Sk
   refine ee0 1 rfl rfl rfl rfl (fun ζ => ?_) ?_
   ·refine Ax Aus rfl rfl rfl rfl (Nbl rfl) (Bu [.box (EL.el {a0 with St := v2.2.1}), .box Zba, .box (EL.el v2.1), .box (EL.el v2.2.1), .box (EL.el (A6.mk u5.Token a0.Attempt v2.2.1.Regs))] rfl ?_)
    exact Sk
   refine Y9 (Ah (Aq (Ab (sv rfl (Aa Hf rfl) (Ax sz3 rfl rfl rfl rfl (Nbl rfl) (Bu [.box (EL.el {a0 with Phase := 5, St := v2.2.1}), .box Zba, .box (EL.el v2.1), .box (EL.el v2.2.1), .box (EL.el (A6.mk u5.Token a0.Attempt v2.2.1.Regs))] rfl (Ar (Aq (Ab (sv rfl (Ao B8 rfl (.lp _ _ _ rfl) (Nbl rfl)) (sv rfl (Bj Zf Aeq (Ap rfl Ba) (.cons _ _ _ _ _ _ _ rfl rfl (Nbl rfl) (.nil _))) ?_)))))))))))
   obtain ⟨v6, hv6, h⟩ := Am h
   refine A3 rfl Anw (Ac rfl (Ac rfl Al)) (Nt rfl) (C9 hv6) (Ax E7 rfl rfl rfl rfl (Nbl rfl) (Bu [.box (EL.el v6), .box Zba, .box (EL.el v2.1), .box (EL.el v2.2.1), .box (EL.el (A6.mk u5.Token a0.Attempt v2.2.1.Regs))] rfl (Ar (Aq (Aq (Ab (sv rfl (Aa Hf rfl) (sv rfl (Ae ti3 rfl (.lp _ _ _ rfl) rfl) (sv rfl (Br rfl rfl) (Ar (ccI h rfl (fun h => ?_) (fun h => ?_))))))))))))
   ·refine Aq (Ab (sv rfl (Ao B8 rfl (.lp _ _ _ rfl) (Nbl rfl)) (Ax E7 rfl rfl rfl rfl (Nbl rfl) (Bu [.box (EL.el v6), .box (EL.el v6), .box (EL.el v2.1), .box (EL.el v2.2.1), .box (EL.el (A6.mk u5.Token a0.Attempt v2.2.1.Regs))] rfl (Ar (Bk (Au ?_)))))))
    obtain rfl := SJ h
    refine ⟨Or.inr rfl, _, _, _, (Ad (Bd.agg _ _ _ _ _ B8 rfl (.lp _ _ _ rfl) (Nbl rfl)) Af), (Aj rfl), ?_⟩
    rfl
   ·refine Bl (Ah (Aq (Ab (sv rfl (Aa O5 rfl) (sv rfl (Ae Ae6 rfl (.lp _ _ _ rfl) rfl) (sv rfl (Ao Aug rfl (.lp _ _ _ rfl) (Nbl rfl)) ?_))))))
    refine Rj rfl Tryz.underlying42 Atg rfl rfl (List.all_eq_true.1 rfl) (by decide) ?_
    refine Bu [.box (EL.el v6), .box Zba, .box (EL.el v2.1), .box (EL.el v2.2.1), .box (EL.el (A6.mk u5.Token a0.Attempt v2.2.1.Regs)), .arr 64 10 0 ([(A6.mk u5.Token a0.Attempt v2.2.1.Regs)].flatMap A8)] rfl ?_
    refine Aau 55 rfl (by (repeat' first | exact Kb.nil _ | apply Kb.cons | apply J4.one | apply J4.agg | exact E8.nil | exact E8.ls _ _ _ _ _ _ rfl (Bg (f := A8) (fun _ => rfl) ([(A6.mk u5.Token a0.Attempt v2.2.1.Regs)] : List A6)).symm | exact E8.ls _ _ _ _ _ _ rfl (Bg (f := A8) (fun _ => rfl) _).symm | exact E8.id _ rfl | exact D2.nil _ | apply D2.cons)) ?_
    refine Sy (out := ([v6.Tried, [(A6.mk u5.Token a0.Attempt v2.2.1.Regs)]] : List (List A6)).flatMap (eL A8)) rfl Tryz.underlying216 Avr (Ap rfl (Ap rfl Ba)) (.cons _ _ _ _ _ _ _ rfl rfl (Nbl rfl) (.cons _ _ _ _ _ _ _ rfl rfl (Nbl rfl) (.nil _))) rfl (by decide) ?_
    refine Aau 56 rfl (by (repeat' first | exact Kb.nil _ | apply Kb.cons | apply J4.one | apply J4.agg | exact E8.nil | exact E8.ls _ _ _ _ _ _ rfl (Bg (f := (eL A8)) (fun _ => rfl) ([v6.Tried, [(A6.mk u5.Token a0.Attempt v2.2.1.Regs)]] : List (List A6))).symm | exact E8.ls _ _ _ _ _ _ rfl (Bg (f := (eL A8)) (fun _ => rfl) _).symm | exact E8.ls _ _ _ _ _ _ rfl (Bg (f := A8) (fun _ => rfl) _).symm | exact E8.id _ rfl | exact D2.nil _ | apply D2.cons)) ?_
    obtain ⟨v7, hv7, h⟩ := Am h
    refine C3 (x' := .s (.one (.ls 7 v7.length))) (M' := [.box (EL.el v6), .box Zba, .box (EL.el v2.1), .box (EL.el v2.2.1), .box (EL.el (A6.mk u5.Token a0.Attempt v2.2.1.Regs)), .arr 64 10 ([(A6.mk u5.Token a0.Attempt v2.2.1.Regs)].flatMap A8).length ([(A6.mk u5.Token a0.Attempt v2.2.1.Regs)].flatMap A8), .arr 42 1 ([v6.Tried, [(A6.mk u5.Token a0.Attempt v2.2.1.Regs)]].flatMap (eL A8)).length ([v6.Tried, [(A6.mk u5.Token a0.Attempt v2.2.1.Regs)]].flatMap (eL A8)), .arr 64 10 0 (v7.flatMap A8)]) [] rfl Atj (.func _) (Ac rfl Al) (Rh hv7) rfl rfl (by decide) rfl rfl rfl ?_
    refine sv rfl (Aa O5 rfl) (Ax Au3 rfl rfl rfl rfl (Nbl rfl) (Bu [.box ((EL.el v6).set 39 (.ls 7 v7.length)), .box Zba, .box (EL.el v2.1), .box (EL.el v2.2.1), .box (EL.el (A6.mk u5.Token a0.Attempt v2.2.1.Regs)), .arr 64 10 ([(A6.mk u5.Token a0.Attempt v2.2.1.Regs)].flatMap A8).length ([(A6.mk u5.Token a0.Attempt v2.2.1.Regs)].flatMap A8), .arr 42 1 ([v6.Tried, [(A6.mk u5.Token a0.Attempt v2.2.1.Regs)]].flatMap (eL A8)).length ([v6.Tried, [(A6.mk u5.Token a0.Attempt v2.2.1.Regs)]].flatMap (eL A8)), .arr 64 10 0 (v7.flatMap A8)] rfl (Ar (Aq (Ab (sv rfl (Aa Ye rfl) (Ax sz4 rfl rfl rfl rfl (Nbl rfl) (Bu [.box ((EL.el {v6 with Risk := true}).set 39 (.ls 7 v7.length)), .box Zba, .box (EL.el v2.1), .box (EL.el v2.2.1), .box (EL.el (A6.mk u5.Token a0.Attempt v2.2.1.Regs)), .arr 64 10 ([(A6.mk u5.Token a0.Attempt v2.2.1.Regs)].flatMap A8).length ([(A6.mk u5.Token a0.Attempt v2.2.1.Regs)].flatMap A8), .arr 42 1 ([v6.Tried, [(A6.mk u5.Token a0.Attempt v2.2.1.Regs)]].flatMap (eL A8)).length ([v6.Tried, [(A6.mk u5.Token a0.Attempt v2.2.1.Regs)]].flatMap (eL A8)), .arr 64 10 0 (v7.flatMap A8)] rfl (Ar (Aq (Ab (sv rfl (Ao B8 rfl (.lp _ _ _ rfl) (Nbl rfl)) (Ax E7 rfl rfl rfl rfl (Nbl rfl) (Bu [.box ((EL.el {v6 with Risk := true}).set 39 (.ls 7 v7.length)), .box ((EL.el {v6 with Risk := true}).set 39 (.ls 7 v7.length)), .box (EL.el v2.1), .box (EL.el v2.2.1), .box (EL.el (A6.mk u5.Token a0.Attempt v2.2.1.Regs)), .arr 64 10 ([(A6.mk u5.Token a0.Attempt v2.2.1.Regs)].flatMap A8).length ([(A6.mk u5.Token a0.Attempt v2.2.1.Regs)].flatMap A8), .arr 42 1 ([v6.Tried, [(A6.mk u5.Token a0.Attempt v2.2.1.Regs)]].flatMap (eL A8)).length ([v6.Tried, [(A6.mk u5.Token a0.Attempt v2.2.1.Regs)]].flatMap (eL A8)), .arr 64 10 0 (v7.flatMap A8)] rfl (Ar (Bk ?_))))))))))))))))
    obtain rfl := SJ h
    refine ⟨Or.inr rfl, _, _, _, (Ad (Bd.agg _ _ _ _ _ B8 rfl (.lp _ _ _ rfl) (Nbl rfl)) Af), (by (repeat' first | exact Kb.nil _ | apply Kb.cons | apply J4.one | apply J4.agg | exact E8.nil | exact E8.ls _ _ _ _ _ _ rfl (Bg (f := (eL A8)) (fun _ => rfl) _).symm | exact E8.ls _ _ _ _ _ _ rfl (Bg (f := A8) (fun _ => rfl) _).symm | exact E8.id _ rfl | exact D2.nil _ | apply D2.cons)), ?_⟩
    rfl
def Ey (a0 : Ai) (a1 : Bf) : Option Ai :=
 if (!decide (a1.Code = 0)) then ((De a0 a1.Code).bind fun v1 => some v1) else ((Ed a0).bind fun v2 => some v2)
theorem Og {a0 : Ai} {a1 : Bf} {r : Ai} (h : Ey a0 a1 = some r) : Bp Tryz.prog 100 [.agg (EL.el a0), .agg (EL.el a1)] (· = .s (.agg (EL.el r))) := by
 unfold Ey at h
 refine A2 Tryz.func100 rfl (nt := 14) rfl (Nbl rfl) ?_
 intro w0 S0
 refine Aq (Ab (Jj rfl rfl (Jj rfl rfl (B1 rfl Nw (Ar (Aq (Aq (Ab (sv rfl (Aa Q7 rfl) (sv rfl (Ae Aba rfl (.lp _ _ _ rfl) rfl) (sv rfl (Ce rfl rfl) (Ar (ccI h rfl (fun h => ?_) (fun h => ?_))))))))))))))
 ·refine Aq (Ab (sv rfl (Ao B8 rfl (.lp _ _ _ rfl) (Nbl rfl)) (sv rfl (Aa Q7 rfl) (sv rfl (Ae Aba rfl (.lp _ _ _ rfl) rfl) ?_))))
  obtain ⟨v1, hv1, h⟩ := Am h
  refine A3 rfl Aop (Ac rfl (Ac rfl Al)) (Aj rfl) (Km hv1) (Ax E7 rfl rfl rfl rfl (Nbl rfl) (Bu [.box (EL.el a0), .box (EL.el a1), .box (EL.el v1)] rfl (Ar (Bk (Au ?_)))))
  obtain rfl := SJ h
  refine ⟨Or.inr rfl, _, _, _, (Ad (Bd.agg _ _ _ _ _ B8 rfl (.lp _ _ _ rfl) (Nbl rfl)) Af), (Aj rfl), ?_⟩
  rfl
 ·refine Bl (Ah (Aq (Ab (sv rfl (Ao B8 rfl (.lp _ _ _ rfl) (Nbl rfl)) ?_))))
  obtain ⟨v2, hv2, h⟩ := Am h
  refine A3 rfl Aqg (Ac rfl Al) (Aj rfl) (Ly hv2) (Ax E7 rfl rfl rfl rfl (Nbl rfl) (Bu [.box (EL.el a0), .box (EL.el a1), .box (EL.el v2)] rfl (Ar (Bk ?_))))
  obtain rfl := SJ h
  refine ⟨Or.inr rfl, _, _, _, (Ad (Bd.agg _ _ _ _ _ B8 rfl (.lp _ _ _ rfl) (Nbl rfl)) Af), (Aj rfl), ?_⟩
  rfl
def Lw  : Option Unit :=
 (Co 4).bind fun v1 => if (!v1) then none else (some ())
theorem Qo  {r : Unit} (h : Lw = some r) : G3 Tryz.prog 79 [] [.one (Ii6 4)] (fun y m' => y = .s (.one (.raw (.func (.func 101) #[] #[]))) ∧ m' = []) := by
 unfold Lw at h
 refine Cv Tryz.func79 rfl (nt := 11) rfl (Nbl rfl) ?_
 intro w0 S0 X0 H0
 refine Aq (Ab (sv rfl (Ak rfl) (Ar (Aq (Ab (sv rfl (G8 Rx Sx (Ap rfl (Ap rfl (Ap rfl (Ap rfl (Ap rfl (Ap rfl (Ap rfl Ba))))))) (Ef [Nfu, Nfu, .raw (.func (.func 99) #[] #[]), Nfu, Nfu, Nfu, Nfu, Nfu, Nfu, Nfu] rfl rfl (Nbl rfl) rfl (Ef [Nfu, Nfu, .raw (.func (.func 99) #[] #[]), .raw (.func (.func 100) #[] #[]), Nfu, Nfu, Nfu, Nfu, Nfu, Nfu] rfl rfl (Nbl rfl) rfl (Ef [Nfu, Nfu, .raw (.func (.func 99) #[] #[]), .raw (.func (.func 100) #[] #[]), .raw (.func (.func 101) #[] #[]), Nfu, Nfu, Nfu, Nfu, Nfu] rfl rfl (Nbl rfl) rfl (Ef [Nfu, Nfu, .raw (.func (.func 99) #[] #[]), .raw (.func (.func 100) #[] #[]), .raw (.func (.func 101) #[] #[]), .raw (.func (.func 102) #[] #[]), Nfu, Nfu, Nfu, Nfu] rfl rfl (Nbl rfl) rfl (Ef [Nfu, Nfu, .raw (.func (.func 99) #[] #[]), .raw (.func (.func 100) #[] #[]), .raw (.func (.func 101) #[] #[]), .raw (.func (.func 102) #[] #[]), .raw (.func (.func 103) #[] #[]), Nfu, Nfu, Nfu] rfl rfl (Nbl rfl) rfl (Ef [Nfu, Nfu, .raw (.func (.func 99) #[] #[]), .raw (.func (.func 100) #[] #[]), .raw (.func (.func 101) #[] #[]), .raw (.func (.func 102) #[] #[]), .raw (.func (.func 103) #[] #[]), .raw (.func (.func 104) #[] #[]), Nfu, Nfu] rfl rfl (Nbl rfl) rfl (Ef [Nfu, Nfu, .raw (.func (.func 99) #[] #[]), .raw (.func (.func 100) #[] #[]), .raw (.func (.func 101) #[] #[]), .raw (.func (.func 102) #[] #[]), .raw (.func (.func 103) #[] #[]), .raw (.func (.func 104) #[] #[]), Nfu, .raw (.func (.func 105) #[] #[])] rfl rfl (Nbl rfl) rfl (.nil _))))))))) (B1 rfl Rx (Ax Zq rfl rfl rfl rfl (Nbl rfl) (Bu [.box [Nfu, Nfu, .raw (.func (.func 99) #[] #[]), .raw (.func (.func 100) #[] #[]), .raw (.func (.func 101) #[] #[]), .raw (.func (.func 102) #[] #[]), .raw (.func (.func 103) #[] #[]), .raw (.func (.func 104) #[] #[]), Nfu, .raw (.func (.func 105) #[] #[])]] rfl (Ar (Aq (Aq (Ab (sv rfl (Ag rfl) ?_))))))))))))))
 obtain ⟨v1, hv1, h⟩ := Am h
 refine A3 rfl Ai1 (Ac rfl Al) (Aj rfl) (D1 hv1) (sv rfl (Ca rfl) (Ar (ccI h rfl (fun h => ?_) (fun h => ?_))))
 ·refine Aq (Ab ?_)
  cases h
 ·refine Bl (Ah (Aq (Ab (sv rfl (Ag rfl) ?_))))
  refine sv rfl (O4 (o := 4) Sx rfl rfl (by decide)) ?_
  refine sv rfl (Ae Acc rfl (.lp _ _ _ rfl) rfl) (sv rfl (Ak rfl) (Ar (Bk ?_)))
  obtain rfl := SJ h
  exact ⟨Or.inr rfl, _, [], [.one (.raw (.func (.func 101) #[] #[]))], [], (Ad (Bd.tmp _ _ rfl) Af), rfl, rfl, ⟨by decide, rfl⟩, rfl, rfl, ⟨rfl, rfl⟩⟩
def Lb (a0 : List UInt8) : Option Int :=
 (cut a0 0 (if 4 < (a0.length : Int) then 4 else (a0.length : Int))).bind fun c1 => (Jl c1).bind fun v2 => (A4 (c1.length : Int) v2.1 v2.2.1 v2.2.2).bind fun v3 => some (wI (v3.1.toNat : Int))
theorem Ri {a0 : List UInt8} {r : Int} (h : Lb a0 = some r) : Bp Tryz.prog 131 [.one (.sl a0.length (a0.flatMap eU8))] (· = .s (.one (Ii6 r))) := by
 unfold Lb at h
 refine A2 Tryz.func131 rfl (nt := 14) rfl (Nbl rfl) ?_
 intro w0 S0
 refine Aq (Ab (sv rfl (Ak rfl) (Ar (Aq (Ab (sv rfl (Ag rfl) (sv rfl (Ag rfl) (sv rfl (A0 Li rfl) (sv rfl (Tb rfl rfl) ?_)))))))))
 obtain ⟨c1, hc1, h⟩ := Am h
 refine sv rfl (Ss (f := eU8) (lo := 0) (hi := (if 4 < (a0.length : Int) then 4 else (a0.length : Int))) Li (fun _ => rfl) rfl rfl rfl Rp (Hm rfl (Int.le_trans (Kq hc1).1.1 (Kq hc1).1.2.1)) hc1) ?_
 refine sv rfl (Ak rfl) (Ar (Aq (Ab (sv rfl (Ag rfl) ?_))))
 obtain ⟨v2, hv2, h⟩ := Am h
 refine C3 (x' := .s (.one (.lp 0 0))) (M' := [.box [.fn 112 [] [.lp 1 0, .lp 2 0], Ii6 v2.1], .box [Ii6 v2.2.1], .box [.sl v2.2.2.length (v2.2.2.flatMap eU8)]]) [] rfl Arb (.func _) (Ac rfl Al) (O9 hv2) rfl rfl (by decide) rfl rfl rfl ?_
 refine sv rfl (Ag rfl) (sv rfl (A0 Li rfl) ?_)
 obtain ⟨v3, hv3, h⟩ := Am h
 refine C3 (x' := .s (.one (.i .u64 (v3.1.toNat : Int)))) (M' := [.box [.fn 112 [] [.lp 1 0, .lp 2 0], Ii6 v3.2.1], .box [Ii6 v3.2.2], .box [.sl v2.2.2.length (v2.2.2.flatMap eU8)]]) [0, 1, 2] rfl Ah8 (.func _) (Ac rfl (Ac rfl Al)) (Cx hv3) rfl rfl (by decide) rfl rfl rfl ?_
 refine sv rfl (Fz Tryz.underlying112 Tryz.underlying3 rfl) (sv rfl (Ak rfl) (Ar (Bk ?_)))
 obtain rfl := SJ h
 refine ⟨Or.inr rfl, _, _, _, (Ad (Bd.tmp _ _ rfl) Af), (Aj rfl), ?_⟩
 rfl
def Np (b1 : Int) : Option Int :=
 some b1
def J3 (a0 : List Db) (s2 : Int × Int) : Option (LB (Int × Int) (Int)) :=
 if (decide (s2.2 < (a0.length : Int))) then ((idx a0 s2.2).bind fun u3 => (Lb u3.Val).bind fun v4 => (Ic (wI (s2.1 + v4))).bind fun v5 => some (.cont (v5, (wI (s2.2 + 1))))) else (some (.brk s2.1))
def Mo (a0 : List Db) : Option Int :=
 (Ej (J3 a0) fuel (0, 0)).bind fun e6 => Np e6
theorem V8 {a0 : List Db} {r : Int} (h : Mo a0 = some r) : Bp Tryz.prog 132 [.one (.sl a0.length (a0.flatMap Dx))] (· = .s (.one (Ii6 r))) := by
 unfold Mo at h
 refine A2 Tryz.func132 rfl (nt := 20) rfl (Nbl rfl) ?_
 intro w0 S0
 refine Aq (Ab (sv rfl (Ak rfl) (Ar (Aq (Ab (sv rfl (Ak rfl) (Ar (Aq (Aq (Ab (sv rfl (Ag rfl) (sv rfl (A0 Ads rfl) (sv rfl (Ag rfl) (Ar (G6 (Int) (fun b1 => [(3, .s (.one (Ii6 b1)))]) (fun b1 => []) (fun b1 => Np b1 = some r) (fun _ _ => Be rfl) (fun _ _ => Az rfl) (fun _ _ => Nbl rfl) (fun b1 h => ?_) ?_)))))))))))))))
 ·unfold Np at h
  refine Aq (Ab (sv rfl (Ag rfl) (sv rfl (Ak rfl) (Ar (Bk ?_)))))
  obtain rfl := SJ h
  refine ⟨Or.inr rfl, _, _, _, (Ad (Bd.tmp _ _ rfl) Af), (Aj rfl), ?_⟩
  rfl
 ·skip
  refine B4 ?_
  obtain ⟨x2, hx2, ho2⟩ := Am h
  refine C2 (G := Nat × (Int × Int)) (fun g => [(3, .s (.one (Ii6 g.2.1))), (6, .s (.one (.sl a0.length (a0.flatMap Dx)))), (7, .s (.one (Ii6 (a0.length : Int)))), (8, .s (.one (Ii6 g.2.2)))]) (fun g => []) (fun g => Ej (J3 a0) g.1 g.2 = some x2) (fun g => g.1) (fuel, (0, 0)) hx2 ⟨rfl, rfl, rfl, rfl, trivial⟩ [] rfl (fun _ _ => Be rfl) (fun _ _ => Az rfl) (fun _ _ => Nbl rfl) ?_
  clear hx2 h
  rintro ⟨n2, s2⟩ h
  obtain ⟨n2, y2, rfl, h, hk2⟩ := F5 h
  unfold J3 at h
  refine Aq (Ab (sv rfl (Cm rfl rfl) (Ar (Aq (ccI h rfl (fun h => ?_) (fun h => ?_))))))
  ·refine Bl (Ah (Aq (B4 (Aq (Ab ?_)))))
   obtain ⟨u3, hu3, h⟩ := Am h
   refine sv rfl (Dp (f := Dx) Ads (fun _ => rfl) rfl rfl rfl rfl hu3) ?_
   refine sv rfl (C6 (ys := [.sl u3.Key.length (u3.Key.flatMap eU8), .sl u3.Val.length (u3.Val.flatMap eU8)]) Amx rfl (.cp _) rfl rfl) (B1 rfl Ail (Ax Ant rfl rfl rfl rfl (Nbl rfl) (Bu [.box (EL.el u3)] rfl (Ar (Ab (sv rfl (Ag rfl) (sv rfl (Aa Yg rfl) (sv rfl (Ae L5 rfl (.lp _ _ _ rfl) rfl) ?_))))))))
   obtain ⟨v4, hv4, h⟩ := Am h
   refine A3 rfl Ap2 (Ac rfl Al) (Aj rfl) (Ri hv4) (sv rfl (B0 rfl rfl) ?_)
   obtain ⟨v5, hv5, h⟩ := Am h
   refine A3 rfl Apa (Ac rfl Al) (Aj rfl) (O1 hv5) (sv rfl (Ak rfl) (Lz (A1 (Ah (Ab (sv rfl (B0 rfl rfl) (sv rfl (Ag rfl) (Ar ?_))))))))
   obtain rfl := SJ h
   exact ⟨(n2, (v5, (wI (s2.2 + 1)))), _, hk2, ⟨rfl, rfl, rfl, rfl, trivial⟩, rfl, Nat.lt_succ_self _⟩
  ·refine Kn (Bh (Bh (Cd (Ah ?_))))
   obtain rfl := SJ h
   obtain rfl : _ = x2 := hk2
   exact ⟨s2.1, _, ho2, ⟨rfl, trivial⟩, rfl⟩
def Gm (b4 : A7) : Option (A7 × Int) :=
 some (b4, 0)
def K7 (a0 : Cp) (a1 : A7) (a2 : Bf) (b2 : Unit) : Option (A7 × Int) :=
 (idx a0.Ops a1.PC).bind fun u3 => if (decide (u3.What = 1)) then (if 0 ≤ u3.B ∧ u3.B < ((8 : Nat) : Int) then ((Ie (E5.mk a1.Regs.R0 a1.Regs.R1 a1.Regs.R2 a1.Regs.R3 a1.Regs.R4 a1.Regs.R5 a1.Regs.R6 a1.Regs.R7) u3.B 0).bind fun q6 => if 0 ≤ u3.A ∧ u3.A < ((8 : Nat) : Int) then ((Ie (E5.mk q6.R0 q6.R1 q6.R2 q6.R3 q6.R4 q6.R5 q6.R6 q6.R7) u3.A 0).bind fun q8 => if a2.Found then (if 0 ≤ u3.B ∧ u3.B < ((8 : Nat) : Int) then ((Ie (E5.mk q8.R0 q8.R1 q8.R2 q8.R3 q8.R4 q8.R5 q8.R6 q8.R7) u3.B 1).bind fun q10 => (Lb a2.Val).bind fun v11 => if 0 ≤ u3.A ∧ u3.A < ((8 : Nat) : Int) then ((Ie (E5.mk q10.R0 q10.R1 q10.R2 q10.R3 q10.R4 q10.R5 q10.R6 q10.R7) u3.A v11).bind fun q13 => Gm (A7.mk (wI (a1.PC + 1)) q13 a1.Stopped)) else none) else none) else (Gm (A7.mk (wI (a1.PC + 1)) q8 a1.Stopped))) else none) else none) else (if (decide (u3.What = 4)) then ((Mo a2.List).bind fun v14 => if 0 ≤ u3.B ∧ u3.B < ((8 : Nat) : Int) then ((Ie (E5.mk a1.Regs.R0 a1.Regs.R1 a1.Regs.R2 a1.Regs.R3 a1.Regs.R4 a1.Regs.R5 a1.Regs.R6 a1.Regs.R7) u3.B v14).bind fun q16 => if 0 ≤ u3.A ∧ u3.A < ((8 : Nat) : Int) then ((Ie (E5.mk q16.R0 q16.R1 q16.R2 q16.R3 q16.R4 q16.R5 q16.R6 q16.R7) u3.A (a2.List.length : Int)).bind fun q18 => Gm (A7.mk (wI (a1.PC + 1)) q18 a1.Stopped)) else none) else none) else (Gm (A7.mk (wI (a1.PC + 1)) a1.Regs a1.Stopped)))
def Dj (a0 : Cp) (a1 : A7) (a2 : Bf) : Option (A7 × Int) :=
 (Dz a0).bind fun v1 => if (!v1) then (some (Gh, 1)) else ((Fa a1.PC (wI ((a0.Ops.length : Int) - 1))).bind fun v19 => if (!v19) then (some (Gh, 7)) else (if a1.Stopped then (some (Gh, 7)) else ((idx a0.Ops a1.PC).bind fun u20 => (Ka u20).bind fun v21 => if (!v21) then (some (Gh, 7)) else (K7 a0 a1 a2 ()))))
theorem Vo {a0 : Cp} {a1 : A7} {a2 : Bf} {r : A7 × Int} (h : Dj a0 a1 a2 = some r) : Bp Tryz.prog 118 [.agg (EL.el a0), .agg (EL.el a1), .agg (EL.el a2)] (· = .tup [.agg (EL.el r.1), .one (Ii6 r.2)]) := by
 unfold Dj at h
 refine A2 Tryz.func118 rfl (nt := 88) rfl (Nbl rfl) ?_
 intro w0 S0
 refine Aq (Ab (Jj rfl rfl (Jj rfl rfl (Jj rfl rfl (B1 rfl Agp (sv rfl (Ak rfl) (Ar (Aq (Aq (Ab (sv rfl (Ao Am3 rfl (.lp _ _ _ rfl) (Nbl rfl)) ?_)))))))))))
 obtain ⟨v1, hv1, h⟩ := Am h
 refine A3 rfl Arf (Ac rfl Al) (Aj rfl) (Ok hv1) (sv rfl (Ca rfl) (Ar (ccI h rfl (fun h => ?_) (fun h => ?_))))
 ·refine Aq (Ab (sv rfl (Bj Agp Aps Ba (.nil _)) (Ax Xf rfl rfl rfl rfl (Nbl rfl) (Bu [.box (EL.el a0), .box (EL.el a1), .box (EL.el a2), .box Zbb] rfl (sv rfl (Ak rfl) (Ar (Bk (Au ?_))))))))
  obtain rfl := SJ h
  refine ⟨Or.inr rfl, _, _, _, (Ad (Bd.agg _ _ _ _ _ Si rfl (.lp _ _ _ rfl) (Nbl rfl)) (Ad (Bd.tmp _ _ rfl) Af)), (Aj rfl), ?_⟩
  rfl
 ·refine Bl (Ah (Aq (Aq (Lh (Unit) (fun b2 => [(3, .s (.one (.lp 0 0))), (4, .s (.one (.lp 1 0))), (5, .s (.one (.lp 2 0))), (6, .s (.one (.lp 3 0)))]) (fun b2 => [.box (EL.el a0), .box (EL.el a1), .box (EL.el a2), .box Zbb]) (fun b2 => K7 a0 a1 a2 b2 = some r) (fun _ _ => Be rfl) (fun _ _ => Az rfl) (fun _ _ => Nbl rfl) (fun b2 h => ?_) ?_))))
  ·unfold K7 at h
   refine Aq (Ab (sv rfl (Aa Sl rfl) (sv rfl (Ae Aim rfl (.lp _ _ _ rfl) rfl) (sv rfl (Aa Ov rfl) (sv rfl (Ae ti3 rfl (.lp _ _ _ rfl) rfl) ?_)))))
   obtain ⟨u3, hu3, h⟩ := Am h
   refine sv rfl (Dp (f := Cg) Aj2 (fun _ => rfl) rfl rfl rfl rfl hu3) ?_
   refine sv rfl (C6 (ys := [Ii6 u3.What, Ii6 u3.A, Ii6 u3.B, Ii6 u3.N, .sl u3.Key.length (u3.Key.flatMap eU8), .sl u3.Rng.Lo.length (u3.Rng.Lo.flatMap eU8), .sl u3.Rng.Hi.length (u3.Rng.Hi.flatMap eU8), .b u3.Rng.Open]) Akz rfl (.cp _) rfl rfl) (B1 rfl Apo (Ax As2 rfl rfl rfl rfl (Nbl rfl) (Bu [.box (EL.el a0), .box (EL.el a1), .box (EL.el a2), .box Zbb, .box (EL.el u3)] rfl (Ar (Aq (Ab (sv rfl (Aa Ov rfl) (sv rfl (Ae ti3 rfl (.lp _ _ _ rfl) rfl) (sv rfl (B0 rfl rfl) (sv rfl (Aa Ov rfl) (Ax sz3 rfl rfl rfl rfl (Nbl rfl) (Bu [.box (EL.el a0), .box (EL.el {a1 with PC := wI (a1.PC + 1)}), .box (EL.el a2), .box Zbb, .box (EL.el u3)] rfl (Ar (Aq (Aq (Ab (sv rfl (Aa V5 rfl) (sv rfl (Ae ti3 rfl (.lp _ _ _ rfl) rfl) (Ar (G6 (A7) (fun b4 => [(4, .s (.one (.lp 1 0))), (6, .s (.one (.lp 3 0)))]) (fun b4 => [.box (EL.el a0), .box (EL.el b4), .box (EL.el a2), .box Zbb, .box (EL.el u3)]) (fun b4 => Gm b4 = some r) (fun _ _ => Be rfl) (fun _ _ => Az rfl) (fun _ _ => Nbl rfl) (fun b4 h => ?_) ?_))))))))))))))))))))
   ·unfold Gm at h
    refine Aq (Ab (sv rfl (Ao Si rfl (.lp _ _ _ rfl) (Nbl rfl)) (Ax Xf rfl rfl rfl rfl (Nbl rfl) (Bu [.box (EL.el a0), .box (EL.el b4), .box (EL.el a2), .box (EL.el b4), .box (EL.el u3)] rfl (sv rfl (Ak rfl) (Ar (Bk ?_)))))))
    obtain rfl := SJ h
    refine ⟨Or.inr rfl, _, _, _, (Ad (Bd.agg _ _ _ _ _ Si rfl (.lp _ _ _ rfl) (Nbl rfl)) (Ad (Bd.tmp _ _ rfl) Af)), (Aj rfl), ?_⟩
    rfl
   ·skip
    refine B4 (Aq (Ab (sv rfl (Br rfl rfl) (sv rfl (Ak rfl) (Ar (ccI h rfl (fun h => ?_) (fun h => ?_)))))))
    ·refine Aq ?_
     obtain ⟨hj5, h⟩ := D9 h
     obtain ⟨q6, hq6, h⟩ := Am h
     obtain ⟨hj7, h⟩ := D9 h
     obtain ⟨q8, hq8, h⟩ := Am h
     refine Ke [6, 9] [0, 1, 0, 4, 0, 19, 51, 0, 255, 511] [[.box (EL.el a0), .box (EL.el {a1 with PC := wI (a1.PC + 1)}), .box (EL.el a2), .box Zbb, .box (EL.el u3)], [.box (EL.el a0), .box [Ii6 (wI (a1.PC + 1)), Ii6 q6.R0, Ii6 q6.R1, Ii6 q6.R2, Ii6 q6.R3, Ii6 q6.R4, Ii6 q6.R5, Ii6 q6.R6, Ii6 q6.R7, .b a1.Stopped], .box (EL.el a2), .box Zbb, .box (EL.el u3)], [.box (EL.el a0), .box [Ii6 (wI (a1.PC + 1)), Ii6 q8.R0, Ii6 q8.R1, Ii6 q8.R2, Ii6 q8.R3, Ii6 q8.R4, Ii6 q8.R5, Ii6 q8.R6, Ii6 q8.R7, .b a1.Stopped], .box (EL.el a2), .box Zbb, .box (EL.el u3)]] (by kernel_rfl) Lm (by kernel_rfl) (by decide) rfl rfl rfl rfl ?_
     refine ev (Bi 0 rfl rfl) rfl rfl (Aa Xv rfl) (ev (Bi 0 rfl rfl) rfl rfl (Ae ti3 rfl (.lp _ _ _ rfl) rfl) (ev (B5 (md := [.box (EL.el a0), .dead, .box (EL.el a2), .box Zbb, .box (EL.el u3)]) ⟨⟨rfl, ⟨trivial, ⟨rfl, ⟨rfl, ⟨rfl, trivial⟩⟩⟩⟩⟩, ⟨⟨rfl, ⟨trivial, ⟨rfl, ⟨rfl, ⟨rfl, trivial⟩⟩⟩⟩⟩, ⟨⟨rfl, ⟨trivial, ⟨rfl, ⟨rfl, ⟨rfl, trivial⟩⟩⟩⟩⟩, trivial⟩⟩⟩) rfl rfl (Aa U4 rfl) (ev (B5 (md := [.box (EL.el a0), .dead, .box (EL.el a2), .box Zbb, .box (EL.el u3)]) ⟨⟨rfl, ⟨trivial, ⟨rfl, ⟨rfl, ⟨rfl, trivial⟩⟩⟩⟩⟩, ⟨⟨rfl, ⟨trivial, ⟨rfl, ⟨rfl, ⟨rfl, trivial⟩⟩⟩⟩⟩, ⟨⟨rfl, ⟨trivial, ⟨rfl, ⟨rfl, ⟨rfl, trivial⟩⟩⟩⟩⟩, trivial⟩⟩⟩) rfl rfl (Ae ti3 rfl (.lp _ _ _ rfl) rfl) (ev (Bi 0 rfl rfl) rfl rfl (Aa O3 rfl) (ev (Bi 0 rfl rfl) rfl rfl (L6 Ae0 rfl rfl hj5) (ee0 0 rfl rfl rfl rfl (fun ζ => ?_) ?_))))))
     ·refine Ax sz3 rfl rfl rfl rfl (Aa0 hj5 (Nbl rfl)) (Bu [.box (EL.el a0), .box [Ii6 (wI (a1.PC + 1)), Ii6 q6.R0, Ii6 q6.R1, Ii6 q6.R2, Ii6 q6.R3, Ii6 q6.R4, Ii6 q6.R5, Ii6 q6.R6, Ii6 q6.R7, .b a1.Stopped], .box (EL.el a2), .box Zbb, .box (EL.el u3)] (Rd (Akk hq6 [Ii6 (wI (a1.PC + 1))] [.b a1.Stopped])) ?_)
      exact Sk
     refine ev (B5 (md := [.box (EL.el a0), .dead, .box (EL.el a2), .box Zbb, .box (EL.el u3)]) ⟨⟨rfl, ⟨trivial, ⟨rfl, ⟨rfl, ⟨rfl, trivial⟩⟩⟩⟩⟩, ⟨⟨rfl, ⟨trivial, ⟨rfl, ⟨rfl, ⟨rfl, trivial⟩⟩⟩⟩⟩, ⟨⟨rfl, ⟨trivial, ⟨rfl, ⟨rfl, ⟨rfl, trivial⟩⟩⟩⟩⟩, trivial⟩⟩⟩) rfl rfl (Aa O3 rfl) (ev (Bi 1 rfl rfl) rfl rfl (L6 Ae0 rfl rfl hj7) (ee0 1 rfl rfl rfl rfl (fun ζ => ?_) ?_))
     ·refine Ax sz3 rfl rfl rfl rfl (Aa0 hj7 (Nbl rfl)) (Bu [.box (EL.el a0), .box [Ii6 (wI (a1.PC + 1)), Ii6 q8.R0, Ii6 q8.R1, Ii6 q8.R2, Ii6 q8.R3, Ii6 q8.R4, Ii6 q8.R5, Ii6 q8.R6, Ii6 q8.R7, .b a1.Stopped], .box (EL.el a2), .box Zbb, .box (EL.el u3)] (Rd (Akk hq8 [Ii6 (wI (a1.PC + 1))] [.b a1.Stopped])) ?_)
      exact Sk
     refine Y9 (Ah (Aq (Ab (sv rfl (Aa Aa4 rfl) (sv rfl (Ae ti4 rfl (.lp _ _ _ rfl) rfl) (Ar (ccI h rfl (fun h => ?_) (fun h => ?_))))))))
     ·refine Aq (Ab (sv rfl (Aa Xv rfl) (sv rfl (Ae ti3 rfl (.lp _ _ _ rfl) rfl) (sv rfl (Aa O3 rfl) ?_))))
      obtain ⟨hj9, h⟩ := D9 h
      refine sv rfl (L6 Ae0 rfl rfl hj9) ?_
      obtain ⟨q10, hq10, h⟩ := Am h
      refine Ax sz3 rfl rfl rfl rfl (Aa0 hj9 (Nbl rfl)) (Bu [.box (EL.el a0), .box [Ii6 (wI (a1.PC + 1)), Ii6 q10.R0, Ii6 q10.R1, Ii6 q10.R2, Ii6 q10.R3, Ii6 q10.R4, Ii6 q10.R5, Ii6 q10.R6, Ii6 q10.R7, .b a1.Stopped], .box (EL.el a2), .box Zbb, .box (EL.el u3)] (Rd (Akk hq10 [Ii6 (wI (a1.PC + 1))] [.b a1.Stopped])) (Ar ?_))
      obtain ⟨v11, hv11, h⟩ := Am h
      obtain ⟨hj12, h⟩ := D9 h
      obtain ⟨q13, hq13, h⟩ := Am h
      refine Ke [7] [0, 1, 0, 4, 12, 0, 63, 127] [[.box (EL.el a0), .box [Ii6 (wI (a1.PC + 1)), Ii6 q10.R0, Ii6 q10.R1, Ii6 q10.R2, Ii6 q10.R3, Ii6 q10.R4, Ii6 q10.R5, Ii6 q10.R6, Ii6 q10.R7, .b a1.Stopped], .box (EL.el a2), .box Zbb, .box (EL.el u3)], [.box (EL.el a0), .box [Ii6 (wI (a1.PC + 1)), Ii6 q13.R0, Ii6 q13.R1, Ii6 q13.R2, Ii6 q13.R3, Ii6 q13.R4, Ii6 q13.R5, Ii6 q13.R6, Ii6 q13.R7, .b a1.Stopped], .box (EL.el a2), .box Zbb, .box (EL.el u3)]] (by kernel_rfl) Lm (by kernel_rfl) (by decide) rfl rfl rfl rfl ?_
      refine ev (Bi 0 rfl rfl) rfl rfl (Aa U4 rfl) (ev (Bi 0 rfl rfl) rfl rfl (Ae ti3 rfl (.lp _ _ _ rfl) rfl) (ev (Bi 0 rfl rfl) rfl rfl (Aa Z7 rfl) (ev (Bi 0 rfl rfl) rfl rfl (Ae L5 rfl (.lp _ _ _ rfl) rfl) (ed (Bi 0 rfl rfl) rfl rfl (D3 Ap2 (Ac rfl Al) rfl (Ri hv11)) (ev (Bi 0 rfl rfl) rfl rfl (Aa O3 rfl) (ev (Bi 0 rfl rfl) rfl rfl (L6 Ae0 rfl rfl hj12) (ee0 0 rfl rfl rfl rfl (fun ζ => ?_) ?_)))))))
      ·refine Ax sz3 rfl rfl rfl rfl (Aa0 hj12 (Nbl rfl)) (Bu [.box (EL.el a0), .box [Ii6 (wI (a1.PC + 1)), Ii6 q13.R0, Ii6 q13.R1, Ii6 q13.R2, Ii6 q13.R3, Ii6 q13.R4, Ii6 q13.R5, Ii6 q13.R6, Ii6 q13.R7, .b a1.Stopped], .box (EL.el a2), .box Zbb, .box (EL.el u3)] (Rd (Akk hq13 [Ii6 (wI (a1.PC + 1))] [.b a1.Stopped])) ?_)
       exact Sk
      refine Y9 (A1 (Ah ?_))
      exact ⟨(A7.mk (wI (a1.PC + 1)) q13 a1.Stopped), _, h, ⟨rfl, rfl, trivial⟩, rfl⟩
     ·refine Bl (A1 (Ah ?_))
      exact ⟨(A7.mk (wI (a1.PC + 1)) q8 a1.Stopped), _, h, ⟨rfl, rfl, trivial⟩, rfl⟩
    ·refine Aq (Ab (sv rfl (Br rfl rfl) (sv rfl (Ak rfl) (Ar (ccI h rfl (fun h => ?_) (fun h => ?_))))))
     ·refine Aq ?_
      obtain ⟨v14, hv14, h⟩ := Am h
      obtain ⟨hj15, h⟩ := D9 h
      obtain ⟨q16, hq16, h⟩ := Am h
      refine Ke [7] [0, 1, 0, 4, 12, 0, 63, 127] [[.box (EL.el a0), .box (EL.el {a1 with PC := wI (a1.PC + 1)}), .box (EL.el a2), .box Zbb, .box (EL.el u3)], [.box (EL.el a0), .box [Ii6 (wI (a1.PC + 1)), Ii6 q16.R0, Ii6 q16.R1, Ii6 q16.R2, Ii6 q16.R3, Ii6 q16.R4, Ii6 q16.R5, Ii6 q16.R6, Ii6 q16.R7, .b a1.Stopped], .box (EL.el a2), .box Zbb, .box (EL.el u3)]] (by kernel_rfl) Lm (by kernel_rfl) (by decide) rfl rfl rfl rfl ?_
      refine ev (Bi 0 rfl rfl) rfl rfl (Aa Xv rfl) (ev (Bi 0 rfl rfl) rfl rfl (Ae ti3 rfl (.lp _ _ _ rfl) rfl) (ev (Bi 0 rfl rfl) rfl rfl (Aa U2 rfl) (ev (Bi 0 rfl rfl) rfl rfl (Ae Ae1 rfl (.lp _ _ _ rfl) rfl) (ed (Bi 0 rfl rfl) rfl rfl (D3 Ash (Ac rfl Al) rfl (V8 hv14)) (ev (Bi 0 rfl rfl) rfl rfl (Aa O3 rfl) (ev (Bi 0 rfl rfl) rfl rfl (L6 Ae0 rfl rfl hj15) (ee0 0 rfl rfl rfl rfl (fun ζ => ?_) ?_)))))))
      ·refine Ax sz3 rfl rfl rfl rfl (Aa0 hj15 (Nbl rfl)) (Bu [.box (EL.el a0), .box [Ii6 (wI (a1.PC + 1)), Ii6 q16.R0, Ii6 q16.R1, Ii6 q16.R2, Ii6 q16.R3, Ii6 q16.R4, Ii6 q16.R5, Ii6 q16.R6, Ii6 q16.R7, .b a1.Stopped], .box (EL.el a2), .box Zbb, .box (EL.el u3)] (Rd (Akk hq16 [Ii6 (wI (a1.PC + 1))] [.b a1.Stopped])) ?_)
       exact Sk
      refine Y9 (Ah (Ab (sv rfl (Aa U4 rfl) (sv rfl (Ae ti3 rfl (.lp _ _ _ rfl) rfl) (sv rfl (Aa U2 rfl) (sv rfl (Ae Ae1 rfl (.lp _ _ _ rfl) rfl) (sv rfl (A0 Ads rfl) (sv rfl (Aa O3 rfl) ?_))))))))
      obtain ⟨hj17, h⟩ := D9 h
      refine sv rfl (L6 Ae0 rfl rfl hj17) ?_
      obtain ⟨q18, hq18, h⟩ := Am h
      refine Ax sz3 rfl rfl rfl rfl (Aa0 hj17 (Nbl rfl)) (Bu [.box (EL.el a0), .box [Ii6 (wI (a1.PC + 1)), Ii6 q18.R0, Ii6 q18.R1, Ii6 q18.R2, Ii6 q18.R3, Ii6 q18.R4, Ii6 q18.R5, Ii6 q18.R6, Ii6 q18.R7, .b a1.Stopped], .box (EL.el a2), .box Zbb, .box (EL.el u3)] (Rd (Akk hq18 [Ii6 (wI (a1.PC + 1))] [.b a1.Stopped])) (Lz (A1 (Ah ?_))))
      exact ⟨(A7.mk (wI (a1.PC + 1)) q18 a1.Stopped), _, h, ⟨rfl, rfl, trivial⟩, rfl⟩
     ·refine Bl (A1 (Ah ?_))
      exact ⟨(A7.mk (wI (a1.PC + 1)) a1.Regs a1.Stopped), _, h, ⟨rfl, rfl, trivial⟩, rfl⟩
  ·skip
   refine Ab (sv rfl (Aa Ov rfl) (sv rfl (Ae ti3 rfl (.lp _ _ _ rfl) rfl) (sv rfl (Aa Sl rfl) (sv rfl (Ae Aim rfl (.lp _ _ _ rfl) rfl) (sv rfl (A0 Aj2 rfl) (sv rfl (M1 rfl rfl) ?_))))))
   obtain ⟨v19, hv19, h⟩ := Am h
   refine A3 rfl Afn (Ac rfl (Ac rfl Al)) (Aj rfl) (Ij hv19) (sv rfl (Ca rfl) (sv rfl (Ag rfl) (Bq 21 rfl (fun hc => ?_) (fun hc => ?_))))
   ·replace h := B2 hc h
    clear hc
    refine Aw rfl rfl rfl rfl (Aw rfl rfl rfl rfl (sv rfl (Av rfl rfl) (sv rfl (Ag rfl) (Aw rfl rfl rfl rfl (Aw rfl rfl rfl rfl (Aw rfl rfl rfl rfl (Aw rfl rfl rfl rfl (Aw rfl rfl rfl rfl (Aw rfl rfl rfl rfl (Aw rfl rfl rfl rfl (Aw rfl rfl rfl rfl (sv rfl (Av rfl rfl) (Ar (Hq rfl (fun _ => ?_) (fun hx => Bool.noConfusion hx)))))))))))))))
    refine Aq (Ab (sv rfl (Bj Agp Aps Ba (.nil _)) (Ax Xf rfl rfl rfl rfl (Nbl rfl) (Bu [.box (EL.el a0), .box (EL.el a1), .box (EL.el a2), .box Zbb] rfl (sv rfl (Ak rfl) (Ar (Bk (Au ?_))))))))
    obtain rfl := SJ h
    refine ⟨Or.inr rfl, _, _, _, (Ad (Bd.agg _ _ _ _ _ Si rfl (.lp _ _ _ rfl) (Nbl rfl)) (Ad (Bd.tmp _ _ rfl) Af)), (Aj rfl), ?_⟩
    rfl
   ·replace h := B3 hc h
    clear hc
    refine son rfl rfl rfl (sv rfl (Aa W5 rfl) (son rfl rfl rfl (sv rfl (Ae ti4 rfl (.lp _ _ _ rfl) rfl) (sv rfl (An rfl rfl) (sv rfl (Ag rfl) (Bq 25 rfl (fun hc => ?_) (fun hc => ?_)))))))
    ·replace h := B2 hc h
     clear hc
     refine Aw rfl rfl rfl rfl (Aw rfl rfl rfl rfl (Aw rfl rfl rfl rfl (Aw rfl rfl rfl rfl (Aw rfl rfl rfl rfl (Aw rfl rfl rfl rfl (Aw rfl rfl rfl rfl (Aw rfl rfl rfl rfl (sv rfl (Av rfl rfl) (Ar (Hq rfl (fun _ => ?_) (fun hx => Bool.noConfusion hx)))))))))))
     refine Aq (Ab (sv rfl (Bj Agp Aps Ba (.nil _)) (Ax Xf rfl rfl rfl rfl (Nbl rfl) (Bu [.box (EL.el a0), .box (EL.el a1), .box (EL.el a2), .box Zbb] rfl (sv rfl (Ak rfl) (Ar (Bk (Au ?_))))))))
     obtain rfl := SJ h
     refine ⟨Or.inr rfl, _, _, _, (Ad (Bd.agg _ _ _ _ _ Si rfl (.lp _ _ _ rfl) (Nbl rfl)) (Ad (Bd.tmp _ _ rfl) Af)), (Aj rfl), ?_⟩
     rfl
    ·replace h := B3 hc h
     clear hc
     refine son rfl rfl rfl (sv rfl (Aa Sl rfl) (son rfl rfl rfl (sv rfl (Ae Aim rfl (.lp _ _ _ rfl) rfl) (son rfl rfl rfl (sv rfl (Aa Ov rfl) (son rfl rfl rfl (sv rfl (Ae ti3 rfl (.lp _ _ _ rfl) rfl) (son rfl rfl rfl ?_))))))))
     obtain ⟨u20, hu20, h⟩ := Am h
     refine sv rfl (Dp (f := Cg) Aj2 (fun _ => rfl) rfl rfl rfl rfl hu20) ?_
     refine son rfl rfl rfl (sv rfl (C6 (ys := [Ii6 u20.What, Ii6 u20.A, Ii6 u20.B, Ii6 u20.N, .sl u20.Key.length (u20.Key.flatMap eU8), .sl u20.Rng.Lo.length (u20.Rng.Lo.flatMap eU8), .sl u20.Rng.Hi.length (u20.Rng.Hi.flatMap eU8), .b u20.Rng.Open]) Akz rfl (.cp _) rfl rfl) (son rfl rfl rfl ?_))
     obtain ⟨v21, hv21, h⟩ := Am h
     refine A3 rfl Apr (Ac rfl Al) (Aj rfl) (Qb hv21) (son rfl rfl rfl (sv rfl (Ca rfl) (sv rfl (An rfl rfl) (Ar (ccI h rfl (fun h => ?_) (fun h => ?_))))))
     ·refine Aq (Ab (sv rfl (Bj Agp Aps Ba (.nil _)) (Ax Xf rfl rfl rfl rfl (Nbl rfl) (Bu [.box (EL.el a0), .box (EL.el a1), .box (EL.el a2), .box Zbb] rfl (sv rfl (Ak rfl) (Ar (Bk (Au ?_))))))))
      obtain rfl := SJ h
      refine ⟨Or.inr rfl, _, _, _, (Ad (Bd.agg _ _ _ _ _ Si rfl (.lp _ _ _ rfl) (Nbl rfl)) (Ad (Bd.tmp _ _ rfl) Af)), (Aj rfl), ?_⟩
      rfl
     ·refine Bl (Ah ?_)
      exact ⟨(), _, h, ⟨rfl, rfl, rfl, rfl, trivial⟩, rfl⟩
def D0 (a0 : Ai) (a1 : Bf) : Option Ai :=
 if (!decide (a1.Code = 0)) then ((Ci a0).bind fun v1 => some v1) else ((idx a0.Tasks 0).bind fun u2 => (Dj u2.Prog a0.St a1).bind fun v3 => if (!decide (v3.2 = 0)) then ((Ci a0).bind fun v4 => some v4) else ((Ed ({a0 with St := v3.1})).bind fun v5 => some v5))
theorem Nl {a0 : Ai} {a1 : Bf} {r : Ai} (h : D0 a0 a1 = some r) : Bp Tryz.prog 101 [.agg (EL.el a0), .agg (EL.el a1)] (· = .s (.agg (EL.el r))) := by
 unfold D0 at h
 refine A2 Tryz.func101 rfl (nt := 32) rfl (Nbl rfl) ?_
 intro w0 S0
 refine Aq (Ab (Jj rfl rfl (Jj rfl rfl (B1 rfl Nw (Ar (Aq (Aq (Ab (sv rfl (Aa Q7 rfl) (sv rfl (Ae Aba rfl (.lp _ _ _ rfl) rfl) (sv rfl (Ce rfl rfl) (Ar (ccI h rfl (fun h => ?_) (fun h => ?_))))))))))))))
 ·refine Aq (Ab (sv rfl (Ao B8 rfl (.lp _ _ _ rfl) (Nbl rfl)) ?_))
  obtain ⟨v1, hv1, h⟩ := Am h
  refine A3 rfl Agk (Ac rfl Al) (Aj rfl) (Ei hv1) (Ax E7 rfl rfl rfl rfl (Nbl rfl) (Bu [.box (EL.el a0), .box (EL.el a1), .box (EL.el v1)] rfl (Ar (Bk (Au ?_)))))
  obtain rfl := SJ h
  refine ⟨Or.inr rfl, _, _, _, (Ad (Bd.agg _ _ _ _ _ B8 rfl (.lp _ _ _ rfl) (Nbl rfl)) Af), (Aj rfl), ?_⟩
  rfl
 ·refine Bl (Ah (Aq (Aet ?_)))
  obtain ⟨u2, hu2, h⟩ := Am h
  obtain ⟨v3, hv3, h⟩ := Am h
  refine Ke [12, 13] [0, 1, 3, 7, 15, 0, 32, 0, 255, 511, 1023, 1023, 0, 6143, 16383] [[.box (EL.el a0), .box (EL.el a1), .box Zba, .hole], [.box (EL.el a0), .box (EL.el a1), .box Zba, .box Zbb], [.box (EL.el a0), .box (EL.el a1), .box Zba, .box (EL.el v3.1)]] (by kernel_rfl) Lm (by kernel_rfl) (by decide) rfl rfl rfl rfl ?_
  refine ev (B5 (md := [.box (EL.el a0), .box (EL.el a1), .box Zba, .dead]) ⟨⟨rfl, ⟨rfl, ⟨rfl, ⟨trivial, trivial⟩⟩⟩⟩, ⟨⟨rfl, ⟨rfl, ⟨rfl, ⟨trivial, trivial⟩⟩⟩⟩, ⟨⟨rfl, ⟨rfl, ⟨rfl, ⟨trivial, trivial⟩⟩⟩⟩, trivial⟩⟩⟩) rfl rfl (Aa Mz rfl) (ev (B5 (md := [.box (EL.el a0), .box (EL.el a1), .box Zba, .dead]) ⟨⟨rfl, ⟨rfl, ⟨rfl, ⟨trivial, trivial⟩⟩⟩⟩, ⟨⟨rfl, ⟨rfl, ⟨rfl, ⟨trivial, trivial⟩⟩⟩⟩, ⟨⟨rfl, ⟨rfl, ⟨rfl, ⟨trivial, trivial⟩⟩⟩⟩, trivial⟩⟩⟩) rfl rfl (Ae Zk rfl (.lp _ _ _ rfl) rfl) (ev (B5 (md := [.box (EL.el a0), .box (EL.el a1), .box Zba, .dead]) ⟨⟨rfl, ⟨rfl, ⟨rfl, ⟨trivial, trivial⟩⟩⟩⟩, ⟨⟨rfl, ⟨rfl, ⟨rfl, ⟨trivial, trivial⟩⟩⟩⟩, ⟨⟨rfl, ⟨rfl, ⟨rfl, ⟨trivial, trivial⟩⟩⟩⟩, trivial⟩⟩⟩) rfl rfl (Dp (f := Ay) Vl (fun _ => rfl) rfl rfl rfl rfl hu2) ?_))
  refine ev (B5 (md := [.box (EL.el a0), .box (EL.el a1), .box Zba, .dead]) ⟨⟨rfl, ⟨rfl, ⟨rfl, ⟨trivial, trivial⟩⟩⟩⟩, ⟨⟨rfl, ⟨rfl, ⟨rfl, ⟨trivial, trivial⟩⟩⟩⟩, ⟨⟨rfl, ⟨rfl, ⟨rfl, ⟨trivial, trivial⟩⟩⟩⟩, trivial⟩⟩⟩) rfl rfl (Bm Adc rfl) (ev (B5 (md := [.box (EL.el a0), .box (EL.el a1), .box Zba, .dead]) ⟨⟨rfl, ⟨rfl, ⟨rfl, ⟨trivial, trivial⟩⟩⟩⟩, ⟨⟨rfl, ⟨rfl, ⟨rfl, ⟨trivial, trivial⟩⟩⟩⟩, ⟨⟨rfl, ⟨rfl, ⟨rfl, ⟨trivial, trivial⟩⟩⟩⟩, trivial⟩⟩⟩) rfl rfl (C6 (ys := [.b u2.Prog.RO, .sl u2.Prog.Ops.length (u2.Prog.Ops.flatMap Cg)]) Am3 rfl (.cp _) rfl rfl) (ev (B5 (md := [.box (EL.el a0), .box (EL.el a1), .box Zba, .dead]) ⟨⟨rfl, ⟨rfl, ⟨rfl, ⟨trivial, trivial⟩⟩⟩⟩, ⟨⟨rfl, ⟨rfl, ⟨rfl, ⟨trivial, trivial⟩⟩⟩⟩, ⟨⟨rfl, ⟨rfl, ⟨rfl, ⟨trivial, trivial⟩⟩⟩⟩, trivial⟩⟩⟩) rfl rfl (Aa P4 rfl) (ev (B5 (md := [.box (EL.el a0), .box (EL.el a1), .box Zba, .dead]) ⟨⟨rfl, ⟨rfl, ⟨rfl, ⟨trivial, trivial⟩⟩⟩⟩, ⟨⟨rfl, ⟨rfl, ⟨rfl, ⟨trivial, trivial⟩⟩⟩⟩, ⟨⟨rfl, ⟨rfl, ⟨rfl, ⟨trivial, trivial⟩⟩⟩⟩, trivial⟩⟩⟩) rfl rfl (Ao Si rfl (.lp _ _ _ rfl) (Nbl rfl)) (ev (B5 (md := [.box (EL.el a0), .box (EL.el a1), .box Zba, .dead]) ⟨⟨rfl, ⟨rfl, ⟨rfl, ⟨trivial, trivial⟩⟩⟩⟩, ⟨⟨rfl, ⟨rfl, ⟨rfl, ⟨trivial, trivial⟩⟩⟩⟩, ⟨⟨rfl, ⟨rfl, ⟨rfl, ⟨trivial, trivial⟩⟩⟩⟩, trivial⟩⟩⟩) rfl rfl (Ao Acf rfl (.lp _ _ _ rfl) (Nbl rfl)) (ed (B5 (md := [.box (EL.el a0), .box (EL.el a1), .box Zba, .dead]) ⟨⟨rfl, ⟨rfl, ⟨rfl, ⟨trivial, trivial⟩⟩⟩⟩, ⟨⟨rfl, ⟨rfl, ⟨rfl, ⟨trivial, trivial⟩⟩⟩⟩, ⟨⟨rfl, ⟨rfl, ⟨rfl, ⟨trivial, trivial⟩⟩⟩⟩, trivial⟩⟩⟩) rfl rfl (D3 Ar0 (Ac rfl (Ac rfl (Ac rfl Al))) rfl (Vo hv3)) (emv rfl rfl (fun _ => Gn rfl) ?_))))))
  refine ev (B5 (md := [.box (EL.el a0), .box (EL.el a1), .box Zba, .dead]) ⟨⟨rfl, ⟨rfl, ⟨rfl, ⟨trivial, trivial⟩⟩⟩⟩, ⟨⟨rfl, ⟨rfl, ⟨rfl, ⟨trivial, trivial⟩⟩⟩⟩, ⟨⟨rfl, ⟨rfl, ⟨rfl, ⟨trivial, trivial⟩⟩⟩⟩, trivial⟩⟩⟩) rfl rfl (Bb rfl rfl) (ev (B5 (md := [.box (EL.el a0), .box (EL.el a1), .box Zba, .dead]) ⟨⟨rfl, ⟨rfl, ⟨rfl, ⟨trivial, trivial⟩⟩⟩⟩, ⟨⟨rfl, ⟨rfl, ⟨rfl, ⟨trivial, trivial⟩⟩⟩⟩, ⟨⟨rfl, ⟨rfl, ⟨rfl, ⟨trivial, trivial⟩⟩⟩⟩, trivial⟩⟩⟩) rfl rfl (Bb rfl rfl) (ee (x := .s (.one (.lp 3 0))) 0 rfl rfl rfl rfl rfl (fun ζ => ?_) ?_))
  ·refine Nk 3 rfl Agp rfl ?_
   exact Sk
  refine ee0 1 rfl rfl rfl rfl (fun ζ => ?_) ?_
  ·refine Ax Xf rfl rfl rfl rfl (Nbl rfl) (Bu [.box (EL.el a0), .box (EL.el a1), .box Zba, .box (EL.el v3.1)] rfl ?_)
   exact Sk
  refine ev (Bi 2 rfl rfl) rfl rfl (Ak rfl) (Y9 (Ah (Aq (Aq (Ab (sv rfl (Ag rfl) (sv rfl (Ce rfl rfl) (Ar (ccI h rfl (fun h => ?_) (fun h => ?_))))))))))
  ·refine Aq (Ab (sv rfl (Ao B8 rfl (.lp _ _ _ rfl) (Nbl rfl)) ?_))
   obtain ⟨v4, hv4, h⟩ := Am h
   refine A3 rfl Agk (Ac rfl Al) (Aj rfl) (Ei hv4) (Ax E7 rfl rfl rfl rfl (Nbl rfl) (Bu [.box (EL.el a0), .box (EL.el a1), .box (EL.el v4), .box (EL.el v3.1)] rfl (Ar (Bk (Au ?_)))))
   obtain rfl := SJ h
   refine ⟨Or.inr rfl, _, _, _, (Ad (Bd.agg _ _ _ _ _ B8 rfl (.lp _ _ _ rfl) (Nbl rfl)) Af), (Aj rfl), ?_⟩
   rfl
  ·refine Bl (Ah (Aq (Ab (sv rfl (Ao Si rfl (.lp _ _ _ rfl) (Nbl rfl)) (sv rfl (Aa P4 rfl) (Ax Xf rfl rfl rfl rfl (Nbl rfl) (Bu [.box (EL.el {a0 with St := v3.1}), .box (EL.el a1), .box Zba, .box (EL.el v3.1)] rfl (Ar (Aq (Ab (sv rfl (Ao B8 rfl (.lp _ _ _ rfl) (Nbl rfl)) ?_)))))))))))
   obtain ⟨v5, hv5, h⟩ := Am h
   refine A3 rfl Aqg (Ac rfl Al) (Aj rfl) (Ly hv5) (Ax E7 rfl rfl rfl rfl (Nbl rfl) (Bu [.box (EL.el {a0 with St := v3.1}), .box (EL.el a1), .box (EL.el v5), .box (EL.el v3.1)] rfl (Ar (Bk ?_))))
   obtain rfl := SJ h
   refine ⟨Or.inr rfl, _, _, _, (Ad (Bd.agg _ _ _ _ _ B8 rfl (.lp _ _ _ rfl) (Nbl rfl)) Af), (Aj rfl), ?_⟩
   rfl
def Lu  : Option Unit :=
 (Co 5).bind fun v1 => if (!v1) then none else (some ())
theorem Qi  {r : Unit} (h : Lu = some r) : G3 Tryz.prog 79 [] [.one (Ii6 5)] (fun y m' => y = .s (.one (.raw (.func (.func 102) #[] #[]))) ∧ m' = []) := by
 unfold Lu at h
 refine Cv Tryz.func79 rfl (nt := 11) rfl (Nbl rfl) ?_
 intro w0 S0 X0 H0
 refine Aq (Ab (sv rfl (Ak rfl) (Ar (Aq (Ab (sv rfl (G8 Rx Sx (Ap rfl (Ap rfl (Ap rfl (Ap rfl (Ap rfl (Ap rfl (Ap rfl Ba))))))) (Ef [Nfu, Nfu, .raw (.func (.func 99) #[] #[]), Nfu, Nfu, Nfu, Nfu, Nfu, Nfu, Nfu] rfl rfl (Nbl rfl) rfl (Ef [Nfu, Nfu, .raw (.func (.func 99) #[] #[]), .raw (.func (.func 100) #[] #[]), Nfu, Nfu, Nfu, Nfu, Nfu, Nfu] rfl rfl (Nbl rfl) rfl (Ef [Nfu, Nfu, .raw (.func (.func 99) #[] #[]), .raw (.func (.func 100) #[] #[]), .raw (.func (.func 101) #[] #[]), Nfu, Nfu, Nfu, Nfu, Nfu] rfl rfl (Nbl rfl) rfl (Ef [Nfu, Nfu, .raw (.func (.func 99) #[] #[]), .raw (.func (.func 100) #[] #[]), .raw (.func (.func 101) #[] #[]), .raw (.func (.func 102) #[] #[]), Nfu, Nfu, Nfu, Nfu] rfl rfl (Nbl rfl) rfl (Ef [Nfu, Nfu, .raw (.func (.func 99) #[] #[]), .raw (.func (.func 100) #[] #[]), .raw (.func (.func 101) #[] #[]), .raw (.func (.func 102) #[] #[]), .raw (.func (.func 103) #[] #[]), Nfu, Nfu, Nfu] rfl rfl (Nbl rfl) rfl (Ef [Nfu, Nfu, .raw (.func (.func 99) #[] #[]), .raw (.func (.func 100) #[] #[]), .raw (.func (.func 101) #[] #[]), .raw (.func (.func 102) #[] #[]), .raw (.func (.func 103) #[] #[]), .raw (.func (.func 104) #[] #[]), Nfu, Nfu] rfl rfl (Nbl rfl) rfl (Ef [Nfu, Nfu, .raw (.func (.func 99) #[] #[]), .raw (.func (.func 100) #[] #[]), .raw (.func (.func 101) #[] #[]), .raw (.func (.func 102) #[] #[]), .raw (.func (.func 103) #[] #[]), .raw (.func (.func 104) #[] #[]), Nfu, .raw (.func (.func 105) #[] #[])] rfl rfl (Nbl rfl) rfl (.nil _))))))))) (B1 rfl Rx (Ax Zq rfl rfl rfl rfl (Nbl rfl) (Bu [.box [Nfu, Nfu, .raw (.func (.func 99) #[] #[]), .raw (.func (.func 100) #[] #[]), .raw (.func (.func 101) #[] #[]), .raw (.func (.func 102) #[] #[]), .raw (.func (.func 103) #[] #[]), .raw (.func (.func 104) #[] #[]), Nfu, .raw (.func (.func 105) #[] #[])]] rfl (Ar (Aq (Aq (Ab (sv rfl (Ag rfl) ?_))))))))))))))
 obtain ⟨v1, hv1, h⟩ := Am h
 refine A3 rfl Ai1 (Ac rfl Al) (Aj rfl) (D1 hv1) (sv rfl (Ca rfl) (Ar (ccI h rfl (fun h => ?_) (fun h => ?_))))
 ·refine Aq (Ab ?_)
  cases h
 ·refine Bl (Ah (Aq (Ab (sv rfl (Ag rfl) ?_))))
  refine sv rfl (O4 (o := 5) Sx rfl rfl (by decide)) ?_
  refine sv rfl (Ae Acc rfl (.lp _ _ _ rfl) rfl) (sv rfl (Ak rfl) (Ar (Bk ?_)))
  obtain rfl := SJ h
  exact ⟨Or.inr rfl, _, [], [.one (.raw (.func (.func 102) #[] #[]))], [], (Ad (Bd.tmp _ _ rfl) Af), rfl, rfl, ⟨by decide, rfl⟩, rfl, rfl, ⟨rfl, rfl⟩⟩
def Ez (a0 : Ai) (a1 : Bf) : Option Ai :=
 if (!decide (a1.Code = 0)) then ((De a0 a1.Code).bind fun v1 => some v1) else ((Bv a0 1 a1.N).bind fun v2 => some v2)
theorem Ob {a0 : Ai} {a1 : Bf} {r : Ai} (h : Ez a0 a1 = some r) : Bp Tryz.prog 102 [.agg (EL.el a0), .agg (EL.el a1)] (· = .s (.agg (EL.el r))) := by
 unfold Ez at h
 refine A2 Tryz.func102 rfl (nt := 16) rfl (Nbl rfl) ?_
 intro w0 S0
 refine Aq (Ab (Jj rfl rfl (Jj rfl rfl (B1 rfl Nw (Ar (Aq (Aq (Ab (sv rfl (Aa Q7 rfl) (sv rfl (Ae Aba rfl (.lp _ _ _ rfl) rfl) (sv rfl (Ce rfl rfl) (Ar (ccI h rfl (fun h => ?_) (fun h => ?_))))))))))))))
 ·refine Aq (Ab (sv rfl (Ao B8 rfl (.lp _ _ _ rfl) (Nbl rfl)) (sv rfl (Aa Q7 rfl) (sv rfl (Ae Aba rfl (.lp _ _ _ rfl) rfl) ?_))))
  obtain ⟨v1, hv1, h⟩ := Am h
  refine A3 rfl Aop (Ac rfl (Ac rfl Al)) (Aj rfl) (Km hv1) (Ax E7 rfl rfl rfl rfl (Nbl rfl) (Bu [.box (EL.el a0), .box (EL.el a1), .box (EL.el v1)] rfl (Ar (Bk (Au ?_)))))
  obtain rfl := SJ h
  refine ⟨Or.inr rfl, _, _, _, (Ad (Bd.agg _ _ _ _ _ B8 rfl (.lp _ _ _ rfl) (Nbl rfl)) Af), (Aj rfl), ?_⟩
  rfl
 ·refine Bl (Ah (Aq (Ab (sv rfl (Ao B8 rfl (.lp _ _ _ rfl) (Nbl rfl)) (sv rfl (Aa Rc rfl) (sv rfl (Ae ti3 rfl (.lp _ _ _ rfl) rfl) ?_))))))
  obtain ⟨v2, hv2, h⟩ := Am h
  refine A3 rfl Aan (Ac rfl (Ac rfl (Ac rfl Al))) (Aj rfl) (Cc hv2) (Ax E7 rfl rfl rfl rfl (Nbl rfl) (Bu [.box (EL.el a0), .box (EL.el a1), .box (EL.el v2)] rfl (Ar (Bk ?_))))
  obtain rfl := SJ h
  refine ⟨Or.inr rfl, _, _, _, (Ad (Bd.agg _ _ _ _ _ B8 rfl (.lp _ _ _ rfl) (Nbl rfl)) Af), (Aj rfl), ?_⟩
  rfl
def Lq  : Option Unit :=
 (Co 6).bind fun v1 => if (!v1) then none else (some ())
theorem Qp  {r : Unit} (h : Lq = some r) : G3 Tryz.prog 79 [] [.one (Ii6 6)] (fun y m' => y = .s (.one (.raw (.func (.func 103) #[] #[]))) ∧ m' = []) := by
 unfold Lq at h
 refine Cv Tryz.func79 rfl (nt := 11) rfl (Nbl rfl) ?_
 intro w0 S0 X0 H0
 refine Aq (Ab (sv rfl (Ak rfl) (Ar (Aq (Ab (sv rfl (G8 Rx Sx (Ap rfl (Ap rfl (Ap rfl (Ap rfl (Ap rfl (Ap rfl (Ap rfl Ba))))))) (Ef [Nfu, Nfu, .raw (.func (.func 99) #[] #[]), Nfu, Nfu, Nfu, Nfu, Nfu, Nfu, Nfu] rfl rfl (Nbl rfl) rfl (Ef [Nfu, Nfu, .raw (.func (.func 99) #[] #[]), .raw (.func (.func 100) #[] #[]), Nfu, Nfu, Nfu, Nfu, Nfu, Nfu] rfl rfl (Nbl rfl) rfl (Ef [Nfu, Nfu, .raw (.func (.func 99) #[] #[]), .raw (.func (.func 100) #[] #[]), .raw (.func (.func 101) #[] #[]), Nfu, Nfu, Nfu, Nfu, Nfu] rfl rfl (Nbl rfl) rfl (Ef [Nfu, Nfu, .raw (.func (.func 99) #[] #[]), .raw (.func (.func 100) #[] #[]), .raw (.func (.func 101) #[] #[]), .raw (.func (.func 102) #[] #[]), Nfu, Nfu, Nfu, Nfu] rfl rfl (Nbl rfl) rfl (Ef [Nfu, Nfu, .raw (.func (.func 99) #[] #[]), .raw (.func (.func 100) #[] #[]), .raw (.func (.func 101) #[] #[]), .raw (.func (.func 102) #[] #[]), .raw (.func (.func 103) #[] #[]), Nfu, Nfu, Nfu] rfl rfl (Nbl rfl) rfl (Ef [Nfu, Nfu, .raw (.func (.func 99) #[] #[]), .raw (.func (.func 100) #[] #[]), .raw (.func (.func 101) #[] #[]), .raw (.func (.func 102) #[] #[]), .raw (.func (.func 103) #[] #[]), .raw (.func (.func 104) #[] #[]), Nfu, Nfu] rfl rfl (Nbl rfl) rfl (Ef [Nfu, Nfu, .raw (.func (.func 99) #[] #[]), .raw (.func (.func 100) #[] #[]), .raw (.func (.func 101) #[] #[]), .raw (.func (.func 102) #[] #[]), .raw (.func (.func 103) #[] #[]), .raw (.func (.func 104) #[] #[]), Nfu, .raw (.func (.func 105) #[] #[])] rfl rfl (Nbl rfl) rfl (.nil _))))))))) (B1 rfl Rx (Ax Zq rfl rfl rfl rfl (Nbl rfl) (Bu [.box [Nfu, Nfu, .raw (.func (.func 99) #[] #[]), .raw (.func (.func 100) #[] #[]), .raw (.func (.func 101) #[] #[]), .raw (.func (.func 102) #[] #[]), .raw (.func (.func 103) #[] #[]), .raw (.func (.func 104) #[] #[]), Nfu, .raw (.func (.func 105) #[] #[])]] rfl (Ar (Aq (Aq (Ab (sv rfl (Ag rfl) ?_))))))))))))))
 obtain ⟨v1, hv1, h⟩ := Am h
 refine A3 rfl Ai1 (Ac rfl Al) (Aj rfl) (D1 hv1) (sv rfl (Ca rfl) (Ar (ccI h rfl (fun h => ?_) (fun h => ?_))))
 ·refine Aq (Ab ?_)
  cases h
 ·refine Bl (Ah (Aq (Ab (sv rfl (Ag rfl) ?_))))
  refine sv rfl (O4 (o := 6) Sx rfl rfl (by decide)) ?_
  refine sv rfl (Ae Acc rfl (.lp _ _ _ rfl) rfl) (sv rfl (Ak rfl) (Ar (Bk ?_)))
  obtain rfl := SJ h
  exact ⟨Or.inr rfl, _, [], [.one (.raw (.func (.func 103) #[] #[]))], [], (Ad (Bd.tmp _ _ rfl) Af), rfl, rfl, ⟨by decide, rfl⟩, rfl, rfl, ⟨rfl, rfl⟩⟩
def G7 (a0 : Ai) (a1 : Bf) : Option Ai :=
 (Bv a0 2 0).bind fun v1 => some v1
theorem Ou {a0 : Ai} {a1 : Bf} {r : Ai} (h : G7 a0 a1 = some r) : Bp Tryz.prog 103 [.agg (EL.el a0), .agg (EL.el a1)] (· = .s (.agg (EL.el r))) := by
 unfold G7 at h
 refine A2 Tryz.func103 rfl (nt := 7) rfl (Nbl rfl) ?_
 intro w0 S0
 refine Aq (Ab (Jj rfl rfl (Jj rfl rfl (B1 rfl Nw (Ar (Aq (Ab (sv rfl (Ao B8 rfl (.lp _ _ _ rfl) (Nbl rfl)) ?_))))))))
 obtain ⟨v1, hv1, h⟩ := Am h
 refine A3 rfl Aan (Ac rfl (Ac rfl (Ac rfl Al))) (Aj rfl) (Cc hv1) (Ax E7 rfl rfl rfl rfl (Nbl rfl) (Bu [.box (EL.el a0), .box (EL.el a1), .box (EL.el v1)] rfl (Ar (Bk ?_))))
 obtain rfl := SJ h
 refine ⟨Or.inr rfl, _, _, _, (Ad (Bd.agg _ _ _ _ _ B8 rfl (.lp _ _ _ rfl) (Nbl rfl)) Af), (Aj rfl), ?_⟩
 rfl
def Ll  : Option Unit :=
 (Co 7).bind fun v1 => if (!v1) then none else (some ())
theorem Qh  {r : Unit} (h : Ll = some r) : G3 Tryz.prog 79 [] [.one (Ii6 7)] (fun y m' => y = .s (.one (.raw (.func (.func 104) #[] #[]))) ∧ m' = []) := by
 unfold Ll at h
 refine Cv Tryz.func79 rfl (nt := 11) rfl (Nbl rfl) ?_
 intro w0 S0 X0 H0
 refine Aq (Ab (sv rfl (Ak rfl) (Ar (Aq (Ab (sv rfl (G8 Rx Sx (Ap rfl (Ap rfl (Ap rfl (Ap rfl (Ap rfl (Ap rfl (Ap rfl Ba))))))) (Ef [Nfu, Nfu, .raw (.func (.func 99) #[] #[]), Nfu, Nfu, Nfu, Nfu, Nfu, Nfu, Nfu] rfl rfl (Nbl rfl) rfl (Ef [Nfu, Nfu, .raw (.func (.func 99) #[] #[]), .raw (.func (.func 100) #[] #[]), Nfu, Nfu, Nfu, Nfu, Nfu, Nfu] rfl rfl (Nbl rfl) rfl (Ef [Nfu, Nfu, .raw (.func (.func 99) #[] #[]), .raw (.func (.func 100) #[] #[]), .raw (.func (.func 101) #[] #[]), Nfu, Nfu, Nfu, Nfu, Nfu] rfl rfl (Nbl rfl) rfl (Ef [Nfu, Nfu, .raw (.func (.func 99) #[] #[]), .raw (.func (.func 100) #[] #[]), .raw (.func (.func 101) #[] #[]), .raw (.func (.func 102) #[] #[]), Nfu, Nfu, Nfu, Nfu] rfl rfl (Nbl rfl) rfl (Ef [Nfu, Nfu, .raw (.func (.func 99) #[] #[]), .raw (.func (.func 100) #[] #[]), .raw (.func (.func 101) #[] #[]), .raw (.func (.func 102) #[] #[]), .raw (.func (.func 103) #[] #[]), Nfu, Nfu, Nfu] rfl rfl (Nbl rfl) rfl (Ef [Nfu, Nfu, .raw (.func (.func 99) #[] #[]), .raw (.func (.func 100) #[] #[]), .raw (.func (.func 101) #[] #[]), .raw (.func (.func 102) #[] #[]), .raw (.func (.func 103) #[] #[]), .raw (.func (.func 104) #[] #[]), Nfu, Nfu] rfl rfl (Nbl rfl) rfl (Ef [Nfu, Nfu, .raw (.func (.func 99) #[] #[]), .raw (.func (.func 100) #[] #[]), .raw (.func (.func 101) #[] #[]), .raw (.func (.func 102) #[] #[]), .raw (.func (.func 103) #[] #[]), .raw (.func (.func 104) #[] #[]), Nfu, .raw (.func (.func 105) #[] #[])] rfl rfl (Nbl rfl) rfl (.nil _))))))))) (B1 rfl Rx (Ax Zq rfl rfl rfl rfl (Nbl rfl) (Bu [.box [Nfu, Nfu, .raw (.func (.func 99) #[] #[]), .raw (.func (.func 100) #[] #[]), .raw (.func (.func 101) #[] #[]), .raw (.func (.func 102) #[] #[]), .raw (.func (.func 103) #[] #[]), .raw (.func (.func 104) #[] #[]), Nfu, .raw (.func (.func 105) #[] #[])]] rfl (Ar (Aq (Aq (Ab (sv rfl (Ag rfl) ?_))))))))))))))
 obtain ⟨v1, hv1, h⟩ := Am h
 refine A3 rfl Ai1 (Ac rfl Al) (Aj rfl) (D1 hv1) (sv rfl (Ca rfl) (Ar (ccI h rfl (fun h => ?_) (fun h => ?_))))
 ·refine Aq (Ab ?_)
  cases h
 ·refine Bl (Ah (Aq (Ab (sv rfl (Ag rfl) ?_))))
  refine sv rfl (O4 (o := 7) Sx rfl rfl (by decide)) ?_
  refine sv rfl (Ae Acc rfl (.lp _ _ _ rfl) rfl) (sv rfl (Ak rfl) (Ar (Bk ?_)))
  obtain rfl := SJ h
  exact ⟨Or.inr rfl, _, [], [.one (.raw (.func (.func 104) #[] #[]))], [], (Ad (Bd.tmp _ _ rfl) Af), rfl, rfl, ⟨by decide, rfl⟩, rfl, rfl, ⟨rfl, rfl⟩⟩
def Fm (a0 : Ai) (a1 : Bf) : Option Ai :=
 if (!decide (a1.Code = 0)) then ((Gx a0.Cfg.Plan 0).bind fun v1 => some ({a0 with Phase := 10, Left := v1.1})) else (if (decide (0 < a1.N)) then (if a0.Risk then ((Bv a0 1 a1.N).bind fun v2 => some v2) else (if (decide (0 < a1.N)) then ((Bv a0 4 a1.N).bind fun v3 => some v3) else (if a0.St.Stopped then ((Bv a0 2 0).bind fun v4 => some v4) else ((Ci a0).bind fun v5 => some v5)))) else (if (decide (0 < a1.N)) then ((Bv a0 4 a1.N).bind fun v6 => some v6) else (if a0.St.Stopped then ((Bv a0 2 0).bind fun v7 => some v7) else ((Ci a0).bind fun v8 => some v8))))
theorem Ot {a0 : Ai} {a1 : Bf} {r : Ai} (h : Fm a0 a1 = some r) : Bp Tryz.prog 104 [.agg (EL.el a0), .agg (EL.el a1)] (· = .s (.agg (EL.el r))) := by
 unfold Fm at h
 refine A2 Tryz.func104 rfl (nt := 47) rfl (Nbl rfl) ?_
 intro w0 S0
 refine Aq (Ab (Jj rfl rfl (Jj rfl rfl (B1 rfl Nw (Ar (Aq (B4 (Aq (Ab (sv rfl (Aa Q7 rfl) (sv rfl (Ae Aba rfl (.lp _ _ _ rfl) rfl) (sv rfl (Ce rfl rfl) (sv rfl (Ak rfl) (Ar (ccI h rfl (fun h => ?_) (fun h => ?_))))))))))))))))
 ·refine Aq (Ab (sv rfl (Aa Hf rfl) (Ax sz3 rfl rfl rfl rfl (Nbl rfl) (Bu [.box (EL.el {a0 with Phase := 10}), .box (EL.el a1), .box Zba] rfl (Ar (Aq (Ab (sv rfl (Aa Q8 rfl) (sv rfl (Aa Wn rfl) (sv rfl (Ao Akl rfl (.lp _ _ _ rfl) (Nbl rfl)) ?_))))))))))
  obtain ⟨v1, hv1, h⟩ := Am h
  refine A3 rfl Aqz (Ac rfl (Ac rfl Al)) (Aj rfl) (Lg hv1) (sv rfl (Gn rfl) (sv rfl (Bb rfl rfl) (sv rfl (Bb rfl rfl) (sv rfl (Aa Q0 rfl) (Ax sz3 rfl rfl rfl rfl (Nbl rfl) (Bu [.box (EL.el {a0 with Phase := 10, Left := v1.1}), .box (EL.el a1), .box Zba] rfl (Ar (Aq (Ab (sv rfl (Ao B8 rfl (.lp _ _ _ rfl) (Nbl rfl)) (Ax E7 rfl rfl rfl rfl (Nbl rfl) (Bu [.box (EL.el {a0 with Phase := 10, Left := v1.1}), .box (EL.el a1), .box (EL.el {a0 with Phase := 10, Left := v1.1})] rfl (Ar (Bk (Bc (Au ?_))))))))))))))))
  obtain rfl := SJ h
  refine ⟨Or.inr rfl, _, _, _, (Ad (Bd.agg _ _ _ _ _ B8 rfl (.lp _ _ _ rfl) (Nbl rfl)) Af), (Aj rfl), ?_⟩
  rfl
 ·refine Aq (Ab (sv rfl (Aa Rc rfl) (sv rfl (Ae ti3 rfl (.lp _ _ _ rfl) rfl) (sv rfl (Di rfl rfl) (sv rfl (Ag rfl) (Bq 23 rfl (fun hc => ?_) (fun hc => ?_)))))))
  ·replace h := B2 hc h
   clear hc
   refine son rfl rfl rfl (sv rfl (Aa Ye rfl) (son rfl rfl rfl (sv rfl (Ae ti4 rfl (.lp _ _ _ rfl) rfl) (sv rfl (Av rfl rfl) (sv rfl (Ak rfl) (Ar (ccI h rfl (fun h => ?_) (fun h => ?_))))))))
   ·refine Aq (Ab (sv rfl (Ao B8 rfl (.lp _ _ _ rfl) (Nbl rfl)) (sv rfl (Aa Rc rfl) (sv rfl (Ae ti3 rfl (.lp _ _ _ rfl) rfl) ?_))))
    obtain ⟨v2, hv2, h⟩ := Am h
    refine A3 rfl Aan (Ac rfl (Ac rfl (Ac rfl Al))) (Aj rfl) (Cc hv2) (Ax E7 rfl rfl rfl rfl (Nbl rfl) (Bu [.box (EL.el a0), .box (EL.el a1), .box (EL.el v2)] rfl (Ar (Bk (Bc (Au ?_))))))
    obtain rfl := SJ h
    refine ⟨Or.inr rfl, _, _, _, (Ad (Bd.agg _ _ _ _ _ B8 rfl (.lp _ _ _ rfl) (Nbl rfl)) Af), (Aj rfl), ?_⟩
    rfl
   ·refine Aq (Ab (sv rfl (Aa Rc rfl) (sv rfl (Ae ti3 rfl (.lp _ _ _ rfl) rfl) (sv rfl (Di rfl rfl) (sv rfl (Ak rfl) (Ar (ccI h rfl (fun h => ?_) (fun h => ?_))))))))
    ·refine Aq (Ab (sv rfl (Ao B8 rfl (.lp _ _ _ rfl) (Nbl rfl)) (sv rfl (Aa Rc rfl) (sv rfl (Ae ti3 rfl (.lp _ _ _ rfl) rfl) ?_))))
     obtain ⟨v3, hv3, h⟩ := Am h
     refine A3 rfl Aan (Ac rfl (Ac rfl (Ac rfl Al))) (Aj rfl) (Cc hv3) (Ax E7 rfl rfl rfl rfl (Nbl rfl) (Bu [.box (EL.el a0), .box (EL.el a1), .box (EL.el v3)] rfl (Ar (Bk (Bc (Au ?_))))))
     obtain rfl := SJ h
     refine ⟨Or.inr rfl, _, _, _, (Ad (Bd.agg _ _ _ _ _ B8 rfl (.lp _ _ _ rfl) (Nbl rfl)) Af), (Aj rfl), ?_⟩
     rfl
    ·refine Aq (Ab (sv rfl (Aa P4 rfl) (sv rfl (Aa W5 rfl) (sv rfl (Ae ti4 rfl (.lp _ _ _ rfl) rfl) (sv rfl (Ak rfl) (Ar (ccI h rfl (fun h => ?_) (fun h => ?_))))))))
     ·refine Aq (Ab (sv rfl (Ao B8 rfl (.lp _ _ _ rfl) (Nbl rfl)) ?_))
      obtain ⟨v4, hv4, h⟩ := Am h
      refine A3 rfl Aan (Ac rfl (Ac rfl (Ac rfl Al))) (Aj rfl) (Cc hv4) (Ax E7 rfl rfl rfl rfl (Nbl rfl) (Bu [.box (EL.el a0), .box (EL.el a1), .box (EL.el v4)] rfl (Ar (Bk (Bc (Au ?_))))))
      obtain rfl := SJ h
      refine ⟨Or.inr rfl, _, _, _, (Ad (Bd.agg _ _ _ _ _ B8 rfl (.lp _ _ _ rfl) (Nbl rfl)) Af), (Aj rfl), ?_⟩
      rfl
     ·refine Bl (A1 (Ah (Aq (Ab (sv rfl (Ao B8 rfl (.lp _ _ _ rfl) (Nbl rfl)) ?_)))))
      obtain ⟨v5, hv5, h⟩ := Am h
      refine A3 rfl Agk (Ac rfl Al) (Aj rfl) (Ei hv5) (Ax E7 rfl rfl rfl rfl (Nbl rfl) (Bu [.box (EL.el a0), .box (EL.el a1), .box (EL.el v5)] rfl (Ar (Bk ?_))))
      obtain rfl := SJ h
      refine ⟨Or.inr rfl, _, _, _, (Ad (Bd.agg _ _ _ _ _ B8 rfl (.lp _ _ _ rfl) (Nbl rfl)) Af), (Aj rfl), ?_⟩
      rfl
  ·replace h := B3 hc h
   clear hc
   refine Aw rfl rfl rfl rfl (Aw rfl rfl rfl rfl (sv rfl (An rfl rfl) (sv rfl (Ak rfl) (Ar (Hq rfl (fun hx => Bool.noConfusion hx) (fun _ => ?_))))))
   refine Aq (Ab (sv rfl (Aa Rc rfl) (sv rfl (Ae ti3 rfl (.lp _ _ _ rfl) rfl) (sv rfl (Di rfl rfl) (sv rfl (Ak rfl) (Ar (ccI h rfl (fun h => ?_) (fun h => ?_))))))))
   ·refine Aq (Ab (sv rfl (Ao B8 rfl (.lp _ _ _ rfl) (Nbl rfl)) (sv rfl (Aa Rc rfl) (sv rfl (Ae ti3 rfl (.lp _ _ _ rfl) rfl) ?_))))
    obtain ⟨v6, hv6, h⟩ := Am h
    refine A3 rfl Aan (Ac rfl (Ac rfl (Ac rfl Al))) (Aj rfl) (Cc hv6) (Ax E7 rfl rfl rfl rfl (Nbl rfl) (Bu [.box (EL.el a0), .box (EL.el a1), .box (EL.el v6)] rfl (Ar (Bk (Bc (Au ?_))))))
    obtain rfl := SJ h
    refine ⟨Or.inr rfl, _, _, _, (Ad (Bd.agg _ _ _ _ _ B8 rfl (.lp _ _ _ rfl) (Nbl rfl)) Af), (Aj rfl), ?_⟩
    rfl
   ·refine Aq (Ab (sv rfl (Aa P4 rfl) (sv rfl (Aa W5 rfl) (sv rfl (Ae ti4 rfl (.lp _ _ _ rfl) rfl) (sv rfl (Ak rfl) (Ar (ccI h rfl (fun h => ?_) (fun h => ?_))))))))
    ·refine Aq (Ab (sv rfl (Ao B8 rfl (.lp _ _ _ rfl) (Nbl rfl)) ?_))
     obtain ⟨v7, hv7, h⟩ := Am h
     refine A3 rfl Aan (Ac rfl (Ac rfl (Ac rfl Al))) (Aj rfl) (Cc hv7) (Ax E7 rfl rfl rfl rfl (Nbl rfl) (Bu [.box (EL.el a0), .box (EL.el a1), .box (EL.el v7)] rfl (Ar (Bk (Bc (Au ?_))))))
     obtain rfl := SJ h
     refine ⟨Or.inr rfl, _, _, _, (Ad (Bd.agg _ _ _ _ _ B8 rfl (.lp _ _ _ rfl) (Nbl rfl)) Af), (Aj rfl), ?_⟩
     rfl
    ·refine Bl (A1 (Ah (Aq (Ab (sv rfl (Ao B8 rfl (.lp _ _ _ rfl) (Nbl rfl)) ?_)))))
     obtain ⟨v8, hv8, h⟩ := Am h
     refine A3 rfl Agk (Ac rfl Al) (Aj rfl) (Ei hv8) (Ax E7 rfl rfl rfl rfl (Nbl rfl) (Bu [.box (EL.el a0), .box (EL.el a1), .box (EL.el v8)] rfl (Ar (Bk ?_))))
     obtain rfl := SJ h
     refine ⟨Or.inr rfl, _, _, _, (Ad (Bd.agg _ _ _ _ _ B8 rfl (.lp _ _ _ rfl) (Nbl rfl)) Af), (Aj rfl), ?_⟩
     rfl
def Lk  : Option Unit :=
 (Co 9).bind fun v1 => if (!v1) then none else (some ())
theorem Qe  {r : Unit} (h : Lk = some r) : G3 Tryz.prog 79 [] [.one (Ii6 9)] (fun y m' => y = .s (.one (.raw (.func (.func 105) #[] #[]))) ∧ m' = []) := by
 unfold Lk at h
 refine Cv Tryz.func79 rfl (nt := 11) rfl (Nbl rfl) ?_
 intro w0 S0 X0 H0
 refine Aq (Ab (sv rfl (Ak rfl) (Ar (Aq (Ab (sv rfl (G8 Rx Sx (Ap rfl (Ap rfl (Ap rfl (Ap rfl (Ap rfl (Ap rfl (Ap rfl Ba))))))) (Ef [Nfu, Nfu, .raw (.func (.func 99) #[] #[]), Nfu, Nfu, Nfu, Nfu, Nfu, Nfu, Nfu] rfl rfl (Nbl rfl) rfl (Ef [Nfu, Nfu, .raw (.func (.func 99) #[] #[]), .raw (.func (.func 100) #[] #[]), Nfu, Nfu, Nfu, Nfu, Nfu, Nfu] rfl rfl (Nbl rfl) rfl (Ef [Nfu, Nfu, .raw (.func (.func 99) #[] #[]), .raw (.func (.func 100) #[] #[]), .raw (.func (.func 101) #[] #[]), Nfu, Nfu, Nfu, Nfu, Nfu] rfl rfl (Nbl rfl) rfl (Ef [Nfu, Nfu, .raw (.func (.func 99) #[] #[]), .raw (.func (.func 100) #[] #[]), .raw (.func (.func 101) #[] #[]), .raw (.func (.func 102) #[] #[]), Nfu, Nfu, Nfu, Nfu] rfl rfl (Nbl rfl) rfl (Ef [Nfu, Nfu, .raw (.func (.func 99) #[] #[]), .raw (.func (.func 100) #[] #[]), .raw (.func (.func 101) #[] #[]), .raw (.func (.func 102) #[] #[]), .raw (.func (.func 103) #[] #[]), Nfu, Nfu, Nfu] rfl rfl (Nbl rfl) rfl (Ef [Nfu, Nfu, .raw (.func (.func 99) #[] #[]), .raw (.func (.func 100) #[] #[]), .raw (.func (.func 101) #[] #[]), .raw (.func (.func 102) #[] #[]), .raw (.func (.func 103) #[] #[]), .raw (.func (.func 104) #[] #[]), Nfu, Nfu] rfl rfl (Nbl rfl) rfl (Ef [Nfu, Nfu, .raw (.func (.func 99) #[] #[]), .raw (.func (.func 100) #[] #[]), .raw (.func (.func 101) #[] #[]), .raw (.func (.func 102) #[] #[]), .raw (.func (.func 103) #[] #[]), .raw (.func (.func 104) #[] #[]), Nfu, .raw (.func (.func 105) #[] #[])] rfl rfl (Nbl rfl) rfl (.nil _))))))))) (B1 rfl Rx (Ax Zq rfl rfl rfl rfl (Nbl rfl) (Bu [.box [Nfu, Nfu, .raw (.func (.func 99) #[] #[]), .raw (.func (.func 100) #[] #[]), .raw (.func (.func 101) #[] #[]), .raw (.func (.func 102) #[] #[]), .raw (.func (.func 103) #[] #[]), .raw (.func (.func 104) #[] #[]), Nfu, .raw (.func (.func 105) #[] #[])]] rfl (Ar (Aq (Aq (Ab (sv rfl (Ag rfl) ?_))))))))))))))
 obtain ⟨v1, hv1, h⟩ := Am h
 refine A3 rfl Ai1 (Ac rfl Al) (Aj rfl) (D1 hv1) (sv rfl (Ca rfl) (Ar (ccI h rfl (fun h => ?_) (fun h => ?_))))
 ·refine Aq (Ab ?_)
  cases h
 ·refine Bl (Ah (Aq (Ab (sv rfl (Ag rfl) ?_))))
  refine sv rfl (O4 (o := 9) Sx rfl rfl (by decide)) ?_
  refine sv rfl (Ae Acc rfl (.lp _ _ _ rfl) rfl) (sv rfl (Ak rfl) (Ar (Bk ?_)))
  obtain rfl := SJ h
  exact ⟨Or.inr rfl, _, [], [.one (.raw (.func (.func 105) #[] #[]))], [], (Ad (Bd.tmp _ _ rfl) Af), rfl, rfl, ⟨by decide, rfl⟩, rfl, rfl, ⟨rfl, rfl⟩⟩
def E4 (a0 : Ai) (a1 : Bf) : Option Ai :=
 (Ev a0).bind fun v1 => (Dv ({v1 with Phase := 0})).bind fun v2 => some v2
theorem Of {a0 : Ai} {a1 : Bf} {r : Ai} (h : E4 a0 a1 = some r) : Bp Tryz.prog 105 [.agg (EL.el a0), .agg (EL.el a1)] (· = .s (.agg (EL.el r))) := by
 unfold E4 at h
 refine A2 Tryz.func105 rfl (nt := 10) rfl (Nbl rfl) ?_
 intro w0 S0
 refine Aq (Ab (Jj rfl rfl (Jj rfl rfl (B1 rfl Nw (Ar (Aq (Ab (sv rfl (Ao B8 rfl (.lp _ _ _ rfl) (Nbl rfl)) ?_))))))))
 obtain ⟨v1, hv1, h⟩ := Am h
 refine A3 rfl At2 (Ac rfl Al) (Aj rfl) (Md hv1) (Ax E7 rfl rfl rfl rfl (Nbl rfl) (Bu [.box (EL.el v1), .box (EL.el a1), .box Zba] rfl (Ar (Aq (Ab (sv rfl (Aa Hf rfl) (Ax sz3 rfl rfl rfl rfl (Nbl rfl) (Bu [.box (EL.el {v1 with Phase := 0}), .box (EL.el a1), .box Zba] rfl (Ar (Aq (Ab (sv rfl (Ao B8 rfl (.lp _ _ _ rfl) (Nbl rfl)) ?_))))))))))))
 obtain ⟨v2, hv2, h⟩ := Am h
 refine A3 rfl Ary (Ac rfl Al) (Aj rfl) (I9 hv2) (Ax E7 rfl rfl rfl rfl (Nbl rfl) (Bu [.box (EL.el {v1 with Phase := 0}), .box (EL.el a1), .box (EL.el v2)] rfl (Ar (Bk ?_))))
 obtain rfl := SJ h
 refine ⟨Or.inr rfl, _, _, _, (Ad (Bd.agg _ _ _ _ _ B8 rfl (.lp _ _ _ rfl) (Nbl rfl)) Af), (Aj rfl), ?_⟩
 rfl
def Ha (a0 : Int) : Option Unit :=
 (Co a0).bind fun v1 => if (!v1) then (some ()) else none
theorem Qk {a0 : Int} {r : Unit} (h : Ha a0 = some r) : G3 Tryz.prog 79 [] [.one (Ii6 a0)] (fun y m' => y = .s (.one Nfu) ∧ m' = []) := by
 unfold Ha at h
 refine Cv Tryz.func79 rfl (nt := 11) rfl (Nbl rfl) ?_
 intro w0 S0 X0 H0
 refine Aq (Ab (sv rfl (Ak rfl) (Ar (Aq (Ab (sv rfl (G8 Rx Sx (Ap rfl (Ap rfl (Ap rfl (Ap rfl (Ap rfl (Ap rfl (Ap rfl Ba))))))) (Ef [Nfu, Nfu, .raw (.func (.func 99) #[] #[]), Nfu, Nfu, Nfu, Nfu, Nfu, Nfu, Nfu] rfl rfl (Nbl rfl) rfl (Ef [Nfu, Nfu, .raw (.func (.func 99) #[] #[]), .raw (.func (.func 100) #[] #[]), Nfu, Nfu, Nfu, Nfu, Nfu, Nfu] rfl rfl (Nbl rfl) rfl (Ef [Nfu, Nfu, .raw (.func (.func 99) #[] #[]), .raw (.func (.func 100) #[] #[]), .raw (.func (.func 101) #[] #[]), Nfu, Nfu, Nfu, Nfu, Nfu] rfl rfl (Nbl rfl) rfl (Ef [Nfu, Nfu, .raw (.func (.func 99) #[] #[]), .raw (.func (.func 100) #[] #[]), .raw (.func (.func 101) #[] #[]), .raw (.func (.func 102) #[] #[]), Nfu, Nfu, Nfu, Nfu] rfl rfl (Nbl rfl) rfl (Ef [Nfu, Nfu, .raw (.func (.func 99) #[] #[]), .raw (.func (.func 100) #[] #[]), .raw (.func (.func 101) #[] #[]), .raw (.func (.func 102) #[] #[]), .raw (.func (.func 103) #[] #[]), Nfu, Nfu, Nfu] rfl rfl (Nbl rfl) rfl (Ef [Nfu, Nfu, .raw (.func (.func 99) #[] #[]), .raw (.func (.func 100) #[] #[]), .raw (.func (.func 101) #[] #[]), .raw (.func (.func 102) #[] #[]), .raw (.func (.func 103) #[] #[]), .raw (.func (.func 104) #[] #[]), Nfu, Nfu] rfl rfl (Nbl rfl) rfl (Ef [Nfu, Nfu, .raw (.func (.func 99) #[] #[]), .raw (.func (.func 100) #[] #[]), .raw (.func (.func 101) #[] #[]), .raw (.func (.func 102) #[] #[]), .raw (.func (.func 103) #[] #[]), .raw (.func (.func 104) #[] #[]), Nfu, .raw (.func (.func 105) #[] #[])] rfl rfl (Nbl rfl) rfl (.nil _))))))))) (B1 rfl Rx (Ax Zq rfl rfl rfl rfl (Nbl rfl) (Bu [.box [Nfu, Nfu, .raw (.func (.func 99) #[] #[]), .raw (.func (.func 100) #[] #[]), .raw (.func (.func 101) #[] #[]), .raw (.func (.func 102) #[] #[]), .raw (.func (.func 103) #[] #[]), .raw (.func (.func 104) #[] #[]), Nfu, .raw (.func (.func 105) #[] #[])]] rfl (Ar (Aq (Aq (Ab (sv rfl (Ag rfl) ?_))))))))))))))
 obtain ⟨v1, hv1, h⟩ := Am h
 refine A3 rfl Ai1 (Ac rfl Al) (Aj rfl) (D1 hv1) (sv rfl (Ca rfl) (Ar (ccI h rfl (fun h => ?_) (fun h => ?_))))
 ·refine Aq (Ab (sv rfl (Ak rfl) (Ar (Bk (Au ?_)))))
  obtain rfl := SJ h
  exact ⟨Or.inr rfl, _, [], [.one Nfu], [], (Ad (Bd.tmp _ _ rfl) Af), rfl, rfl, ⟨by decide, rfl⟩, rfl, rfl, ⟨rfl, rfl⟩⟩
 ·refine Bl (Ah (Aq (Ab (sv rfl (Ag rfl) ?_))))
  cases h
def Gr (a0 : Ai) (v1 : Bf × Int) (b5 : Unit) : Option Ai :=
 (Eh a0 v1.1).bind fun v6 => some v6
def Gv (a0 : Ai) (v1 : Bf × Int) (b9 : Unit) : Option Ai :=
 (Ey a0 v1.1).bind fun v10 => some v10
def F9 (a0 : Ai) (v1 : Bf × Int) (b13 : Unit) : Option Ai :=
 (D0 a0 v1.1).bind fun v14 => some v14
def F7 (a0 : Ai) (v1 : Bf × Int) (b17 : Unit) : Option Ai :=
 (Ez a0 v1.1).bind fun v18 => some v18
def F8 (a0 : Ai) (v1 : Bf × Int) (b21 : Unit) : Option Ai :=
 (G7 a0 v1.1).bind fun v22 => some v22
def F6 (a0 : Ai) (v1 : Bf × Int) (b25 : Unit) : Option Ai :=
 (Fm a0 v1.1).bind fun v26 => some v26
def F4 (a0 : Ai) (v1 : Bf × Int) (b29 : Unit) : Option Ai :=
 (E4 a0 v1.1).bind fun v30 => some v30
def Gc (a0 : Ai) (a1 : List UInt8) : Option Ai :=
 (Fo a1).bind fun v1 => if (!decide (v1.2 = 0)) then ((Cq a0).bind fun v2 => some v2) else (if decide (a0.Phase = 2) then ((Mb).bind fun v4 => if (!decide (v1.1.Kind = a0.Req.Kind)) then (some a0) else (if (!decide (v1.1.Seq = a0.Req.Seq)) then (some a0) else (Gr a0 v1 ()))) else (if decide (a0.Phase = 3) then ((Ln).bind fun v8 => if (!decide (v1.1.Kind = a0.Req.Kind)) then (some a0) else (if (!decide (v1.1.Seq = a0.Req.Seq)) then (some a0) else (Gv a0 v1 ()))) else (if decide (a0.Phase = 4) then ((Lw).bind fun v12 => if (!decide (v1.1.Kind = a0.Req.Kind)) then (some a0) else (if (!decide (v1.1.Seq = a0.Req.Seq)) then (some a0) else (F9 a0 v1 ()))) else (if decide (a0.Phase = 5) then ((Lu).bind fun v16 => if (!decide (v1.1.Kind = a0.Req.Kind)) then (some a0) else (if (!decide (v1.1.Seq = a0.Req.Seq)) then (some a0) else (F7 a0 v1 ()))) else (if decide (a0.Phase = 6) then ((Lq).bind fun v20 => if (!decide (v1.1.Kind = a0.Req.Kind)) then (some a0) else (if (!decide (v1.1.Seq = a0.Req.Seq)) then (some a0) else (F8 a0 v1 ()))) else (if decide (a0.Phase = 7) then ((Ll).bind fun v24 => if (!decide (v1.1.Kind = a0.Req.Kind)) then (some a0) else (if (!decide (v1.1.Seq = a0.Req.Seq)) then (some a0) else (F6 a0 v1 ()))) else (if decide (a0.Phase = 9) then ((Lk).bind fun v28 => if (!decide (v1.1.Kind = a0.Req.Kind)) then (some a0) else (if (!decide (v1.1.Seq = a0.Req.Seq)) then (some a0) else (F4 a0 v1 ()))) else ((Ha a0.Phase).bind fun v31 => some (Ai.mk (Cr.mk a0.Cfg.Who (Dk.mk a0.Cfg.Plan.Wait a0.Cfg.Plan.Most a0.Cfg.Plan.Tries) a0.Cfg.Attempts a0.Cfg.Budget) a0.Tasks a0.Phase a0.Epoch a0.Seq a0.Attempt a0.Sent a0.Left a0.Resets a0.Risk (A7.mk a0.St.PC (E5.mk a0.St.Regs.R0 a0.St.Regs.R1 a0.St.Regs.R2 a0.St.Regs.R3 a0.St.Regs.R4 a0.St.Regs.R5 a0.St.Regs.R6 a0.St.Regs.R7) a0.St.Stopped) (B6.mk a0.Req.Kind a0.Req.Seq a0.Req.Token a0.Req.Attempt a0.Req.RO a0.Req.Key a0.Req.Val (B9.mk a0.Req.Rng.Lo a0.Req.Rng.Hi a0.Req.Rng.Open)) (Bo.mk a0.In.Buf a0.In.Dead) a0.Out a0.Done a0.Tried)))))))))
theorem Pa {a0 : Ai} {a1 : List UInt8} {r : Ai} (h : Gc a0 a1 = some r) : Bp Tryz.prog 46 [.agg (EL.el a0), .one (.sl a1.length (a1.flatMap eU8))] (· = .s (.agg (EL.el r))) := by
 unfold Gc at h
 refine A2 Tryz.func46 rfl (nt := 43) rfl (Nbl rfl) ?_
 intro w0 S0
 refine Aq (Ab (Jj rfl rfl (B1 rfl Nw (Ar (Aq (Ab (sv rfl (Ag rfl) ?_)))))))
 obtain ⟨v1, hv1, h⟩ := Am h
 refine A3 rfl Avf (Ac rfl Al) (Aj rfl) (Tc hv1) (sv rfl (Gn rfl) (sv rfl (Bb rfl rfl) (sv rfl (Bb rfl rfl) (B1 rfl Aks (Ax An5 rfl rfl rfl rfl (Nbl rfl) (Bu [.box (EL.el a0), .box Zba, .box (EL.el v1.1)] rfl (sv rfl (Ak rfl) (Ar (Aq (Aq (Ab (sv rfl (Ag rfl) (sv rfl (Ce rfl rfl) (Ar (ccI h rfl (fun h => ?_) (fun h => ?_))))))))))))))))
 ·refine Aq (Ab (sv rfl (Ao B8 rfl (.lp _ _ _ rfl) (Nbl rfl)) ?_))
  obtain ⟨v2, hv2, h⟩ := Am h
  refine A3 rfl Ao0 (Ac rfl Al) (Aj rfl) (Fp hv2) (Ax E7 rfl rfl rfl rfl (Nbl rfl) (Bu [.box (EL.el a0), .box (EL.el v2), .box (EL.el v1.1)] rfl (Ar (Bk (Au ?_)))))
  obtain rfl := SJ h
  refine ⟨Or.inr rfl, _, _, _, (Ad (Bd.agg _ _ _ _ _ B8 rfl (.lp _ _ _ rfl) (Nbl rfl)) Af), (Aj rfl), ?_⟩
  rfl
 ·refine Bl (Ah (Aq (Ab (sv rfl (Aa Hf rfl) (sv rfl (Ae ti3 rfl (.lp _ _ _ rfl) rfl) ?_)))))
  by_cases hq3 : a0.Phase = 2
  ·replace h := B2 (decide_eq_true hq3) h
   refine Vm 18 (y := .s (.one (Ii6 a0.Phase))) (.s (.one (Ii6 2))) rfl (congrArg (fun n => AV.s (.one (Ii6 n))) hq3) ?_
   obtain ⟨v4, hv4, h⟩ := Am h
   refine C3 (x' := .s (.one (.raw (.func (.func 99) #[] #[])))) (M' := [.box (EL.el a0), .box Zba, .box (EL.el v1.1)]) [] rfl Aki (.func _) (Ac rfl Al) (Rl hv4) rfl rfl (by decide) rfl rfl rfl ?_
   refine sv rfl (Ak rfl) (Ar (Aq (Aq (Lh (Unit) (fun b5 => [(2, .s (.one (.lp 0 0))), (4, .s (.one (.lp 1 0))), (5, .s (.one (.lp 2 0))), (7, .s (.one (.raw (.func (.func 99) #[] #[]))))]) (fun b5 => [.box (EL.el a0), .box Zba, .box (EL.el v1.1)]) (fun b5 => Gr a0 v1 b5 = some r) (fun _ _ => Be rfl) (fun _ _ => Az rfl) (fun _ _ => Nbl rfl) (fun b5 h => ?_) ?_))))
   ·unfold Gr at h
    refine Aq (Ab (sv rfl (Ag rfl) (sv rfl (Ao B8 rfl (.lp _ _ _ rfl) (Nbl rfl)) (sv rfl (Ao Acf rfl (.lp _ _ _ rfl) (Nbl rfl)) ?_))))
    obtain ⟨v6, hv6, h⟩ := Am h
    refine sd rfl (Oh Av8 (.raw _ _ rfl) (Ac rfl (Ac rfl Al)) rfl (N4 hv6)) (Ax E7 rfl rfl rfl rfl (Nbl rfl) (Bu [.box (EL.el a0), .box (EL.el v6), .box (EL.el v1.1)] rfl (Ar (Bk ?_))))
    obtain rfl := SJ h
    refine ⟨Or.inr rfl, _, _, _, (Ad (Bd.agg _ _ _ _ _ B8 rfl (.lp _ _ _ rfl) (Nbl rfl)) Af), (Aj rfl), ?_⟩
    rfl
   ·skip
    refine Ab (sv rfl (Ag rfl) (sv rfl (Ju Tryz.underlying159 rfl) (sv rfl (Ag rfl) (son rfl rfl rfl (sv rfl (Aa P9 rfl) (son rfl rfl rfl (sv rfl (Ae ti3 rfl (.lp _ _ _ rfl) rfl) (son rfl rfl rfl (sv rfl (Aa Jp rfl) (son rfl rfl rfl (sv rfl (Aa P8 rfl) (son rfl rfl rfl (sv rfl (Ae ti3 rfl (.lp _ _ _ rfl) rfl) (son rfl rfl rfl (sv rfl (Ce rfl rfl) (sv rfl (An rfl rfl) (sv rfl (Ag rfl) (Bq 30 rfl (fun hc => ?_) (fun hc => ?_)))))))))))))))))))
    ·replace h := B2 hc h
     clear hc
     refine Aw rfl rfl rfl rfl (Aw rfl rfl rfl rfl (Aw rfl rfl rfl rfl (Aw rfl rfl rfl rfl (Aw rfl rfl rfl rfl (Aw rfl rfl rfl rfl (sv rfl (Av rfl rfl) (Ar (Hq rfl (fun _ => ?_) (fun hx => Bool.noConfusion hx)))))))))
     refine Aq (Ab (sv rfl (Ao B8 rfl (.lp _ _ _ rfl) (Nbl rfl)) (Ax E7 rfl rfl rfl rfl (Nbl rfl) (Bu [.box (EL.el a0), .box (EL.el a0), .box (EL.el v1.1)] rfl (Ar (Bk (Au ?_)))))))
     obtain rfl := SJ h
     refine ⟨Or.inr rfl, _, _, _, (Ad (Bd.agg _ _ _ _ _ B8 rfl (.lp _ _ _ rfl) (Nbl rfl)) Af), (Aj rfl), ?_⟩
     rfl
    ·replace h := B3 hc h
     clear hc
     refine son rfl rfl rfl (sv rfl (Aa Sg rfl) (son rfl rfl rfl (sv rfl (Ae ti3 rfl (.lp _ _ _ rfl) rfl) (son rfl rfl rfl (sv rfl (Aa Jp rfl) (son rfl rfl rfl (sv rfl (Aa Qq rfl) (son rfl rfl rfl (sv rfl (Ae ti3 rfl (.lp _ _ _ rfl) rfl) (son rfl rfl rfl (sv rfl (Ce rfl rfl) (sv rfl (An rfl rfl) (Ar (ccI h rfl (fun h => ?_) (fun h => ?_)))))))))))))))
     ·refine Aq (Ab (sv rfl (Ao B8 rfl (.lp _ _ _ rfl) (Nbl rfl)) (Ax E7 rfl rfl rfl rfl (Nbl rfl) (Bu [.box (EL.el a0), .box (EL.el a0), .box (EL.el v1.1)] rfl (Ar (Bk (Au ?_)))))))
      obtain rfl := SJ h
      refine ⟨Or.inr rfl, _, _, _, (Ad (Bd.agg _ _ _ _ _ B8 rfl (.lp _ _ _ rfl) (Nbl rfl)) Af), (Aj rfl), ?_⟩
      rfl
     ·refine Bl (Ah ?_)
      exact ⟨(), _, h, ⟨rfl, rfl, rfl, rfl, trivial⟩, rfl⟩
  replace h := B3 (decide_eq_false hq3) h
  by_cases hq7 : a0.Phase = 3
  ·replace h := B2 (decide_eq_true hq7) h
   refine Vm 18 (y := .s (.one (Ii6 a0.Phase))) (.s (.one (Ii6 3))) rfl (congrArg (fun n => AV.s (.one (Ii6 n))) hq7) ?_
   obtain ⟨v8, hv8, h⟩ := Am h
   refine C3 (x' := .s (.one (.raw (.func (.func 100) #[] #[])))) (M' := [.box (EL.el a0), .box Zba, .box (EL.el v1.1)]) [] rfl Aki (.func _) (Ac rfl Al) (Qj hv8) rfl rfl (by decide) rfl rfl rfl ?_
   refine sv rfl (Ak rfl) (Ar (Aq (Aq (Lh (Unit) (fun b9 => [(2, .s (.one (.lp 0 0))), (4, .s (.one (.lp 1 0))), (5, .s (.one (.lp 2 0))), (7, .s (.one (.raw (.func (.func 100) #[] #[]))))]) (fun b9 => [.box (EL.el a0), .box Zba, .box (EL.el v1.1)]) (fun b9 => Gv a0 v1 b9 = some r) (fun _ _ => Be rfl) (fun _ _ => Az rfl) (fun _ _ => Nbl rfl) (fun b9 h => ?_) ?_))))
   ·unfold Gv at h
    refine Aq (Ab (sv rfl (Ag rfl) (sv rfl (Ao B8 rfl (.lp _ _ _ rfl) (Nbl rfl)) (sv rfl (Ao Acf rfl (.lp _ _ _ rfl) (Nbl rfl)) ?_))))
    obtain ⟨v10, hv10, h⟩ := Am h
    refine sd rfl (Oh Ast (.raw _ _ rfl) (Ac rfl (Ac rfl Al)) rfl (Og hv10)) (Ax E7 rfl rfl rfl rfl (Nbl rfl) (Bu [.box (EL.el a0), .box (EL.el v10), .box (EL.el v1.1)] rfl (Ar (Bk ?_))))
    obtain rfl := SJ h
    refine ⟨Or.inr rfl, _, _, _, (Ad (Bd.agg _ _ _ _ _ B8 rfl (.lp _ _ _ rfl) (Nbl rfl)) Af), (Aj rfl), ?_⟩
    rfl
   ·skip
    refine Ab (sv rfl (Ag rfl) (sv rfl (Ju Tryz.underlying159 rfl) (sv rfl (Ag rfl) (son rfl rfl rfl (sv rfl (Aa P9 rfl) (son rfl rfl rfl (sv rfl (Ae ti3 rfl (.lp _ _ _ rfl) rfl) (son rfl rfl rfl (sv rfl (Aa Jp rfl) (son rfl rfl rfl (sv rfl (Aa P8 rfl) (son rfl rfl rfl (sv rfl (Ae ti3 rfl (.lp _ _ _ rfl) rfl) (son rfl rfl rfl (sv rfl (Ce rfl rfl) (sv rfl (An rfl rfl) (sv rfl (Ag rfl) (Bq 30 rfl (fun hc => ?_) (fun hc => ?_)))))))))))))))))))
    ·replace h := B2 hc h
     clear hc
     refine Aw rfl rfl rfl rfl (Aw rfl rfl rfl rfl (Aw rfl rfl rfl rfl (Aw rfl rfl rfl rfl (Aw rfl rfl rfl rfl (Aw rfl rfl rfl rfl (sv rfl (Av rfl rfl) (Ar (Hq rfl (fun _ => ?_) (fun hx => Bool.noConfusion hx)))))))))
     refine Aq (Ab (sv rfl (Ao B8 rfl (.lp _ _ _ rfl) (Nbl rfl)) (Ax E7 rfl rfl rfl rfl (Nbl rfl) (Bu [.box (EL.el a0), .box (EL.el a0), .box (EL.el v1.1)] rfl (Ar (Bk (Au ?_)))))))
     obtain rfl := SJ h
     refine ⟨Or.inr rfl, _, _, _, (Ad (Bd.agg _ _ _ _ _ B8 rfl (.lp _ _ _ rfl) (Nbl rfl)) Af), (Aj rfl), ?_⟩
     rfl
    ·replace h := B3 hc h
     clear hc
     refine son rfl rfl rfl (sv rfl (Aa Sg rfl) (son rfl rfl rfl (sv rfl (Ae ti3 rfl (.lp _ _ _ rfl) rfl) (son rfl rfl rfl (sv rfl (Aa Jp rfl) (son rfl rfl rfl (sv rfl (Aa Qq rfl) (son rfl rfl rfl (sv rfl (Ae ti3 rfl (.lp _ _ _ rfl) rfl) (son rfl rfl rfl (sv rfl (Ce rfl rfl) (sv rfl (An rfl rfl) (Ar (ccI h rfl (fun h => ?_) (fun h => ?_)))))))))))))))
     ·refine Aq (Ab (sv rfl (Ao B8 rfl (.lp _ _ _ rfl) (Nbl rfl)) (Ax E7 rfl rfl rfl rfl (Nbl rfl) (Bu [.box (EL.el a0), .box (EL.el a0), .box (EL.el v1.1)] rfl (Ar (Bk (Au ?_)))))))
      obtain rfl := SJ h
      refine ⟨Or.inr rfl, _, _, _, (Ad (Bd.agg _ _ _ _ _ B8 rfl (.lp _ _ _ rfl) (Nbl rfl)) Af), (Aj rfl), ?_⟩
      rfl
     ·refine Bl (Ah ?_)
      exact ⟨(), _, h, ⟨rfl, rfl, rfl, rfl, trivial⟩, rfl⟩
  replace h := B3 (decide_eq_false hq7) h
  by_cases hq11 : a0.Phase = 4
  ·replace h := B2 (decide_eq_true hq11) h
   refine Vm 18 (y := .s (.one (Ii6 a0.Phase))) (.s (.one (Ii6 4))) rfl (congrArg (fun n => AV.s (.one (Ii6 n))) hq11) ?_
   obtain ⟨v12, hv12, h⟩ := Am h
   refine C3 (x' := .s (.one (.raw (.func (.func 101) #[] #[])))) (M' := [.box (EL.el a0), .box Zba, .box (EL.el v1.1)]) [] rfl Aki (.func _) (Ac rfl Al) (Qo hv12) rfl rfl (by decide) rfl rfl rfl ?_
   refine sv rfl (Ak rfl) (Ar (Aq (Aq (Lh (Unit) (fun b13 => [(2, .s (.one (.lp 0 0))), (4, .s (.one (.lp 1 0))), (5, .s (.one (.lp 2 0))), (7, .s (.one (.raw (.func (.func 101) #[] #[]))))]) (fun b13 => [.box (EL.el a0), .box Zba, .box (EL.el v1.1)]) (fun b13 => F9 a0 v1 b13 = some r) (fun _ _ => Be rfl) (fun _ _ => Az rfl) (fun _ _ => Nbl rfl) (fun b13 h => ?_) ?_))))
   ·unfold F9 at h
    refine Aq (Ab (sv rfl (Ag rfl) (sv rfl (Ao B8 rfl (.lp _ _ _ rfl) (Nbl rfl)) (sv rfl (Ao Acf rfl (.lp _ _ _ rfl) (Nbl rfl)) ?_))))
    obtain ⟨v14, hv14, h⟩ := Am h
    refine sd rfl (Oh Aq8 (.raw _ _ rfl) (Ac rfl (Ac rfl Al)) rfl (Nl hv14)) (Ax E7 rfl rfl rfl rfl (Nbl rfl) (Bu [.box (EL.el a0), .box (EL.el v14), .box (EL.el v1.1)] rfl (Ar (Bk ?_))))
    obtain rfl := SJ h
    refine ⟨Or.inr rfl, _, _, _, (Ad (Bd.agg _ _ _ _ _ B8 rfl (.lp _ _ _ rfl) (Nbl rfl)) Af), (Aj rfl), ?_⟩
    rfl
   ·skip
    refine Ab (sv rfl (Ag rfl) (sv rfl (Ju Tryz.underlying159 rfl) (sv rfl (Ag rfl) (son rfl rfl rfl (sv rfl (Aa P9 rfl) (son rfl rfl rfl (sv rfl (Ae ti3 rfl (.lp _ _ _ rfl) rfl) (son rfl rfl rfl (sv rfl (Aa Jp rfl) (son rfl rfl rfl (sv rfl (Aa P8 rfl) (son rfl rfl rfl (sv rfl (Ae ti3 rfl (.lp _ _ _ rfl) rfl) (son rfl rfl rfl (sv rfl (Ce rfl rfl) (sv rfl (An rfl rfl) (sv rfl (Ag rfl) (Bq 30 rfl (fun hc => ?_) (fun hc => ?_)))))))))))))))))))
    ·replace h := B2 hc h
     clear hc
     refine Aw rfl rfl rfl rfl (Aw rfl rfl rfl rfl (Aw rfl rfl rfl rfl (Aw rfl rfl rfl rfl (Aw rfl rfl rfl rfl (Aw rfl rfl rfl rfl (sv rfl (Av rfl rfl) (Ar (Hq rfl (fun _ => ?_) (fun hx => Bool.noConfusion hx)))))))))
     refine Aq (Ab (sv rfl (Ao B8 rfl (.lp _ _ _ rfl) (Nbl rfl)) (Ax E7 rfl rfl rfl rfl (Nbl rfl) (Bu [.box (EL.el a0), .box (EL.el a0), .box (EL.el v1.1)] rfl (Ar (Bk (Au ?_)))))))
     obtain rfl := SJ h
     refine ⟨Or.inr rfl, _, _, _, (Ad (Bd.agg _ _ _ _ _ B8 rfl (.lp _ _ _ rfl) (Nbl rfl)) Af), (Aj rfl), ?_⟩
     rfl
    ·replace h := B3 hc h
     clear hc
     refine son rfl rfl rfl (sv rfl (Aa Sg rfl) (son rfl rfl rfl (sv rfl (Ae ti3 rfl (.lp _ _ _ rfl) rfl) (son rfl rfl rfl (sv rfl (Aa Jp rfl) (son rfl rfl rfl (sv rfl (Aa Qq rfl) (son rfl rfl rfl (sv rfl (Ae ti3 rfl (.lp _ _ _ rfl) rfl) (son rfl rfl rfl (sv rfl (Ce rfl rfl) (sv rfl (An rfl rfl) (Ar (ccI h rfl (fun h => ?_) (fun h => ?_)))))))))))))))
     ·refine Aq (Ab (sv rfl (Ao B8 rfl (.lp _ _ _ rfl) (Nbl rfl)) (Ax E7 rfl rfl rfl rfl (Nbl rfl) (Bu [.box (EL.el a0), .box (EL.el a0), .box (EL.el v1.1)] rfl (Ar (Bk (Au ?_)))))))
      obtain rfl := SJ h
      refine ⟨Or.inr rfl, _, _, _, (Ad (Bd.agg _ _ _ _ _ B8 rfl (.lp _ _ _ rfl) (Nbl rfl)) Af), (Aj rfl), ?_⟩
      rfl
     ·refine Bl (Ah ?_)
      exact ⟨(), _, h, ⟨rfl, rfl, rfl, rfl, trivial⟩, rfl⟩
  replace h := B3 (decide_eq_false hq11) h
  by_cases hq15 : a0.Phase = 5
  ·replace h := B2 (decide_eq_true hq15) h
   refine Vm 18 (y := .s (.one (Ii6 a0.Phase))) (.s (.one (Ii6 5))) rfl (congrArg (fun n => AV.s (.one (Ii6 n))) hq15) ?_
   obtain ⟨v16, hv16, h⟩ := Am h
   refine C3 (x' := .s (.one (.raw (.func (.func 102) #[] #[])))) (M' := [.box (EL.el a0), .box Zba, .box (EL.el v1.1)]) [] rfl Aki (.func _) (Ac rfl Al) (Qi hv16) rfl rfl (by decide) rfl rfl rfl ?_
   refine sv rfl (Ak rfl) (Ar (Aq (Aq (Lh (Unit) (fun b17 => [(2, .s (.one (.lp 0 0))), (4, .s (.one (.lp 1 0))), (5, .s (.one (.lp 2 0))), (7, .s (.one (.raw (.func (.func 102) #[] #[]))))]) (fun b17 => [.box (EL.el a0), .box Zba, .box (EL.el v1.1)]) (fun b17 => F7 a0 v1 b17 = some r) (fun _ _ => Be rfl) (fun _ _ => Az rfl) (fun _ _ => Nbl rfl) (fun b17 h => ?_) ?_))))
   ·unfold F7 at h
    refine Aq (Ab (sv rfl (Ag rfl) (sv rfl (Ao B8 rfl (.lp _ _ _ rfl) (Nbl rfl)) (sv rfl (Ao Acf rfl (.lp _ _ _ rfl) (Nbl rfl)) ?_))))
    obtain ⟨v18, hv18, h⟩ := Am h
    refine sd rfl (Oh As8 (.raw _ _ rfl) (Ac rfl (Ac rfl Al)) rfl (Ob hv18)) (Ax E7 rfl rfl rfl rfl (Nbl rfl) (Bu [.box (EL.el a0), .box (EL.el v18), .box (EL.el v1.1)] rfl (Ar (Bk ?_))))
    obtain rfl := SJ h
    refine ⟨Or.inr rfl, _, _, _, (Ad (Bd.agg _ _ _ _ _ B8 rfl (.lp _ _ _ rfl) (Nbl rfl)) Af), (Aj rfl), ?_⟩
    rfl
   ·skip
    refine Ab (sv rfl (Ag rfl) (sv rfl (Ju Tryz.underlying159 rfl) (sv rfl (Ag rfl) (son rfl rfl rfl (sv rfl (Aa P9 rfl) (son rfl rfl rfl (sv rfl (Ae ti3 rfl (.lp _ _ _ rfl) rfl) (son rfl rfl rfl (sv rfl (Aa Jp rfl) (son rfl rfl rfl (sv rfl (Aa P8 rfl) (son rfl rfl rfl (sv rfl (Ae ti3 rfl (.lp _ _ _ rfl) rfl) (son rfl rfl rfl (sv rfl (Ce rfl rfl) (sv rfl (An rfl rfl) (sv rfl (Ag rfl) (Bq 30 rfl (fun hc => ?_) (fun hc => ?_)))))))))))))))))))
    ·replace h := B2 hc h
     clear hc
     refine Aw rfl rfl rfl rfl (Aw rfl rfl rfl rfl (Aw rfl rfl rfl rfl (Aw rfl rfl rfl rfl (Aw rfl rfl rfl rfl (Aw rfl rfl rfl rfl (sv rfl (Av rfl rfl) (Ar (Hq rfl (fun _ => ?_) (fun hx => Bool.noConfusion hx)))))))))
     refine Aq (Ab (sv rfl (Ao B8 rfl (.lp _ _ _ rfl) (Nbl rfl)) (Ax E7 rfl rfl rfl rfl (Nbl rfl) (Bu [.box (EL.el a0), .box (EL.el a0), .box (EL.el v1.1)] rfl (Ar (Bk (Au ?_)))))))
     obtain rfl := SJ h
     refine ⟨Or.inr rfl, _, _, _, (Ad (Bd.agg _ _ _ _ _ B8 rfl (.lp _ _ _ rfl) (Nbl rfl)) Af), (Aj rfl), ?_⟩
     rfl
    ·replace h := B3 hc h
     clear hc
     refine son rfl rfl rfl (sv rfl (Aa Sg rfl) (son rfl rfl rfl (sv rfl (Ae ti3 rfl (.lp _ _ _ rfl) rfl) (son rfl rfl rfl (sv rfl (Aa Jp rfl) (son rfl rfl rfl (sv rfl (Aa Qq rfl) (son rfl rfl rfl (sv rfl (Ae ti3 rfl (.lp _ _ _ rfl) rfl) (son rfl rfl rfl (sv rfl (Ce rfl rfl) (sv rfl (An rfl rfl) (Ar (ccI h rfl (fun h => ?_) (fun h => ?_)))))))))))))))
     ·refine Aq (Ab (sv rfl (Ao B8 rfl (.lp _ _ _ rfl) (Nbl rfl)) (Ax E7 rfl rfl rfl rfl (Nbl rfl) (Bu [.box (EL.el a0), .box (EL.el a0), .box (EL.el v1.1)] rfl (Ar (Bk (Au ?_)))))))
      obtain rfl := SJ h
      refine ⟨Or.inr rfl, _, _, _, (Ad (Bd.agg _ _ _ _ _ B8 rfl (.lp _ _ _ rfl) (Nbl rfl)) Af), (Aj rfl), ?_⟩
      rfl
     ·refine Bl (Ah ?_)
      exact ⟨(), _, h, ⟨rfl, rfl, rfl, rfl, trivial⟩, rfl⟩
  replace h := B3 (decide_eq_false hq15) h
  by_cases hq19 : a0.Phase = 6
  ·replace h := B2 (decide_eq_true hq19) h
   refine Vm 18 (y := .s (.one (Ii6 a0.Phase))) (.s (.one (Ii6 6))) rfl (congrArg (fun n => AV.s (.one (Ii6 n))) hq19) ?_
   obtain ⟨v20, hv20, h⟩ := Am h
   refine C3 (x' := .s (.one (.raw (.func (.func 103) #[] #[])))) (M' := [.box (EL.el a0), .box Zba, .box (EL.el v1.1)]) [] rfl Aki (.func _) (Ac rfl Al) (Qp hv20) rfl rfl (by decide) rfl rfl rfl ?_
   refine sv rfl (Ak rfl) (Ar (Aq (Aq (Lh (Unit) (fun b21 => [(2, .s (.one (.lp 0 0))), (4, .s (.one (.lp 1 0))), (5, .s (.one (.lp 2 0))), (7, .s (.one (.raw (.func (.func 103) #[] #[]))))]) (fun b21 => [.box (EL.el a0), .box Zba, .box (EL.el v1.1)]) (fun b21 => F8 a0 v1 b21 = some r) (fun _ _ => Be rfl) (fun _ _ => Az rfl) (fun _ _ => Nbl rfl) (fun b21 h => ?_) ?_))))
   ·unfold F8 at h
    refine Aq (Ab (sv rfl (Ag rfl) (sv rfl (Ao B8 rfl (.lp _ _ _ rfl) (Nbl rfl)) (sv rfl (Ao Acf rfl (.lp _ _ _ rfl) (Nbl rfl)) ?_))))
    obtain ⟨v22, hv22, h⟩ := Am h
    refine sd rfl (Oh Aq6 (.raw _ _ rfl) (Ac rfl (Ac rfl Al)) rfl (Ou hv22)) (Ax E7 rfl rfl rfl rfl (Nbl rfl) (Bu [.box (EL.el a0), .box (EL.el v22), .box (EL.el v1.1)] rfl (Ar (Bk ?_))))
    obtain rfl := SJ h
    refine ⟨Or.inr rfl, _, _, _, (Ad (Bd.agg _ _ _ _ _ B8 rfl (.lp _ _ _ rfl) (Nbl rfl)) Af), (Aj rfl), ?_⟩
    rfl
   ·skip
    refine Ab (sv rfl (Ag rfl) (sv rfl (Ju Tryz.underlying159 rfl) (sv rfl (Ag rfl) (son rfl rfl rfl (sv rfl (Aa P9 rfl) (son rfl rfl rfl (sv rfl (Ae ti3 rfl (.lp _ _ _ rfl) rfl) (son rfl rfl rfl (sv rfl (Aa Jp rfl) (son rfl rfl rfl (sv rfl (Aa P8 rfl) (son rfl rfl rfl (sv rfl (Ae ti3 rfl (.lp _ _ _ rfl) rfl) (son rfl rfl rfl (sv rfl (Ce rfl rfl) (sv rfl (An rfl rfl) (sv rfl (Ag rfl) (Bq 30 rfl (fun hc => ?_) (fun hc => ?_)))))))))))))))))))
    ·replace h := B2 hc h
     clear hc
     refine Aw rfl rfl rfl rfl (Aw rfl rfl rfl rfl (Aw rfl rfl rfl rfl (Aw rfl rfl rfl rfl (Aw rfl rfl rfl rfl (Aw rfl rfl rfl rfl (sv rfl (Av rfl rfl) (Ar (Hq rfl (fun _ => ?_) (fun hx => Bool.noConfusion hx)))))))))
     refine Aq (Ab (sv rfl (Ao B8 rfl (.lp _ _ _ rfl) (Nbl rfl)) (Ax E7 rfl rfl rfl rfl (Nbl rfl) (Bu [.box (EL.el a0), .box (EL.el a0), .box (EL.el v1.1)] rfl (Ar (Bk (Au ?_)))))))
     obtain rfl := SJ h
     refine ⟨Or.inr rfl, _, _, _, (Ad (Bd.agg _ _ _ _ _ B8 rfl (.lp _ _ _ rfl) (Nbl rfl)) Af), (Aj rfl), ?_⟩
     rfl
    ·replace h := B3 hc h
     clear hc
     refine son rfl rfl rfl (sv rfl (Aa Sg rfl) (son rfl rfl rfl (sv rfl (Ae ti3 rfl (.lp _ _ _ rfl) rfl) (son rfl rfl rfl (sv rfl (Aa Jp rfl) (son rfl rfl rfl (sv rfl (Aa Qq rfl) (son rfl rfl rfl (sv rfl (Ae ti3 rfl (.lp _ _ _ rfl) rfl) (son rfl rfl rfl (sv rfl (Ce rfl rfl) (sv rfl (An rfl rfl) (Ar (ccI h rfl (fun h => ?_) (fun h => ?_)))))))))))))))
     ·refine Aq (Ab (sv rfl (Ao B8 rfl (.lp _ _ _ rfl) (Nbl rfl)) (Ax E7 rfl rfl rfl rfl (Nbl rfl) (Bu [.box (EL.el a0), .box (EL.el a0), .box (EL.el v1.1)] rfl (Ar (Bk (Au ?_)))))))
      obtain rfl := SJ h
      refine ⟨Or.inr rfl, _, _, _, (Ad (Bd.agg _ _ _ _ _ B8 rfl (.lp _ _ _ rfl) (Nbl rfl)) Af), (Aj rfl), ?_⟩
      rfl
     ·refine Bl (Ah ?_)
      exact ⟨(), _, h, ⟨rfl, rfl, rfl, rfl, trivial⟩, rfl⟩
  replace h := B3 (decide_eq_false hq19) h
  by_cases hq23 : a0.Phase = 7
  ·replace h := B2 (decide_eq_true hq23) h
   refine Vm 18 (y := .s (.one (Ii6 a0.Phase))) (.s (.one (Ii6 7))) rfl (congrArg (fun n => AV.s (.one (Ii6 n))) hq23) ?_
   obtain ⟨v24, hv24, h⟩ := Am h
   refine C3 (x' := .s (.one (.raw (.func (.func 104) #[] #[])))) (M' := [.box (EL.el a0), .box Zba, .box (EL.el v1.1)]) [] rfl Aki (.func _) (Ac rfl Al) (Qh hv24) rfl rfl (by decide) rfl rfl rfl ?_
   refine sv rfl (Ak rfl) (Ar (Aq (Aq (Lh (Unit) (fun b25 => [(2, .s (.one (.lp 0 0))), (4, .s (.one (.lp 1 0))), (5, .s (.one (.lp 2 0))), (7, .s (.one (.raw (.func (.func 104) #[] #[]))))]) (fun b25 => [.box (EL.el a0), .box Zba, .box (EL.el v1.1)]) (fun b25 => F6 a0 v1 b25 = some r) (fun _ _ => Be rfl) (fun _ _ => Az rfl) (fun _ _ => Nbl rfl) (fun b25 h => ?_) ?_))))
   ·unfold F6 at h
    refine Aq (Ab (sv rfl (Ag rfl) (sv rfl (Ao B8 rfl (.lp _ _ _ rfl) (Nbl rfl)) (sv rfl (Ao Acf rfl (.lp _ _ _ rfl) (Nbl rfl)) ?_))))
    obtain ⟨v26, hv26, h⟩ := Am h
    refine sd rfl (Oh Arm (.raw _ _ rfl) (Ac rfl (Ac rfl Al)) rfl (Ot hv26)) (Ax E7 rfl rfl rfl rfl (Nbl rfl) (Bu [.box (EL.el a0), .box (EL.el v26), .box (EL.el v1.1)] rfl (Ar (Bk ?_))))
    obtain rfl := SJ h
    refine ⟨Or.inr rfl, _, _, _, (Ad (Bd.agg _ _ _ _ _ B8 rfl (.lp _ _ _ rfl) (Nbl rfl)) Af), (Aj rfl), ?_⟩
    rfl
   ·skip
    refine Ab (sv rfl (Ag rfl) (sv rfl (Ju Tryz.underlying159 rfl) (sv rfl (Ag rfl) (son rfl rfl rfl (sv rfl (Aa P9 rfl) (son rfl rfl rfl (sv rfl (Ae ti3 rfl (.lp _ _ _ rfl) rfl) (son rfl rfl rfl (sv rfl (Aa Jp rfl) (son rfl rfl rfl (sv rfl (Aa P8 rfl) (son rfl rfl rfl (sv rfl (Ae ti3 rfl (.lp _ _ _ rfl) rfl) (son rfl rfl rfl (sv rfl (Ce rfl rfl) (sv rfl (An rfl rfl) (sv rfl (Ag rfl) (Bq 30 rfl (fun hc => ?_) (fun hc => ?_)))))))))))))))))))
    ·replace h := B2 hc h
     clear hc
     refine Aw rfl rfl rfl rfl (Aw rfl rfl rfl rfl (Aw rfl rfl rfl rfl (Aw rfl rfl rfl rfl (Aw rfl rfl rfl rfl (Aw rfl rfl rfl rfl (sv rfl (Av rfl rfl) (Ar (Hq rfl (fun _ => ?_) (fun hx => Bool.noConfusion hx)))))))))
     refine Aq (Ab (sv rfl (Ao B8 rfl (.lp _ _ _ rfl) (Nbl rfl)) (Ax E7 rfl rfl rfl rfl (Nbl rfl) (Bu [.box (EL.el a0), .box (EL.el a0), .box (EL.el v1.1)] rfl (Ar (Bk (Au ?_)))))))
     obtain rfl := SJ h
     refine ⟨Or.inr rfl, _, _, _, (Ad (Bd.agg _ _ _ _ _ B8 rfl (.lp _ _ _ rfl) (Nbl rfl)) Af), (Aj rfl), ?_⟩
     rfl
    ·replace h := B3 hc h
     clear hc
     refine son rfl rfl rfl (sv rfl (Aa Sg rfl) (son rfl rfl rfl (sv rfl (Ae ti3 rfl (.lp _ _ _ rfl) rfl) (son rfl rfl rfl (sv rfl (Aa Jp rfl) (son rfl rfl rfl (sv rfl (Aa Qq rfl) (son rfl rfl rfl (sv rfl (Ae ti3 rfl (.lp _ _ _ rfl) rfl) (son rfl rfl rfl (sv rfl (Ce rfl rfl) (sv rfl (An rfl rfl) (Ar (ccI h rfl (fun h => ?_) (fun h => ?_)))))))))))))))
     ·refine Aq (Ab (sv rfl (Ao B8 rfl (.lp _ _ _ rfl) (Nbl rfl)) (Ax E7 rfl rfl rfl rfl (Nbl rfl) (Bu [.box (EL.el a0), .box (EL.el a0), .box (EL.el v1.1)] rfl (Ar (Bk (Au ?_)))))))
      obtain rfl := SJ h
      refine ⟨Or.inr rfl, _, _, _, (Ad (Bd.agg _ _ _ _ _ B8 rfl (.lp _ _ _ rfl) (Nbl rfl)) Af), (Aj rfl), ?_⟩
      rfl
     ·refine Bl (Ah ?_)
      exact ⟨(), _, h, ⟨rfl, rfl, rfl, rfl, trivial⟩, rfl⟩
  replace h := B3 (decide_eq_false hq23) h
  by_cases hq27 : a0.Phase = 9
  ·replace h := B2 (decide_eq_true hq27) h
   refine Vm 18 (y := .s (.one (Ii6 a0.Phase))) (.s (.one (Ii6 9))) rfl (congrArg (fun n => AV.s (.one (Ii6 n))) hq27) ?_
   obtain ⟨v28, hv28, h⟩ := Am h
   refine C3 (x' := .s (.one (.raw (.func (.func 105) #[] #[])))) (M' := [.box (EL.el a0), .box Zba, .box (EL.el v1.1)]) [] rfl Aki (.func _) (Ac rfl Al) (Qe hv28) rfl rfl (by decide) rfl rfl rfl ?_
   refine sv rfl (Ak rfl) (Ar (Aq (Aq (Lh (Unit) (fun b29 => [(2, .s (.one (.lp 0 0))), (4, .s (.one (.lp 1 0))), (5, .s (.one (.lp 2 0))), (7, .s (.one (.raw (.func (.func 105) #[] #[]))))]) (fun b29 => [.box (EL.el a0), .box Zba, .box (EL.el v1.1)]) (fun b29 => F4 a0 v1 b29 = some r) (fun _ _ => Be rfl) (fun _ _ => Az rfl) (fun _ _ => Nbl rfl) (fun b29 h => ?_) ?_))))
   ·unfold F4 at h
    refine Aq (Ab (sv rfl (Ag rfl) (sv rfl (Ao B8 rfl (.lp _ _ _ rfl) (Nbl rfl)) (sv rfl (Ao Acf rfl (.lp _ _ _ rfl) (Nbl rfl)) ?_))))
    obtain ⟨v30, hv30, h⟩ := Am h
    refine sd rfl (Oh Arc (.raw _ _ rfl) (Ac rfl (Ac rfl Al)) rfl (Of hv30)) (Ax E7 rfl rfl rfl rfl (Nbl rfl) (Bu [.box (EL.el a0), .box (EL.el v30), .box (EL.el v1.1)] rfl (Ar (Bk ?_))))
    obtain rfl := SJ h
    refine ⟨Or.inr rfl, _, _, _, (Ad (Bd.agg _ _ _ _ _ B8 rfl (.lp _ _ _ rfl) (Nbl rfl)) Af), (Aj rfl), ?_⟩
    rfl
   ·skip
    refine Ab (sv rfl (Ag rfl) (sv rfl (Ju Tryz.underlying159 rfl) (sv rfl (Ag rfl) (son rfl rfl rfl (sv rfl (Aa P9 rfl) (son rfl rfl rfl (sv rfl (Ae ti3 rfl (.lp _ _ _ rfl) rfl) (son rfl rfl rfl (sv rfl (Aa Jp rfl) (son rfl rfl rfl (sv rfl (Aa P8 rfl) (son rfl rfl rfl (sv rfl (Ae ti3 rfl (.lp _ _ _ rfl) rfl) (son rfl rfl rfl (sv rfl (Ce rfl rfl) (sv rfl (An rfl rfl) (sv rfl (Ag rfl) (Bq 30 rfl (fun hc => ?_) (fun hc => ?_)))))))))))))))))))
    ·replace h := B2 hc h
     clear hc
     refine Aw rfl rfl rfl rfl (Aw rfl rfl rfl rfl (Aw rfl rfl rfl rfl (Aw rfl rfl rfl rfl (Aw rfl rfl rfl rfl (Aw rfl rfl rfl rfl (sv rfl (Av rfl rfl) (Ar (Hq rfl (fun _ => ?_) (fun hx => Bool.noConfusion hx)))))))))
     refine Aq (Ab (sv rfl (Ao B8 rfl (.lp _ _ _ rfl) (Nbl rfl)) (Ax E7 rfl rfl rfl rfl (Nbl rfl) (Bu [.box (EL.el a0), .box (EL.el a0), .box (EL.el v1.1)] rfl (Ar (Bk (Au ?_)))))))
     obtain rfl := SJ h
     refine ⟨Or.inr rfl, _, _, _, (Ad (Bd.agg _ _ _ _ _ B8 rfl (.lp _ _ _ rfl) (Nbl rfl)) Af), (Aj rfl), ?_⟩
     rfl
    ·replace h := B3 hc h
     clear hc
     refine son rfl rfl rfl (sv rfl (Aa Sg rfl) (son rfl rfl rfl (sv rfl (Ae ti3 rfl (.lp _ _ _ rfl) rfl) (son rfl rfl rfl (sv rfl (Aa Jp rfl) (son rfl rfl rfl (sv rfl (Aa Qq rfl) (son rfl rfl rfl (sv rfl (Ae ti3 rfl (.lp _ _ _ rfl) rfl) (son rfl rfl rfl (sv rfl (Ce rfl rfl) (sv rfl (An rfl rfl) (Ar (ccI h rfl (fun h => ?_) (fun h => ?_)))))))))))))))
     ·refine Aq (Ab (sv rfl (Ao B8 rfl (.lp _ _ _ rfl) (Nbl rfl)) (Ax E7 rfl rfl rfl rfl (Nbl rfl) (Bu [.box (EL.el a0), .box (EL.el a0), .box (EL.el v1.1)] rfl (Ar (Bk (Au ?_)))))))
      obtain rfl := SJ h
      refine ⟨Or.inr rfl, _, _, _, (Ad (Bd.agg _ _ _ _ _ B8 rfl (.lp _ _ _ rfl) (Nbl rfl)) Af), (Aj rfl), ?_⟩
      rfl
     ·refine Bl (Ah ?_)
      exact ⟨(), _, h, ⟨rfl, rfl, rfl, rfl, trivial⟩, rfl⟩
  replace h := B3 (decide_eq_false hq27) h
  obtain ⟨v31, hv31, h⟩ := Am h
  refine C3 (x' := .s (.one Nfu)) (M' := [.box (EL.el a0), .box Zba, .box (EL.el v1.1)]) [] rfl Aki (.func _) (Ac rfl Al) (Qk hv31) rfl rfl (by decide) rfl rfl rfl ?_
  refine sv rfl (Ak rfl) (Ar (Aq (Aq (Ab (sv rfl (Ag rfl) (sv rfl (Acm Tryz.underlying159 rfl) (sv rfl (Ag rfl) (Aw rfl rfl rfl rfl (Aw rfl rfl rfl rfl (Aw rfl rfl rfl rfl (Aw rfl rfl rfl rfl (Aw rfl rfl rfl rfl (Aw rfl rfl rfl rfl (sv rfl (Av rfl rfl) (sv rfl (Ag rfl) (Aw rfl rfl rfl rfl (Aw rfl rfl rfl rfl (Aw rfl rfl rfl rfl (Aw rfl rfl rfl rfl (Aw rfl rfl rfl rfl (Aw rfl rfl rfl rfl (sv rfl (Av rfl rfl) (Ar (Hq rfl (fun _ => ?_) (fun hx => Bool.noConfusion hx)))))))))))))))))))))))))
  refine Aq (Ab (sv rfl (Ao B8 rfl (.lp _ _ _ rfl) (Nbl rfl)) (Ax E7 rfl rfl rfl rfl (Nbl rfl) (Bu [.box (EL.el a0), .box (EL.el a0), .box (EL.el v1.1)] rfl (Ar (Bk (Au ?_)))))))
  obtain rfl := SJ h
  refine ⟨Or.inr rfl, _, _, _, (Ad (Bd.agg _ _ _ _ _ B8 rfl (.lp _ _ _ rfl) (Nbl rfl)) Af), (Aj rfl), ?_⟩
  rfl
def Kj (v3 : Bo × (List (List UInt8)) × Int) (b4 : Ai) : Option Ai :=
 if (!decide (v3.2.2 = 0)) then ((Fw b4.Phase).bind fun v5 => if (!v5) then ((Cq b4).bind fun v6 => some v6) else (some b4)) else (some b4)
def Ep (v3 : Bo × (List (List UInt8)) × Int) (s7 : Int × Ai) : Option (LB (Int × Ai) (Ai)) :=
 if (decide (s7.1 < (v3.2.1.length : Int))) then ((idx v3.2.1 s7.1).bind fun u8 => (Fw s7.2.Phase).bind fun v9 => if (!v9) then ((Gc s7.2 u8).bind fun v10 => some (.cont ((wI (s7.1 + 1)), v10))) else (some (.cont ((wI (s7.1 + 1)), s7.2)))) else (some (.brk s7.2))
def H2 (a0 : Ai) (a1 : List UInt8) : Option Ai :=
 (E1 a0).bind fun v1 => if (!v1) then (some Cy) else ((Fw a0.Phase).bind fun v2 => if v2 then (some a0) else ((D8 a0.In a1).bind fun v3 => (Ej (Ep v3) fuel (0, {a0 with In := v3.1})).bind fun e11 => Kj v3 e11))
theorem Nb {a0 : Ai} {a1 : List UInt8} {r : Ai} (h : H2 a0 a1 = some r) : Bp Tryz.prog 18 [.agg (EL.el a0), .one (.sl a1.length (a1.flatMap eU8))] (· = .s (.agg (EL.el r))) := by
 unfold H2 at h
 refine A2 Tryz.func18 rfl (nt := 53) rfl (Nbl rfl) ?_
 intro w0 S0
 refine Aq (Ab (Jj rfl rfl (B1 rfl Nw (Ar (Aq (Aq (Ab (sv rfl (Ao B8 rfl (.lp _ _ _ rfl) (Nbl rfl)) ?_))))))))
 obtain ⟨v1, hv1, h⟩ := Am h
 refine A3 rfl An8 (Ac rfl Al) (Aj rfl) (Ht hv1) (sv rfl (Ca rfl) (Ar (ccI h rfl (fun h => ?_) (fun h => ?_))))
 ·refine Aq (Ab (sv rfl (Bj Nw Adn Ba (.nil _)) (Ax E7 rfl rfl rfl rfl (Nbl rfl) (Bu [.box (EL.el a0), .box Zba] rfl (Ar (Bk (Au ?_)))))))
  obtain rfl := SJ h
  refine ⟨Or.inr rfl, _, _, _, (Ad (Bd.agg _ _ _ _ _ B8 rfl (.lp _ _ _ rfl) (Nbl rfl)) Af), (Nt rfl), ?_⟩
  rfl
 ·refine Bl (Ah (Aq (Aq (Ab (sv rfl (Aa Hf rfl) (sv rfl (Ae ti3 rfl (.lp _ _ _ rfl) rfl) ?_))))))
  obtain ⟨v2, hv2, h⟩ := Am h
  refine A3 rfl Ao8 (Ac rfl Al) (Aj rfl) (Je hv2) (Ar (ccI h rfl (fun h => ?_) (fun h => ?_)))
  ·refine Aq (Ab (sv rfl (Ao B8 rfl (.lp _ _ _ rfl) (Nbl rfl)) (Ax E7 rfl rfl rfl rfl (Nbl rfl) (Bu [.box (EL.el a0), .box (EL.el a0)] rfl (Ar (Bk (Au ?_)))))))
   obtain rfl := SJ h
   refine ⟨Or.inr rfl, _, _, _, (Ad (Bd.agg _ _ _ _ _ B8 rfl (.lp _ _ _ rfl) (Nbl rfl)) Af), (Aj rfl), ?_⟩
   rfl
  ·refine Bl (Ah (Aq (Ab (sv rfl (Aa V3 rfl) (sv rfl (Ao Ah9 rfl (.lp _ _ _ rfl) (Nbl rfl)) (sv rfl (Ag rfl) ?_))))))
   obtain ⟨v3, hv3, h⟩ := Am h
   refine A3 rfl Av3 (Ac rfl (Ac rfl Al)) (Aj rfl) (Uh hv3) (sv rfl (Gn rfl) (sv rfl (Bb rfl rfl) (sv rfl (Bb rfl rfl) (sv rfl (Bb rfl rfl) (B1 rfl An7 (Ax Am5 rfl rfl rfl rfl (Nbl rfl) (Bu [.box (EL.el a0), .box Zba, .box (EL.el v3.1)] rfl (sv rfl (Ak rfl) (sv rfl (Ak rfl) (Ar (Aq (Ab (sv rfl (Ao Ah9 rfl (.lp _ _ _ rfl) (Nbl rfl)) (sv rfl (Aa V3 rfl) (Ax Am5 rfl rfl rfl rfl (Nbl rfl) (Bu [.box (EL.el {a0 with In := v3.1}), .box Zba, .box (EL.el v3.1)] rfl (Ar (Aq (Aq (Ab (sv rfl (Ag rfl) (sv rfl (A0 Ady rfl) (sv rfl (Ag rfl) (Ar (G6 (Ai) (fun b4 => [(2, .s (.one (.lp 0 0))), (4, .s (.one (.lp 1 0))), (7, .s (.one (Ii6 v3.2.2)))]) (fun b4 => [.box (EL.el b4), .box Zba, .box (EL.el v3.1)]) (fun b4 => Kj v3 b4 = some r) (fun _ _ => Be rfl) (fun _ _ => Az rfl) (fun _ _ => Nbl rfl) (fun b4 h => ?_) ?_)))))))))))))))))))))))))
   ·unfold Kj at h
    refine Aq (Aq (Ab (sv rfl (Ag rfl) (sv rfl (Ce rfl rfl) (sv rfl (Ag rfl) (Bq 44 rfl (fun hc => ?_) (fun hc => ?_)))))))
    ·replace h := B2 hc h
     clear hc
     refine son rfl rfl rfl (sv rfl (Aa Hf rfl) (son rfl rfl rfl (sv rfl (Ae ti3 rfl (.lp _ _ _ rfl) rfl) (son rfl rfl rfl ?_))))
     obtain ⟨v5, hv5, h⟩ := Am h
     refine A3 rfl Ao8 (Ac rfl Al) (Aj rfl) (Je hv5) (son rfl rfl rfl (sv rfl (Ca rfl) (sv rfl (Av rfl rfl) (Ar (ccI h rfl (fun h => ?_) (fun h => ?_))))))
     ·refine Ab (sv rfl (Ao B8 rfl (.lp _ _ _ rfl) (Nbl rfl)) ?_)
      obtain ⟨v6, hv6, h⟩ := Am h
      refine A3 rfl Ao0 (Ac rfl Al) (Aj rfl) (Fp hv6) (Ax E7 rfl rfl rfl rfl (Nbl rfl) (Bu [.box (EL.el v6), .box Zba, .box (EL.el v3.1)] rfl (Ar (Aq (Ab (sv rfl (Ao B8 rfl (.lp _ _ _ rfl) (Nbl rfl)) (Ax E7 rfl rfl rfl rfl (Nbl rfl) (Bu [.box (EL.el v6), .box (EL.el v6), .box (EL.el v3.1)] rfl (Ar (Bk ?_))))))))))
      obtain rfl := SJ h
      refine ⟨Or.inr rfl, _, _, _, (Ad (Bd.agg _ _ _ _ _ B8 rfl (.lp _ _ _ rfl) (Nbl rfl)) Af), (Aj rfl), ?_⟩
      rfl
     ·refine Bl (Ah (Aq (Ab (sv rfl (Ao B8 rfl (.lp _ _ _ rfl) (Nbl rfl)) (Ax E7 rfl rfl rfl rfl (Nbl rfl) (Bu [.box (EL.el b4), .box (EL.el b4), .box (EL.el v3.1)] rfl (Ar (Bk ?_))))))))
      obtain rfl := SJ h
      refine ⟨Or.inr rfl, _, _, _, (Ad (Bd.agg _ _ _ _ _ B8 rfl (.lp _ _ _ rfl) (Nbl rfl)) Af), (Aj rfl), ?_⟩
      rfl
    ·replace h := B3 hc h
     clear hc
     refine Aw rfl rfl rfl rfl (Aw rfl rfl rfl rfl (Aw rfl rfl rfl rfl (Aw rfl rfl rfl rfl (sv rfl (An rfl rfl) (Ar (Hq rfl (fun hx => Bool.noConfusion hx) (fun _ => ?_)))))))
     refine Bl (Ah (Aq (Ab (sv rfl (Ao B8 rfl (.lp _ _ _ rfl) (Nbl rfl)) (Ax E7 rfl rfl rfl rfl (Nbl rfl) (Bu [.box (EL.el b4), .box (EL.el b4), .box (EL.el v3.1)] rfl (Ar (Bk ?_))))))))
     obtain rfl := SJ h
     refine ⟨Or.inr rfl, _, _, _, (Ad (Bd.agg _ _ _ _ _ B8 rfl (.lp _ _ _ rfl) (Nbl rfl)) Af), (Aj rfl), ?_⟩
     rfl
   ·skip
    refine B4 ?_
    obtain ⟨x7, hx7, ho7⟩ := Am h
    refine C2 (G := Nat × (Int × Ai)) (fun g => [(2, .s (.one (.lp 0 0))), (4, .s (.one (.lp 1 0))), (7, .s (.one (Ii6 v3.2.2))), (28, .s (.one (.sl v3.2.1.length (v3.2.1.flatMap (eL eU8))))), (29, .s (.one (Ii6 (v3.2.1.length : Int)))), (30, .s (.one (Ii6 g.2.1)))]) (fun g => [.box (EL.el g.2.2), .box Zba, .box (EL.el v3.1)]) (fun g => Ej (Ep v3) g.1 g.2 = some x7) (fun g => g.1) (fuel, (0, {a0 with In := v3.1})) hx7 ⟨rfl, rfl, rfl, rfl, rfl, rfl, trivial⟩ [] rfl (fun _ _ => Be rfl) (fun _ _ => Az rfl) (fun _ _ => Nbl rfl) ?_
    clear hx7 h
    rintro ⟨n7, s7⟩ h
    obtain ⟨n7, y7, rfl, h, hk7⟩ := F5 h
    unfold Ep at h
    refine Aq (Ab (sv rfl (Cm rfl rfl) (Ar (Aq (ccI h rfl (fun h => ?_) (fun h => ?_))))))
    ·refine Bl (Ah (Aq (B4 (Aq (Ab ?_)))))
     obtain ⟨u8, hu8, h⟩ := Am h
     refine sv rfl (Dp (f := (eL eU8)) Ady (fun _ => rfl) rfl rfl rfl rfl hu8) ?_
     refine sv rfl (Ae L5 rfl (.cp _) rfl) (sv rfl (Ak rfl) (Ar (Aq (Ab (sv rfl (Aa Hf rfl) (sv rfl (Ae ti3 rfl (.lp _ _ _ rfl) rfl) ?_))))))
     obtain ⟨v9, hv9, h⟩ := Am h
     refine A3 rfl Ao8 (Ac rfl Al) (Aj rfl) (Je hv9) (sv rfl (Ca rfl) (Ar (ccI h rfl (fun h => ?_) (fun h => ?_))))
     ·refine Ab (sv rfl (Ao B8 rfl (.lp _ _ _ rfl) (Nbl rfl)) (sv rfl (Ag rfl) ?_))
      obtain ⟨v10, hv10, h⟩ := Am h
      refine A3 rfl Ava (Ac rfl (Ac rfl Al)) (Aj rfl) (Pa hv10) (Ax E7 rfl rfl rfl rfl (Nbl rfl) (Bu [.box (EL.el v10), .box Zba, .box (EL.el v3.1)] rfl (Lz (A1 (Ah (Ab (sv rfl (B0 rfl rfl) (sv rfl (Ag rfl) (Ar ?_)))))))))
      obtain rfl := SJ h
      exact ⟨(n7, ((wI (s7.1 + 1)), v10)), _, hk7, ⟨rfl, rfl, rfl, rfl, rfl, rfl, trivial⟩, rfl, Nat.lt_succ_self _⟩
     ·refine Bl (A1 (Ah (Ab (sv rfl (B0 rfl rfl) (sv rfl (Ag rfl) (Ar ?_))))))
      obtain rfl := SJ h
      exact ⟨(n7, ((wI (s7.1 + 1)), s7.2)), _, hk7, ⟨rfl, rfl, rfl, rfl, rfl, rfl, trivial⟩, rfl, Nat.lt_succ_self _⟩
    ·refine Kn (Bh (Bh (Cd (Ah ?_))))
     obtain rfl := SJ h
     obtain rfl : _ = x7 := hk7
     exact ⟨s7.2, _, ho7, ⟨rfl, rfl, rfl, trivial⟩, rfl⟩
def Oa (v2 : Ai × Int) (v3 : Ai × Int) (v4 : Ai × Int) (b5 : Ai) : Option Bool :=
 if (decide (v2.2 = 0)) then (if (decide (v3.2 = 0)) then (if (decide (v4.2 = 0)) then (if (decide ((b5.Done.length : Int) = 1)) then ((idx b5.Done 0).bind fun u6 => if (decide (u6.Code = 1)) then ((idx b5.Done 0).bind fun u7 => if (decide (u7.Ts = 5)) then (if (decide (b5.Phase = 9)) then (some (decide ((b5.Tried.length : Int) = 1))) else (some false)) else (some false)) else (some false)) else (some false)) else (some false)) else (some false)) else (some false)
def N9 (s8 : Int × Ai) : Option (LB (Int × Ai) (Ai)) :=
 if (decide (s8.1 < 4)) then ((F1 s8.2 (Hx.mk 0 0 0 5 false ([] : List UInt8) ([] : List Db))).bind fun v9 => (H2 s8.2 v9).bind fun v10 => some (.cont ((wI (s8.1 + 1)), v10))) else (some (.brk s8.2))
def Ox  : Option Bool :=
 (Nn).bind fun v1 => (La v1).bind fun v2 => (Em v2.1).bind fun v3 => (Dl v3.1 (As.mk 9 (Cp.mk false [(B7.mk 2 0 0 0 [(UInt8.ofBitVec (107#8))] Bt)]))).bind fun v4 => (Ej N9 fuel (0, v4.1)).bind fun e11 => Oa v2 v3 v4 e11
theorem Xm  {r : Bool} (h : Ox = some r) : Bp Tryz.prog 7 [] (· = .s (.one (.b r))) := by
 unfold Ox at h
 refine A2 Tryz.func7 rfl (nt := 79) rfl (Nbl rfl) ?_
 intro w0 S0
 refine Aq (Ab (sv rfl (Ak rfl) (Ar (Aq (Ab ?_)))))
 obtain ⟨v1, hv1, h⟩ := Am h
 refine A3 rfl Atr Al (Aj rfl) (Sm hv1) ?_
 obtain ⟨v2, hv2, h⟩ := Am h
 refine A3 rfl fn9 (Ac rfl Al) (Aj rfl) (Qu hv2) (sv rfl (Gn rfl) (sv rfl (Bb rfl rfl) (sv rfl (Bb rfl rfl) (B1 rfl Nw (Ax E7 rfl rfl rfl rfl (Nbl rfl) (Bu [.box (EL.el v2.1)] rfl (sv rfl (Ak rfl) (Ar (Aq (Ab (sv rfl (Ao B8 rfl (.lp _ _ _ rfl) (Nbl rfl)) ?_)))))))))))
 obtain ⟨v3, hv3, h⟩ := Am h
 refine A3 rfl Aui (Ac rfl Al) (Aj rfl) (My hv3) (sv rfl (Gn rfl) (sv rfl (Bb rfl rfl) (sv rfl (Bb rfl rfl) (Ax E7 rfl rfl rfl rfl (Nbl rfl) (Bu [.box (EL.el v3.1)] rfl (sv rfl (Ak rfl) (Ar (Aq (Ab (sv rfl (Ao B8 rfl (.lp _ _ _ rfl) (Nbl rfl)) ?_))))))))))
 refine Rj rfl Tryz.underlying33 ei5 rfl rfl (List.all_eq_true.1 rfl) (by decide) ?_
 refine Bu [.box (EL.el v3.1), .arr 5 1 0 ([(UInt8.ofBitVec (107#8))].flatMap eU8)] rfl ?_
 refine Aii rfl Tryz.underlying33 Tryz.underlying5 rfl rfl (Bg (f := eU8) (fun _ => rfl) [(UInt8.ofBitVec (107#8))]).symm (by decide) ?_
 refine sv rfl (Bj Apo Auf (Ap rfl (Ap rfl Ba)) (.cons _ _ _ _ _ _ _ rfl rfl (Nbl rfl) (.cons _ _ _ _ _ _ _ rfl rfl (Nbl rfl) (.nil _)))) ?_
 refine Aau 20 rfl (by (repeat' first | exact Kb.nil _ | apply Kb.cons | apply J4.one | apply J4.agg | exact E8.nil | exact E8.id _ rfl | exact D2.nil _ | apply D2.cons)) ?_
 refine Rj rfl Tryz.underlying90 Asm rfl rfl (List.all_eq_true.1 rfl) (by decide) ?_
 refine Bu [.box (EL.el v3.1), .dead, .arr 89 8 0 ([(B7.mk 2 0 0 0 [(UInt8.ofBitVec (107#8))] Bt)].flatMap Cg)] rfl (sv rfl (Bj Aq1 Auv (Ap rfl Ba) (.cons _ _ _ _ _ _ _ rfl rfl (Nbl rfl) (.nil _))) (sv rfl (Bj An2 Aub (Ap rfl (Ap rfl Ba)) (.cons _ _ _ _ _ _ _ rfl rfl (Nbl rfl) (.cons _ _ _ _ _ _ _ rfl rfl (Nbl rfl) (.nil _)))) ?_))
 refine Aau 23 rfl (by (repeat' first | exact Kb.nil _ | apply Kb.cons | apply J4.one | apply J4.agg | exact E8.nil | exact E8.ls _ _ _ _ _ _ rfl (Bg (f := Cg) (fun _ => rfl) ([(B7.mk 2 0 0 0 [(UInt8.ofBitVec (107#8))] Bt)] : List B7)).symm | exact E8.ls _ _ _ _ _ _ rfl (Bg (f := Cg) (fun _ => rfl) _).symm | exact E8.id _ rfl | exact D2.nil _ | apply D2.cons)) ?_
 obtain ⟨v4, hv4, h⟩ := Am h
 refine A3 rfl At6 (Ac rfl (Ac rfl Al)) (Aj rfl) (N8 hv4) (sv rfl (Gn rfl) (sv rfl (Bb rfl rfl) (sv rfl (Bb rfl rfl) (Ax E7 rfl rfl rfl rfl (Nbl rfl) (Bu [.box (EL.el v4.1), .dead, .arr 89 8 ([(B7.mk 2 0 0 0 [(UInt8.ofBitVec (107#8))] Bt)].flatMap Cg).length ([(B7.mk 2 0 0 0 [(UInt8.ofBitVec (107#8))] Bt)].flatMap Cg)] rfl (sv rfl (Ak rfl) (Ar (Aq (Aq (Ab (sv rfl (Ak rfl) (Ar (G6 (Ai) (fun b5 => [(1, .s (.one (.lp 0 0))), (2, .s (.one (Ii6 v2.2))), (3, .s (.one (Ii6 v3.2))), (4, .s (.one (Ii6 v4.2)))]) (fun b5 => [.box (EL.el b5), .dead, .arr 89 8 ([(B7.mk 2 0 0 0 [(UInt8.ofBitVec (107#8))] Bt)].flatMap Cg).length ([(B7.mk 2 0 0 0 [(UInt8.ofBitVec (107#8))] Bt)].flatMap Cg)]) (fun b5 => Oa v2 v3 v4 b5 = some r) (fun _ _ => Be rfl) (fun _ _ => Az rfl) (fun _ _ => Nbl rfl) (fun b5 h => ?_) ?_)))))))))))))
 ·unfold Oa at h
  refine Aq (Ab (sv rfl (Ag rfl) (sv rfl (Br rfl rfl) (sv rfl (Ag rfl) (Bq 38 rfl (fun hc => ?_) (fun hc => ?_))))))
  ·replace h := B2 hc h
   clear hc
   refine son rfl rfl rfl (sv rfl (Ag rfl) (son rfl rfl rfl (sv rfl (Br rfl rfl) (sv rfl (Av rfl rfl) (sv rfl (Ag rfl) (Bq 42 rfl (fun hc => ?_) (fun hc => ?_)))))))
   ·replace h := B2 hc h
    clear hc
    refine son rfl rfl rfl (sv rfl (Ag rfl) (son rfl rfl rfl (sv rfl (Br rfl rfl) (sv rfl (Av rfl rfl) (sv rfl (Ag rfl) (Bq 46 rfl (fun hc => ?_) (fun hc => ?_)))))))
    ·replace h := B2 hc h
     clear hc
     refine son rfl rfl rfl (sv rfl (Aa Nv rfl) (son rfl rfl rfl (sv rfl (Ae Aep rfl (.lp _ _ _ rfl) rfl) (son rfl rfl rfl (sv rfl (A0 Zm rfl) (son rfl rfl rfl (sv rfl (Br rfl rfl) (sv rfl (Av rfl rfl) (sv rfl (Ag rfl) (Bq 52 rfl (fun hc => ?_) (fun hc => ?_)))))))))))
     ·replace h := B2 hc h
      clear hc
      refine son rfl rfl rfl (sv rfl (Aa Nv rfl) (son rfl rfl rfl (sv rfl (Ae Aep rfl (.lp _ _ _ rfl) rfl) (son rfl rfl rfl ?_))))
      obtain ⟨u6, hu6, h⟩ := Am h
      refine sv rfl (Dp (f := A5) Zm (fun _ => rfl) rfl rfl rfl rfl hu6) ?_
      refine son rfl rfl rfl (sv rfl (Bm Ak4 rfl) (son rfl rfl rfl (sv rfl (Ae ti3 rfl (.cp _) rfl) (son rfl rfl rfl (sv rfl (Br rfl rfl) (sv rfl (Av rfl rfl) (sv rfl (Ag rfl) (Bq 60 rfl (fun hc => ?_) (fun hc => ?_)))))))))
      ·replace h := B2 hc h
       clear hc
       refine son rfl rfl rfl (sv rfl (Aa Nv rfl) (son rfl rfl rfl (sv rfl (Ae Aep rfl (.lp _ _ _ rfl) rfl) (son rfl rfl rfl ?_))))
       obtain ⟨u7, hu7, h⟩ := Am h
       refine sv rfl (Dp (f := A5) Zm (fun _ => rfl) rfl rfl rfl rfl hu7) ?_
       refine son rfl rfl rfl (sv rfl (Bm Afm rfl) (son rfl rfl rfl (sv rfl (Ae ti3 rfl (.cp _) rfl) (son rfl rfl rfl (sv rfl (Br rfl rfl) (sv rfl (Av rfl rfl) (sv rfl (Ag rfl) (Bq 68 rfl (fun hc => ?_) (fun hc => ?_)))))))))
       ·replace h := B2 hc h
        clear hc
        refine son rfl rfl rfl (sv rfl (Aa Hf rfl) (son rfl rfl rfl (sv rfl (Ae ti3 rfl (.lp _ _ _ rfl) rfl) (son rfl rfl rfl (sv rfl (Br rfl rfl) (sv rfl (Av rfl rfl) (sv rfl (Ag rfl) (Bq 73 rfl (fun hc => ?_) (fun hc => ?_)))))))))
        ·replace h := B2 hc h
         clear hc
         refine son rfl rfl rfl (sv rfl (Aa O5 rfl) (son rfl rfl rfl (sv rfl (Ae Ae6 rfl (.lp _ _ _ rfl) rfl) (son rfl rfl rfl (sv rfl (A0 Acn rfl) (son rfl rfl rfl (sv rfl (Br rfl rfl) (sv rfl (Av rfl rfl) (sv rfl (Ak rfl) (Ar (Bk ?_)))))))))))
         obtain rfl := SJ h
         refine ⟨Or.inr rfl, _, _, _, (Ad (Bd.tmp _ _ rfl) Af), (Aj rfl), ?_⟩
         rfl
        ·replace h := B3 hc h
         clear hc
         refine Aw rfl rfl rfl rfl (Aw rfl rfl rfl rfl (Aw rfl rfl rfl rfl (Aw rfl rfl rfl rfl (sv rfl (An rfl rfl) (sv rfl (Ak rfl) (Ar (Bk ?_)))))))
         obtain rfl := SJ h
         refine ⟨Or.inr rfl, _, _, _, (Ad (Bd.tmp _ _ rfl) Af), (Aj rfl), ?_⟩
         rfl
       ·replace h := B3 hc h
        clear hc
        refine Aw rfl rfl rfl rfl (Aw rfl rfl rfl rfl (Aw rfl rfl rfl rfl (sv rfl (An rfl rfl) (sv rfl (Ag rfl) (Aw rfl rfl rfl rfl (Aw rfl rfl rfl rfl (Aw rfl rfl rfl rfl (Aw rfl rfl rfl rfl (sv rfl (An rfl rfl) (sv rfl (Ak rfl) (Ar (Bk ?_))))))))))))
        obtain rfl := SJ h
        refine ⟨Or.inr rfl, _, _, _, (Ad (Bd.tmp _ _ rfl) Af), (Aj rfl), ?_⟩
        rfl
      ·replace h := B3 hc h
       clear hc
       refine Aw rfl rfl rfl rfl (Aw rfl rfl rfl rfl (Aw rfl rfl rfl rfl (Aw rfl rfl rfl rfl (Aw rfl rfl rfl rfl (Aw rfl rfl rfl rfl (sv rfl (An rfl rfl) (sv rfl (Ag rfl) (Aw rfl rfl rfl rfl (Aw rfl rfl rfl rfl (Aw rfl rfl rfl rfl (sv rfl (An rfl rfl) (sv rfl (Ag rfl) (Aw rfl rfl rfl rfl (Aw rfl rfl rfl rfl (Aw rfl rfl rfl rfl (Aw rfl rfl rfl rfl (sv rfl (An rfl rfl) (sv rfl (Ak rfl) (Ar (Bk ?_))))))))))))))))))))
       obtain rfl := SJ h
       refine ⟨Or.inr rfl, _, _, _, (Ad (Bd.tmp _ _ rfl) Af), (Aj rfl), ?_⟩
       rfl
     ·replace h := B3 hc h
      clear hc
      refine Aw rfl rfl rfl rfl (Aw rfl rfl rfl rfl (Aw rfl rfl rfl rfl (Aw rfl rfl rfl rfl (Aw rfl rfl rfl rfl (Aw rfl rfl rfl rfl (sv rfl (An rfl rfl) (sv rfl (Ag rfl) (Aw rfl rfl rfl rfl (Aw rfl rfl rfl rfl (Aw rfl rfl rfl rfl (Aw rfl rfl rfl rfl (Aw rfl rfl rfl rfl (Aw rfl rfl rfl rfl (sv rfl (An rfl rfl) (sv rfl (Ag rfl) (Aw rfl rfl rfl rfl (Aw rfl rfl rfl rfl (Aw rfl rfl rfl rfl (sv rfl (An rfl rfl) (sv rfl (Ag rfl) (Aw rfl rfl rfl rfl (Aw rfl rfl rfl rfl (Aw rfl rfl rfl rfl (Aw rfl rfl rfl rfl (sv rfl (An rfl rfl) (sv rfl (Ak rfl) (Ar (Bk ?_))))))))))))))))))))))))))))
      obtain rfl := SJ h
      refine ⟨Or.inr rfl, _, _, _, (Ad (Bd.tmp _ _ rfl) Af), (Aj rfl), ?_⟩
      rfl
    ·replace h := B3 hc h
     clear hc
     refine Aw rfl rfl rfl rfl (Aw rfl rfl rfl rfl (Aw rfl rfl rfl rfl (Aw rfl rfl rfl rfl (sv rfl (An rfl rfl) (sv rfl (Ag rfl) (Aw rfl rfl rfl rfl (Aw rfl rfl rfl rfl (Aw rfl rfl rfl rfl (Aw rfl rfl rfl rfl (Aw rfl rfl rfl rfl (Aw rfl rfl rfl rfl (sv rfl (An rfl rfl) (sv rfl (Ag rfl) (Aw rfl rfl rfl rfl (Aw rfl rfl rfl rfl (Aw rfl rfl rfl rfl (Aw rfl rfl rfl rfl (Aw rfl rfl rfl rfl (Aw rfl rfl rfl rfl (sv rfl (An rfl rfl) (sv rfl (Ag rfl) (Aw rfl rfl rfl rfl (Aw rfl rfl rfl rfl (Aw rfl rfl rfl rfl (sv rfl (An rfl rfl) (sv rfl (Ag rfl) (Aw rfl rfl rfl rfl (Aw rfl rfl rfl rfl (Aw rfl rfl rfl rfl (Aw rfl rfl rfl rfl (sv rfl (An rfl rfl) (sv rfl (Ak rfl) (Ar (Bk ?_))))))))))))))))))))))))))))))))))
     obtain rfl := SJ h
     refine ⟨Or.inr rfl, _, _, _, (Ad (Bd.tmp _ _ rfl) Af), (Aj rfl), ?_⟩
     rfl
   ·replace h := B3 hc h
    clear hc
    refine Aw rfl rfl rfl rfl (Aw rfl rfl rfl rfl (sv rfl (An rfl rfl) (sv rfl (Ag rfl) (Aw rfl rfl rfl rfl (Aw rfl rfl rfl rfl (Aw rfl rfl rfl rfl (Aw rfl rfl rfl rfl (sv rfl (An rfl rfl) (sv rfl (Ag rfl) (Aw rfl rfl rfl rfl (Aw rfl rfl rfl rfl (Aw rfl rfl rfl rfl (Aw rfl rfl rfl rfl (Aw rfl rfl rfl rfl (Aw rfl rfl rfl rfl (sv rfl (An rfl rfl) (sv rfl (Ag rfl) (Aw rfl rfl rfl rfl (Aw rfl rfl rfl rfl (Aw rfl rfl rfl rfl (Aw rfl rfl rfl rfl (Aw rfl rfl rfl rfl (Aw rfl rfl rfl rfl (sv rfl (An rfl rfl) (sv rfl (Ag rfl) (Aw rfl rfl rfl rfl (Aw rfl rfl rfl rfl (Aw rfl rfl rfl rfl (sv rfl (An rfl rfl) (sv rfl (Ag rfl) (Aw rfl rfl rfl rfl (Aw rfl rfl rfl rfl (Aw rfl rfl rfl rfl (Aw rfl rfl rfl rfl (sv rfl (An rfl rfl) (sv rfl (Ak rfl) (Ar (Bk ?_))))))))))))))))))))))))))))))))))))))
    obtain rfl := SJ h
    refine ⟨Or.inr rfl, _, _, _, (Ad (Bd.tmp _ _ rfl) Af), (Aj rfl), ?_⟩
    rfl
  ·replace h := B3 hc h
   clear hc
   refine Aw rfl rfl rfl rfl (Aw rfl rfl rfl rfl (sv rfl (An rfl rfl) (sv rfl (Ag rfl) (Aw rfl rfl rfl rfl (Aw rfl rfl rfl rfl (sv rfl (An rfl rfl) (sv rfl (Ag rfl) (Aw rfl rfl rfl rfl (Aw rfl rfl rfl rfl (Aw rfl rfl rfl rfl (Aw rfl rfl rfl rfl (sv rfl (An rfl rfl) (sv rfl (Ag rfl) (Aw rfl rfl rfl rfl (Aw rfl rfl rfl rfl (Aw rfl rfl rfl rfl (Aw rfl rfl rfl rfl (Aw rfl rfl rfl rfl (Aw rfl rfl rfl rfl (sv rfl (An rfl rfl) (sv rfl (Ag rfl) (Aw rfl rfl rfl rfl (Aw rfl rfl rfl rfl (Aw rfl rfl rfl rfl (Aw rfl rfl rfl rfl (Aw rfl rfl rfl rfl (Aw rfl rfl rfl rfl (sv rfl (An rfl rfl) (sv rfl (Ag rfl) (Aw rfl rfl rfl rfl (Aw rfl rfl rfl rfl (Aw rfl rfl rfl rfl (sv rfl (An rfl rfl) (sv rfl (Ag rfl) (Aw rfl rfl rfl rfl (Aw rfl rfl rfl rfl (Aw rfl rfl rfl rfl (Aw rfl rfl rfl rfl (sv rfl (An rfl rfl) (sv rfl (Ak rfl) (Ar (Bk ?_))))))))))))))))))))))))))))))))))))))))))
   obtain rfl := SJ h
   refine ⟨Or.inr rfl, _, _, _, (Ad (Bd.tmp _ _ rfl) Af), (Aj rfl), ?_⟩
   rfl
 ·skip
  refine B4 ?_
  obtain ⟨x8, hx8, ho8⟩ := Am h
  refine C2 (G := Nat × (Int × Ai)) (fun g => [(1, .s (.one (.lp 0 0))), (2, .s (.one (Ii6 v2.2))), (3, .s (.one (Ii6 v3.2))), (4, .s (.one (Ii6 v4.2))), (5, .s (.one (Ii6 g.2.1)))]) (fun g => [.box (EL.el g.2.2), .dead, .arr 89 8 ([(B7.mk 2 0 0 0 [(UInt8.ofBitVec (107#8))] Bt)].flatMap Cg).length ([(B7.mk 2 0 0 0 [(UInt8.ofBitVec (107#8))] Bt)].flatMap Cg)]) (fun g => Ej N9 g.1 g.2 = some x8) (fun g => g.1) (fuel, (0, v4.1)) hx8 ⟨rfl, rfl, rfl, rfl, rfl, trivial⟩ [] rfl (fun _ _ => Be rfl) (fun _ _ => Az rfl) (fun _ _ => Nbl rfl) ?_
  clear hx8 h
  rintro ⟨n8, s8⟩ h
  obtain ⟨n8, y8, rfl, h, hk8⟩ := F5 h
  unfold N9 at h
  refine Aq (Aq (Ab (sv rfl (Ag rfl) (sv rfl (Cm rfl rfl) (Ar (ccI h rfl (fun h => ?_) (fun h => ?_)))))))
  ·refine Bl (Ah (Aq (B4 ?_)))
   obtain ⟨v9, hv9, h⟩ := Am h
   obtain ⟨v10, hv10, h⟩ := Am h
   refine Ke [5] [0, 0, 0, 6, 15, 31] [[.box (EL.el s8.2), .dead, .arr 89 8 ([(B7.mk 2 0 0 0 [(UInt8.ofBitVec (107#8))] Bt)].flatMap Cg).length ([(B7.mk 2 0 0 0 [(UInt8.ofBitVec (107#8))] Bt)].flatMap Cg)], [.box (EL.el v10), .dead, .arr 89 8 ([(B7.mk 2 0 0 0 [(UInt8.ofBitVec (107#8))] Bt)].flatMap Cg).length ([(B7.mk 2 0 0 0 [(UInt8.ofBitVec (107#8))] Bt)].flatMap Cg)]] (by kernel_rfl) Lm (by kernel_rfl) (by decide) rfl rfl rfl rfl ?_
   refine ev (Bi 0 rfl rfl) rfl rfl (Ao B8 rfl (.lp _ _ _ rfl) (Nbl rfl)) (ev (Bi 0 rfl rfl) rfl rfl (Ao B8 rfl (.lp _ _ _ rfl) (Nbl rfl)) (ev (Bi 0 rfl rfl) rfl rfl (Bj Awc Avx (Ap rfl Ba) (.cons _ _ _ _ _ _ _ rfl rfl (Nbl rfl) (.nil _))) (ed (Bi 0 rfl rfl) rfl rfl (Tw At5 (Ac rfl (Ac rfl Al)) rfl (Ow hv9)) (ed (Bi 0 rfl rfl) rfl rfl (D3 Ata (Ac rfl (Ac rfl Al)) rfl (Nb hv10)) (ee0 0 rfl rfl rfl rfl (fun ζ => ?_) ?_)))))
   ·refine Ax E7 rfl rfl rfl rfl (Nbl rfl) (Bu [.box (EL.el v10), .dead, .arr 89 8 ([(B7.mk 2 0 0 0 [(UInt8.ofBitVec (107#8))] Bt)].flatMap Cg).length ([(B7.mk 2 0 0 0 [(UInt8.ofBitVec (107#8))] Bt)].flatMap Cg)] rfl ?_)
    exact Sk
   refine Y9 (A1 (Ah (Ab (sv rfl (Ag rfl) (sv rfl (B0 rfl rfl) (sv rfl (Ak rfl) (Ar ?_)))))))
   obtain rfl := SJ h
   exact ⟨(n8, ((wI (s8.1 + 1)), v10)), _, hk8, ⟨rfl, rfl, rfl, rfl, rfl, trivial⟩, rfl, Nat.lt_succ_self _⟩
  ·refine Kn (Bh (Bh (Cd (Ah ?_))))
   obtain rfl := SJ h
   obtain rfl : _ = x8 := hk8
   exact ⟨s8.2, _, ho8, ⟨rfl, rfl, rfl, rfl, trivial⟩, rfl⟩
def Jm (a0 : B9) : Option Bool :=
 if (decide ((a0.Lo.length : Int) ≤ 100)) then (some (decide ((a0.Hi.length : Int) ≤ 100))) else (some false)
theorem Wd {a0 : B9} {r : Bool} (h : Jm a0 = some r) : Bp Tryz.prog 57 [.agg (EL.el a0)] (· = .s (.one (.b r))) := by
 unfold Jm at h
 refine A2 Tryz.func57 rfl (nt := 13) rfl (Nbl rfl) ?_
 intro w0 S0
 refine Aq (Ab (Jj rfl rfl (sv rfl (Ak rfl) (Ar (Aq (Ab (sv rfl (Aa Tz rfl) (sv rfl (Ae L5 rfl (.lp _ _ _ rfl) rfl) (sv rfl (A0 Li rfl) (sv rfl (F3 rfl rfl) (sv rfl (Ag rfl) (Bq 7 rfl (fun hc => ?_) (fun hc => ?_)))))))))))))
 ·replace h := B2 hc h
  clear hc
  refine son rfl rfl rfl (sv rfl (Aa Qx rfl) (son rfl rfl rfl (sv rfl (Ae L5 rfl (.lp _ _ _ rfl) rfl) (son rfl rfl rfl (sv rfl (A0 Li rfl) (son rfl rfl rfl (sv rfl (F3 rfl rfl) (sv rfl (Av rfl rfl) (sv rfl (Ak rfl) (Ar (Bk ?_)))))))))))
  obtain rfl := SJ h
  refine ⟨Or.inr rfl, _, _, _, (Ad (Bd.tmp _ _ rfl) Af), (Aj rfl), ?_⟩
  rfl
 ·replace h := B3 hc h
  clear hc
  refine Aw rfl rfl rfl rfl (Aw rfl rfl rfl rfl (Aw rfl rfl rfl rfl (Aw rfl rfl rfl rfl (sv rfl (An rfl rfl) (sv rfl (Ak rfl) (Ar (Bk ?_)))))))
  obtain rfl := SJ h
  refine ⟨Or.inr rfl, _, _, _, (Ad (Bd.tmp _ _ rfl) Af), (Aj rfl), ?_⟩
  rfl
def O7 (b1 : Unit) : Option Bool :=
 some true
def J7 (a0 : Iy) (s2 : Int) : Option (LR (Int) (Unit) (Bool)) :=
 if (decide (s2 < (a0.Ops.length : Int))) then ((idx a0.Ops s2).bind fun u3 => if (decide (50 < (u3.Key.length : Int))) then (some (.ret false)) else ((idx a0.Ops s2).bind fun u4 => (Jm u4.Rng).bind fun v5 => if (!v5) then (some (.ret false)) else (some (.cont (wI (s2 + 1)))))) else (some (.brk ()))
def L9 (a0 : Iy) : Option Bool :=
 if (decide (40 < (a0.Ops.length : Int))) then (some false) else ((Pt (J7 a0) fuel 0).bind fun x => match x with | .inl r => some r | .inr e6 => O7 e6)
theorem Yo {a0 : Iy} {r : Bool} (h : L9 a0 = some r) : Bp Tryz.prog 23 [.agg (EL.el a0)] (· = .s (.one (.b r))) := by
 unfold L9 at h
 refine A2 Tryz.func23 rfl (nt := 33) rfl (Nbl rfl) ?_
 intro w0 S0
 refine Aq (Ab (Jj rfl rfl (sv rfl (Ak rfl) (Ar (Aq (Aq (Ab (sv rfl (Aa Xw rfl) (sv rfl (Ae An6 rfl (.lp _ _ _ rfl) rfl) (sv rfl (A0 An3 rfl) (sv rfl (Di rfl rfl) (Ar (ccI h rfl (fun h => ?_) (fun h => ?_))))))))))))))
 ·refine Aq (Ab (sv rfl (Ak rfl) (Ar (Bk (Au ?_)))))
  obtain rfl := SJ h
  refine ⟨Or.inr rfl, _, _, _, (Ad (Bd.tmp _ _ rfl) Af), (Aj rfl), ?_⟩
  rfl
 ·refine Bl (Ah (Aq (Aq (Ab (sv rfl (Ak rfl) (Ar (G6 (Unit) (fun b1 => []) (fun b1 => [.box (EL.el a0)]) (fun b1 => O7 b1 = some r) (fun _ _ => Be rfl) (fun _ _ => Az rfl) (fun _ _ => Nbl rfl) (fun b1 h => ?_) ?_)))))))
  ·unfold O7 at h
   refine Aq (Ab (sv rfl (Ak rfl) (Ar (Bk ?_))))
   obtain rfl := SJ h
   refine ⟨Or.inr rfl, _, _, _, (Ad (Bd.tmp _ _ rfl) Af), (Aj rfl), ?_⟩
   rfl
  ·skip
   refine B4 ?_
   obtain ⟨x2, hx2, ho2⟩ := Am h
   refine C2 (G := Nat × (Int)) (fun g => [(1, .s (.one (.lp 0 0))), (3, .s (.one (Ii6 g.2)))]) (fun g => [.box (EL.el a0)]) (fun g => Pt (J7 a0) g.1 g.2 = some x2) (fun g => g.1) (fuel, 0) hx2 ⟨rfl, rfl, trivial⟩ [] rfl (fun _ _ => Be rfl) (fun _ _ => Az rfl) (fun _ _ => Nbl rfl) ?_
   clear hx2 h
   rintro ⟨n2, s2⟩ h
   obtain ⟨n2, y2, rfl, h, hk2⟩ := Ns h
   unfold J7 at h
   refine Aq (Aq (Ab (sv rfl (Ag rfl) (sv rfl (Aa Xw rfl) (sv rfl (Ae An6 rfl (.lp _ _ _ rfl) rfl) (sv rfl (A0 An3 rfl) (sv rfl (Cm rfl rfl) (Ar (ccI h rfl (fun h => ?_) (fun h => ?_))))))))))
   ·refine Bl (Ah (Aq (B4 (Aq (Ab (sv rfl (Aa Xw rfl) (sv rfl (Ae An6 rfl (.lp _ _ _ rfl) rfl) (sv rfl (Ag rfl) ?_))))))))
    obtain ⟨u3, hu3, h⟩ := Am h
    refine sv rfl (Dp (f := O6) An3 (fun _ => rfl) rfl rfl rfl rfl hu3) ?_
    refine sv rfl (Bm Ag7 rfl) (sv rfl (Ae L5 rfl (.cp _) rfl) (sv rfl (A0 Li rfl) (sv rfl (Di rfl rfl) (sv rfl (Ag rfl) (Bq 23 rfl (fun hc => ?_) (fun hc => ?_))))))
    ·replace h := B2 hc h
     clear hc
     refine Aw rfl rfl rfl rfl (Aw rfl rfl rfl rfl (Aw rfl rfl rfl rfl (Aw rfl rfl rfl rfl (Aw rfl rfl rfl rfl (Aw rfl rfl rfl rfl (Aw rfl rfl rfl rfl (Aw rfl rfl rfl rfl (sv rfl (Av rfl rfl) (Ar (Hq rfl (fun _ => ?_) (fun hx => Bool.noConfusion hx)))))))))))
     refine Aq (Ab (sv rfl (Ak rfl) (Ar (Bk (Bc (Au (Au (Bc (Au ?_)))))))))
     obtain rfl := SJ h
     obtain rfl : Sum.inl _ = x2 := hk2
     replace ho2 : some _ = some _ := ho2
     obtain rfl := Option.some.inj ho2
     refine ⟨Or.inr rfl, _, _, _, (Ad (Bd.tmp _ _ rfl) Af), (Aj rfl), ?_⟩
     rfl
    ·replace h := B3 hc h
     clear hc
     refine son rfl rfl rfl (sv rfl (Aa Xw rfl) (son rfl rfl rfl (sv rfl (Ae An6 rfl (.lp _ _ _ rfl) rfl) (son rfl rfl rfl (sv rfl (Ag rfl) (son rfl rfl rfl ?_))))))
     obtain ⟨u4, hu4, h⟩ := Am h
     refine sv rfl (Dp (f := O6) An3 (fun _ => rfl) rfl rfl rfl rfl hu4) ?_
     refine son rfl rfl rfl (sv rfl (Bm Afq rfl) (son rfl rfl rfl (sv rfl (C6 (ys := [.sl u4.Rng.Lo.length (u4.Rng.Lo.flatMap eU8), .sl u4.Rng.Hi.length (u4.Rng.Hi.flatMap eU8), .b u4.Rng.Open]) Ain rfl (.cp _) rfl rfl) (son rfl rfl rfl ?_))))
     obtain ⟨v5, hv5, h⟩ := Am h
     refine A3 rfl Avz (Ac rfl Al) (Aj rfl) (Wd hv5) (son rfl rfl rfl (sv rfl (Ca rfl) (sv rfl (An rfl rfl) (Ar (ccI h rfl (fun h => ?_) (fun h => ?_))))))
     ·refine Aq (Ab (sv rfl (Ak rfl) (Ar (Bk (Bc (Au (Au (Bc (Au ?_)))))))))
      obtain rfl := SJ h
      obtain rfl : Sum.inl _ = x2 := hk2
      replace ho2 : some _ = some _ := ho2
      obtain rfl := Option.some.inj ho2
      refine ⟨Or.inr rfl, _, _, _, (Ad (Bd.tmp _ _ rfl) Af), (Aj rfl), ?_⟩
      rfl
     ·refine Bl (A1 (Ah (Ab (sv rfl (Ag rfl) (sv rfl (B0 rfl rfl) (sv rfl (Ak rfl) (Ar ?_)))))))
      obtain rfl := SJ h
      exact ⟨(n2, (wI (s2 + 1))), _, hk2, ⟨rfl, rfl, trivial⟩, rfl, Nat.lt_succ_self _⟩
   ·refine Kn (Bh (Bh (Cd (Ah ?_))))
    obtain rfl := SJ h
    obtain rfl : _ = x2 := hk2
    exact ⟨(), _, ho2, trivial, rfl⟩
def Mc (b2 : Unit) : Option Bool :=
 some true
def Gq (a0 : Hx) (s3 : Int) : Option (LR (Int) (Unit) (Bool)) :=
 if (decide (s3 < (a0.List.length : Int))) then ((idx a0.List s3).bind fun u4 => if (decide (100 < (u4.Key.length : Int))) then (some (.ret false)) else ((idx a0.List s3).bind fun u5 => if (decide (100 < (u5.Val.length : Int))) then (some (.ret false)) else (some (.cont (wI (s3 + 1)))))) else (some (.brk ()))
def Jv (a0 : Hx) (b1 : Unit) : Option Bool :=
 (Pt (Gq a0) fuel 0).bind fun x => match x with | .inl r => some r | .inr e6 => Mc e6
def G9 (a0 : Hx) : Option Bool :=
 if (decide (100 < (a0.Val.length : Int))) then (some false) else (if (decide (20 < (a0.List.length : Int))) then (some false) else (Jv a0 ()))
theorem Ub {a0 : Hx} {r : Bool} (h : G9 a0 = some r) : Bp Tryz.prog 24 [.agg (EL.el a0)] (· = .s (.one (.b r))) := by
 unfold G9 at h
 refine A2 Tryz.func24 rfl (nt := 39) rfl (Nbl rfl) ?_
 intro w0 S0
 refine Aq (Ab (Jj rfl rfl (sv rfl (Ak rfl) (Ar (Aq (Aq (Lh (Unit) (fun b1 => [(1, .s (.one (.lp 0 0)))]) (fun b1 => [.box (EL.el a0)]) (fun b1 => Jv a0 b1 = some r) (fun _ _ => Be rfl) (fun _ _ => Az rfl) (fun _ _ => Nbl rfl) (fun b1 h => ?_) ?_)))))))
 ·unfold Jv at h
  refine Aq (Aq (Ab (sv rfl (Ak rfl) (Ar (G6 (Unit) (fun b2 => []) (fun b2 => [.box (EL.el a0)]) (fun b2 => Mc b2 = some r) (fun _ _ => Be rfl) (fun _ _ => Az rfl) (fun _ _ => Nbl rfl) (fun b2 h => ?_) ?_)))))
  ·unfold Mc at h
   refine Aq (Ab (sv rfl (Ak rfl) (Ar (Bk ?_))))
   obtain rfl := SJ h
   refine ⟨Or.inr rfl, _, _, _, (Ad (Bd.tmp _ _ rfl) Af), (Aj rfl), ?_⟩
   rfl
  ·skip
   refine B4 ?_
   obtain ⟨x3, hx3, ho3⟩ := Am h
   refine C2 (G := Nat × (Int)) (fun g => [(1, .s (.one (.lp 0 0))), (3, .s (.one (Ii6 g.2)))]) (fun g => [.box (EL.el a0)]) (fun g => Pt (Gq a0) g.1 g.2 = some x3) (fun g => g.1) (fuel, 0) hx3 ⟨rfl, rfl, trivial⟩ [] rfl (fun _ _ => Be rfl) (fun _ _ => Az rfl) (fun _ _ => Nbl rfl) ?_
   clear hx3 h
   rintro ⟨n3, s3⟩ h
   obtain ⟨n3, y3, rfl, h, hk3⟩ := Ns h
   unfold Gq at h
   refine Aq (Aq (Ab (sv rfl (Ag rfl) (sv rfl (Aa Zu rfl) (sv rfl (Ae Ae1 rfl (.lp _ _ _ rfl) rfl) (sv rfl (A0 Ads rfl) (sv rfl (Cm rfl rfl) (Ar (ccI h rfl (fun h => ?_) (fun h => ?_))))))))))
   ·refine Bl (Ah (Aq (B4 (Aq (Ab (sv rfl (Aa Zu rfl) (sv rfl (Ae Ae1 rfl (.lp _ _ _ rfl) rfl) (sv rfl (Ag rfl) ?_))))))))
    obtain ⟨u4, hu4, h⟩ := Am h
    refine sv rfl (Dp (f := Dx) Ads (fun _ => rfl) rfl rfl rfl rfl hu4) ?_
    refine sv rfl (Bm Ab8 rfl) (sv rfl (Ae L5 rfl (.cp _) rfl) (sv rfl (A0 Li rfl) (sv rfl (Di rfl rfl) (sv rfl (Ag rfl) (Bq 29 rfl (fun hc => ?_) (fun hc => ?_))))))
    ·replace h := B2 hc h
     clear hc
     refine Aw rfl rfl rfl rfl (Aw rfl rfl rfl rfl (Aw rfl rfl rfl rfl (Aw rfl rfl rfl rfl (Aw rfl rfl rfl rfl (Aw rfl rfl rfl rfl (Aw rfl rfl rfl rfl (Aw rfl rfl rfl rfl (sv rfl (Av rfl rfl) (Ar (Hq rfl (fun _ => ?_) (fun hx => Bool.noConfusion hx)))))))))))
     refine Aq (Ab (sv rfl (Ak rfl) (Ar (Bk (Bc (Au (Au (Bc (Au ?_)))))))))
     obtain rfl := SJ h
     obtain rfl : Sum.inl _ = x3 := hk3
     replace ho3 : some _ = some _ := ho3
     obtain rfl := Option.some.inj ho3
     refine ⟨Or.inr rfl, _, _, _, (Ad (Bd.tmp _ _ rfl) Af), (Aj rfl), ?_⟩
     rfl
    ·replace h := B3 hc h
     clear hc
     refine son rfl rfl rfl (sv rfl (Aa Zu rfl) (son rfl rfl rfl (sv rfl (Ae Ae1 rfl (.lp _ _ _ rfl) rfl) (son rfl rfl rfl (sv rfl (Ag rfl) (son rfl rfl rfl ?_))))))
     obtain ⟨u5, hu5, h⟩ := Am h
     refine sv rfl (Dp (f := Dx) Ads (fun _ => rfl) rfl rfl rfl rfl hu5) ?_
     refine son rfl rfl rfl (sv rfl (Bm Yg rfl) (son rfl rfl rfl (sv rfl (Ae L5 rfl (.cp _) rfl) (son rfl rfl rfl (sv rfl (A0 Li rfl) (son rfl rfl rfl (sv rfl (Di rfl rfl) (sv rfl (An rfl rfl) (Ar (ccI h rfl (fun h => ?_) (fun h => ?_)))))))))))
     ·refine Aq (Ab (sv rfl (Ak rfl) (Ar (Bk (Bc (Au (Au (Bc (Au ?_)))))))))
      obtain rfl := SJ h
      obtain rfl : Sum.inl _ = x3 := hk3
      replace ho3 : some _ = some _ := ho3
      obtain rfl := Option.some.inj ho3
      refine ⟨Or.inr rfl, _, _, _, (Ad (Bd.tmp _ _ rfl) Af), (Aj rfl), ?_⟩
      rfl
     ·refine Bl (A1 (Ah (Ab (sv rfl (Ag rfl) (sv rfl (B0 rfl rfl) (sv rfl (Ak rfl) (Ar ?_)))))))
      obtain rfl := SJ h
      exact ⟨(n3, (wI (s3 + 1))), _, hk3, ⟨rfl, rfl, trivial⟩, rfl, Nat.lt_succ_self _⟩
   ·refine Kn (Bh (Bh (Cd (Ah ?_))))
    obtain rfl := SJ h
    obtain rfl : _ = x3 := hk3
    exact ⟨(), _, ho3, trivial, rfl⟩
 ·skip
  refine Ab (sv rfl (Aa Ak6 rfl) (sv rfl (Ae L5 rfl (.lp _ _ _ rfl) rfl) (sv rfl (A0 Li rfl) (sv rfl (Di rfl rfl) (sv rfl (Ag rfl) (Bq 8 rfl (fun hc => ?_) (fun hc => ?_)))))))
  ·replace h := B2 hc h
   clear hc
   refine Aw rfl rfl rfl rfl (Aw rfl rfl rfl rfl (Aw rfl rfl rfl rfl (Aw rfl rfl rfl rfl (sv rfl (Av rfl rfl) (Ar (Hq rfl (fun _ => ?_) (fun hx => Bool.noConfusion hx)))))))
   refine Aq (Ab (sv rfl (Ak rfl) (Ar (Bk (Au ?_)))))
   obtain rfl := SJ h
   refine ⟨Or.inr rfl, _, _, _, (Ad (Bd.tmp _ _ rfl) Af), (Aj rfl), ?_⟩
   rfl
  ·replace h := B3 hc h
   clear hc
   refine son rfl rfl rfl (sv rfl (Aa Zu rfl) (son rfl rfl rfl (sv rfl (Ae Ae1 rfl (.lp _ _ _ rfl) rfl) (son rfl rfl rfl (sv rfl (A0 Ads rfl) (son rfl rfl rfl (sv rfl (Di rfl rfl) (sv rfl (An rfl rfl) (Ar (ccI h rfl (fun h => ?_) (fun h => ?_)))))))))))
   ·refine Aq (Ab (sv rfl (Ak rfl) (Ar (Bk (Au ?_)))))
    obtain rfl := SJ h
    refine ⟨Or.inr rfl, _, _, _, (Ad (Bd.tmp _ _ rfl) Af), (Aj rfl), ?_⟩
    rfl
   ·refine Bl (Ah ?_)
    exact ⟨(), _, h, ⟨rfl, trivial⟩, rfl⟩
def Oq (b1 : Unit) : Option Bool :=
 some true
def Jf (a0 : List Ja) (s2 : Int) : Option (LR (Int) (Unit) (Bool)) :=
 if (decide (s2 < (a0.length : Int))) then ((idx a0 s2).bind fun u3 => (L9 u3.Task.Prog).bind fun v4 => if (!v4) then (some (.ret false)) else ((idx a0 s2).bind fun u5 => (G9 u5.Reply).bind fun v6 => if (!v6) then (some (.ret false)) else ((idx a0 s2).bind fun u7 => if (decide (300 < (u7.Bytes.length : Int))) then (some (.ret false)) else (some (.cont (wI (s2 + 1))))))) else (some (.brk ()))
def Ni (a0 : List Ja) : Option Bool :=
 if (decide (80 < (a0.length : Int))) then (some false) else ((Pt (Jf a0) fuel 0).bind fun x => match x with | .inl r => some r | .inr e8 => Oq e8)
theorem Xd {a0 : List Ja} {r : Bool} (h : Ni a0 = some r) : Bp Tryz.prog 8 [.one (.sl a0.length (a0.flatMap Nf))] (· = .s (.one (.b r))) := by
 unfold Ni at h
 refine A2 Tryz.func8 rfl (nt := 39) rfl (Nbl rfl) ?_
 intro w0 S0
 refine Aq (Ab (sv rfl (Ak rfl) (Ar (Aq (Aq (Ab (sv rfl (Ag rfl) (sv rfl (A0 Alo rfl) (sv rfl (Di rfl rfl) (Ar (ccI h rfl (fun h => ?_) (fun h => ?_))))))))))))
 ·refine Aq (Ab (sv rfl (Ak rfl) (Ar (Bk (Au ?_)))))
  obtain rfl := SJ h
  refine ⟨Or.inr rfl, _, _, _, (Ad (Bd.tmp _ _ rfl) Af), (Aj rfl), ?_⟩
  rfl
 ·refine Bl (Ah (Aq (Aq (Ab (sv rfl (Ak rfl) (Ar (G6 (Unit) (fun b1 => []) (fun b1 => []) (fun b1 => Oq b1 = some r) (fun _ _ => Be rfl) (fun _ _ => Az rfl) (fun _ _ => Nbl rfl) (fun b1 h => ?_) ?_)))))))
  ·unfold Oq at h
   refine Aq (Ab (sv rfl (Ak rfl) (Ar (Bk ?_))))
   obtain rfl := SJ h
   refine ⟨Or.inr rfl, _, _, _, (Ad (Bd.tmp _ _ rfl) Af), (Aj rfl), ?_⟩
   rfl
  ·skip
   refine B4 ?_
   obtain ⟨x2, hx2, ho2⟩ := Am h
   refine C2 (G := Nat × (Int)) (fun g => [(0, .s (.one (.sl a0.length (a0.flatMap Nf)))), (3, .s (.one (Ii6 g.2)))]) (fun g => []) (fun g => Pt (Jf a0) g.1 g.2 = some x2) (fun g => g.1) (fuel, 0) hx2 ⟨rfl, rfl, trivial⟩ [] rfl (fun _ _ => Be rfl) (fun _ _ => Az rfl) (fun _ _ => Nbl rfl) ?_
   clear hx2 h
   rintro ⟨n2, s2⟩ h
   obtain ⟨n2, y2, rfl, h, hk2⟩ := Ns h
   unfold Jf at h
   refine Aq (Aq (Ab (sv rfl (Ag rfl) (sv rfl (Ag rfl) (sv rfl (A0 Alo rfl) (sv rfl (Cm rfl rfl) (Ar (ccI h rfl (fun h => ?_) (fun h => ?_)))))))))
   ·refine Bl (Ah (Aq (B4 (Aq (Ab (sv rfl (Ag rfl) (sv rfl (Ag rfl) ?_)))))))
    obtain ⟨u3, hu3, h⟩ := Am h
    refine sv rfl (Dp (f := Nf) Alo (fun _ => rfl) rfl rfl rfl rfl hu3) ?_
    refine sv rfl (Bm Adj rfl) (sv rfl (Bm Akp rfl) (sv rfl (C6 (ys := [.b u3.Task.Prog.RO, .sl u3.Task.Prog.Ops.length (u3.Task.Prog.Ops.flatMap O6)]) Atz rfl (.cp _) rfl rfl) ?_))
    obtain ⟨v4, hv4, h⟩ := Am h
    refine A3 rfl Au0 (Ac rfl Al) (Aj rfl) (Yo hv4) (sv rfl (Ca rfl) (sv rfl (Ag rfl) (Bq 21 rfl (fun hc => ?_) (fun hc => ?_))))
    ·replace h := B2 hc h
     clear hc
     refine Aw rfl rfl rfl rfl (Aw rfl rfl rfl rfl (Aw rfl rfl rfl rfl (Aw rfl rfl rfl rfl (Aw rfl rfl rfl rfl (Aw rfl rfl rfl rfl (Aw rfl rfl rfl rfl (sv rfl (Av rfl rfl) (sv rfl (Ag rfl) (Aw rfl rfl rfl rfl (Aw rfl rfl rfl rfl (Aw rfl rfl rfl rfl (Aw rfl rfl rfl rfl (Aw rfl rfl rfl rfl (Aw rfl rfl rfl rfl (Aw rfl rfl rfl rfl (sv rfl (Av rfl rfl) (Ar (Hq rfl (fun _ => ?_) (fun hx => Bool.noConfusion hx)))))))))))))))))))
     refine Aq (Ab (sv rfl (Ak rfl) (Ar (Bk (Bc (Au (Au (Bc (Au ?_)))))))))
     obtain rfl := SJ h
     obtain rfl : Sum.inl _ = x2 := hk2
     replace ho2 : some _ = some _ := ho2
     obtain rfl := Option.some.inj ho2
     refine ⟨Or.inr rfl, _, _, _, (Ad (Bd.tmp _ _ rfl) Af), (Aj rfl), ?_⟩
     rfl
    ·replace h := B3 hc h
     clear hc
     refine son rfl rfl rfl (sv rfl (Ag rfl) (son rfl rfl rfl (sv rfl (Ag rfl) (son rfl rfl rfl ?_))))
     obtain ⟨u5, hu5, h⟩ := Am h
     refine sv rfl (Dp (f := Nf) Alo (fun _ => rfl) rfl rfl rfl rfl hu5) ?_
     refine son rfl rfl rfl (sv rfl (Bm Ak9 rfl) (son rfl rfl rfl (sv rfl (C6 (ys := [Ii6 u5.Reply.Kind, Ii6 u5.Reply.Seq, Ii6 u5.Reply.Code, Ii6 u5.Reply.N, .b u5.Reply.Found, .sl u5.Reply.Val.length (u5.Reply.Val.flatMap eU8), .sl u5.Reply.List.length (u5.Reply.List.flatMap Dx)]) At1 rfl (.cp _) rfl rfl) (son rfl rfl rfl ?_))))
     obtain ⟨v6, hv6, h⟩ := Am h
     refine A3 rfl Av1 (Ac rfl Al) (Aj rfl) (Ub hv6) (son rfl rfl rfl (sv rfl (Ca rfl) (sv rfl (An rfl rfl) (sv rfl (Ag rfl) (Bq 30 rfl (fun hc => ?_) (fun hc => ?_))))))
     ·replace h := B2 hc h
      clear hc
      refine Aw rfl rfl rfl rfl (Aw rfl rfl rfl rfl (Aw rfl rfl rfl rfl (Aw rfl rfl rfl rfl (Aw rfl rfl rfl rfl (Aw rfl rfl rfl rfl (Aw rfl rfl rfl rfl (sv rfl (Av rfl rfl) (Ar (Hq rfl (fun _ => ?_) (fun hx => Bool.noConfusion hx))))))))))
      refine Aq (Ab (sv rfl (Ak rfl) (Ar (Bk (Bc (Au (Au (Bc (Au ?_)))))))))
      obtain rfl := SJ h
      obtain rfl : Sum.inl _ = x2 := hk2
      replace ho2 : some _ = some _ := ho2
      obtain rfl := Option.some.inj ho2
      refine ⟨Or.inr rfl, _, _, _, (Ad (Bd.tmp _ _ rfl) Af), (Aj rfl), ?_⟩
      rfl
     ·replace h := B3 hc h
      clear hc
      refine son rfl rfl rfl (sv rfl (Ag rfl) (son rfl rfl rfl (sv rfl (Ag rfl) (son rfl rfl rfl ?_))))
      obtain ⟨u7, hu7, h⟩ := Am h
      refine sv rfl (Dp (f := Nf) Alo (fun _ => rfl) rfl rfl rfl rfl hu7) ?_
      refine son rfl rfl rfl (sv rfl (Bm Akm rfl) (son rfl rfl rfl (sv rfl (Ae L5 rfl (.cp _) rfl) (son rfl rfl rfl (sv rfl (A0 Li rfl) (son rfl rfl rfl (sv rfl (Di rfl rfl) (sv rfl (An rfl rfl) (Ar (ccI h rfl (fun h => ?_) (fun h => ?_)))))))))))
      ·refine Aq (Ab (sv rfl (Ak rfl) (Ar (Bk (Bc (Au (Au (Bc (Au ?_)))))))))
       obtain rfl := SJ h
       obtain rfl : Sum.inl _ = x2 := hk2
       replace ho2 : some _ = some _ := ho2
       obtain rfl := Option.some.inj ho2
       refine ⟨Or.inr rfl, _, _, _, (Ad (Bd.tmp _ _ rfl) Af), (Aj rfl), ?_⟩
       rfl
      ·refine Bl (A1 (Ah (Ab (sv rfl (Ag rfl) (sv rfl (B0 rfl rfl) (sv rfl (Ak rfl) (Ar ?_)))))))
       obtain rfl := SJ h
       exact ⟨(n2, (wI (s2 + 1))), _, hk2, ⟨rfl, rfl, trivial⟩, rfl, Nat.lt_succ_self _⟩
   ·refine Kn (Bh (Bh (Cd (Ah ?_))))
    obtain rfl := SJ h
    obtain rfl : _ = x2 := hk2
    exact ⟨(), _, ho2, trivial, rfl⟩
def Mv (a0 : Iy) (b1 : (List B7)) : Option Cp :=
 some (Cp.mk a0.RO b1)
def Iu (a0 : Iy) (s2 : Int × (List B7)) : Option (LB (Int × (List B7)) ((List B7))) :=
 if (decide (s2.1 < (a0.Ops.length : Int))) then ((idx a0.Ops s2.1).bind fun u3 => if (s2.2.length + [(B7.mk u3.What u3.A u3.B u3.N u3.Key u3.Rng)].length) * 112 ≤ 140737488355328 then (some (.cont ((wI (s2.1 + 1)), (s2.2 ++ [(B7.mk u3.What u3.A u3.B u3.N u3.Key u3.Rng)])))) else none) else (some (.brk s2.2))
def Kr (a0 : Iy) : Option Cp :=
 (Ej (Iu a0) fuel (0, ([] : List B7))).bind fun e5 => Mv a0 e5
theorem Um {a0 : Iy} {r : Cp} (h : Kr a0 = some r) : Bp Tryz.prog 26 [.agg (EL.el a0)] (· = .s (.agg (EL.el r))) := by
 unfold Kr at h
 refine A2 Tryz.func26 rfl (nt := 40) rfl (Nbl rfl) ?_
 intro w0 S0
 refine Aq (Ab (Jj rfl rfl (B1 rfl Aq1 (Ar (Aq (Ab (sv rfl (Aa Api rfl) (sv rfl (Ae ti4 rfl (.lp _ _ _ rfl) rfl) (sv rfl (Bj Aq1 Auv (Ap rfl Ba) (.cons _ _ _ _ _ _ _ rfl rfl (Nbl rfl) (.nil _))) (B1 rfl Aq1 (Ax At4 rfl rfl rfl rfl (Nbl rfl) (Bu [.box (EL.el a0), .box [.b false, Znl], .box [.b a0.RO, Znl]] rfl (Ar (Aq (Aq (Ab (sv rfl (Ak rfl) (Ar ?_))))))))))))))))))
 refine Z3 89 8 2 1 (by decide) rfl rfl ?_
 refine G6 ((List B7)) (fun b1 => [(2, .s (.one (.lp 1 0))), (3, .s (.one (.lp 2 0)))]) (fun b1 => [.box (EL.el a0), .box [.b false, Znl], .box [.b a0.RO, .ls 3 b1.length], .arr 89 8 0 (b1.flatMap Cg)]) (fun b1 => Mv a0 b1 = some r) (fun _ _ => Be rfl) (fun _ _ => Az rfl) (fun _ _ => Nbl rfl) (fun b1 h => ?_) ?_
 ·unfold Mv at h
  refine Aq (Ab (sv rfl (Ao Am3 rfl (.lp _ _ _ rfl) (Nbl rfl)) (Ax At4 rfl rfl rfl rfl (Nbl rfl) (Bu [.box (EL.el a0), .box [.b a0.RO, .ls 3 b1.length], .box [.b a0.RO, .ls 3 b1.length], .arr 89 8 0 (b1.flatMap Cg)] rfl (Ar (Bk ?_))))))
  obtain rfl := SJ h
  refine ⟨Or.inr rfl, _, _, _, (Ad (Bd.agg _ _ _ _ _ Am3 rfl (.lp _ _ _ rfl) (Nbl rfl)) Af), (by (repeat' first | exact Kb.nil _ | apply Kb.cons | apply J4.one | apply J4.agg | exact E8.nil | exact E8.ls _ _ _ _ _ _ rfl (Bg (f := Cg) (fun _ => rfl) _).symm | exact E8.id _ rfl | exact D2.nil _ | apply D2.cons)), ?_⟩
  rfl
 ·skip
  refine B4 ?_
  obtain ⟨x2, hx2, ho2⟩ := Am h
  refine C2 (G := Nat × (Int × (List B7))) (fun g => [(1, .s (.one (.lp 0 0))), (2, .s (.one (.lp 1 0))), (3, .s (.one (.lp 2 0))), (4, .s (.one (Ii6 g.2.1)))]) (fun g => [.box (EL.el a0), .box [.b false, Znl], .box [.b a0.RO, .ls 3 g.2.2.length], .arr 89 8 0 (g.2.2.flatMap Cg)]) (fun g => Ej (Iu a0) g.1 g.2 = some x2) (fun g => g.1) (fuel, (0, ([] : List B7))) hx2 ⟨rfl, rfl, rfl, rfl, trivial⟩ [] rfl (fun _ _ => Be rfl) (fun _ _ => Az rfl) (fun _ _ => Nbl rfl) ?_
  clear hx2 h
  rintro ⟨n2, s2⟩ h
  obtain ⟨n2, y2, rfl, h, hk2⟩ := F5 h
  unfold Iu at h
  refine Aq (Aq (Ab (sv rfl (Ag rfl) (sv rfl (Aa Xw rfl) (sv rfl (Ae An6 rfl (.lp _ _ _ rfl) rfl) (sv rfl (A0 An3 rfl) (sv rfl (Cm rfl rfl) (Ar (ccI h rfl (fun h => ?_) (fun h => ?_))))))))))
  ·refine Bl (Ah (Aq (B4 (Aq (Ab (sv rfl (Aa Xw rfl) (sv rfl (Ae An6 rfl (.lp _ _ _ rfl) rfl) (sv rfl (Ag rfl) ?_))))))))
   obtain ⟨u3, hu3, h⟩ := Am h
   refine sv rfl (Dp (f := O6) An3 (fun _ => rfl) rfl rfl rfl rfl hu3) ?_
   refine sv rfl (C6 (ys := [Ii6 u3.What, Ii6 u3.A, Ii6 u3.B, Ii6 u3.N, .sl u3.Key.length (u3.Key.flatMap eU8), .sl u3.Rng.Lo.length (u3.Rng.Lo.flatMap eU8), .sl u3.Rng.Hi.length (u3.Rng.Hi.flatMap eU8), .b u3.Rng.Open]) Ar2 rfl (.cp _) rfl rfl) (B1 rfl As0 (Ax As3 rfl rfl rfl rfl (Nbl rfl) (Bu [.box (EL.el a0), .box [.b false, Znl], .box [.b a0.RO, .ls 3 s2.2.length], .arr 89 8 0 (s2.2.flatMap Cg), .box (EL.el u3)] rfl (Ar (Ab (sv rfl (Aa Sl rfl) (sv rfl (Ae Aim rfl (.lp _ _ _ rfl) rfl) (sv rfl (Aa Al5 rfl) (sv rfl (Ae ti3 rfl (.lp _ _ _ rfl) rfl) (sv rfl (Aa Al1 rfl) (sv rfl (Ae ti3 rfl (.lp _ _ _ rfl) rfl) (sv rfl (Aa Anz rfl) (sv rfl (Ae ti3 rfl (.lp _ _ _ rfl) rfl) (sv rfl (Aa Am4 rfl) (sv rfl (Ae ti3 rfl (.lp _ _ _ rfl) rfl) (sv rfl (Aa Ag7 rfl) (sv rfl (Ae L5 rfl (.lp _ _ _ rfl) rfl) (sv rfl (Aa Afq rfl) (sv rfl (Ao Ain rfl (.lp _ _ _ rfl) (Nbl rfl)) (sv rfl (Bj Apo Auf (Ap rfl (Ap rfl (Ap rfl (Ap rfl (Ap rfl (Ap rfl Ba)))))) (Ef [Ii6 u3.What, Ii6 0, Ii6 0, Ii6 0, Znl, Znl, Znl, .b false] rfl rfl (Nbl rfl) rfl (Ef [Ii6 u3.What, Ii6 u3.A, Ii6 0, Ii6 0, Znl, Znl, Znl, .b false] rfl rfl (Nbl rfl) rfl (Ef [Ii6 u3.What, Ii6 u3.A, Ii6 u3.B, Ii6 0, Znl, Znl, Znl, .b false] rfl rfl (Nbl rfl) rfl (Ef [Ii6 u3.What, Ii6 u3.A, Ii6 u3.B, Ii6 u3.N, Znl, Znl, Znl, .b false] rfl rfl (Nbl rfl) rfl (Ef [Ii6 u3.What, Ii6 u3.A, Ii6 u3.B, Ii6 u3.N, .sl u3.Key.length (u3.Key.flatMap eU8), Znl, Znl, .b false] rfl rfl (Nbl rfl) rfl (Ef [Ii6 u3.What, Ii6 u3.A, Ii6 u3.B, Ii6 u3.N, .sl u3.Key.length (u3.Key.flatMap eU8), .sl u3.Rng.Lo.length (u3.Rng.Lo.flatMap eU8), .sl u3.Rng.Hi.length (u3.Rng.Hi.flatMap eU8), .b u3.Rng.Open] rfl rfl (Nbl rfl) rfl (.nil _)))))))) ?_))))))))))))))))))))
   refine Rj rfl Tryz.underlying90 Asm rfl rfl (List.all_eq_true.1 rfl) (by decide) ?_
   refine Bu [.box (EL.el a0), .box [.b false, Znl], .box [.b a0.RO, .ls 3 s2.2.length], .arr 89 8 0 (s2.2.flatMap Cg), .box (EL.el u3), .arr 89 8 0 ([(B7.mk u3.What u3.A u3.B u3.N u3.Key u3.Rng)].flatMap Cg)] rfl ?_
   obtain ⟨hb4, h⟩ := D9 h
   refine Aif (f := Cg) (xs := s2.2) (us := [(B7.mk u3.What u3.A u3.B u3.N u3.Key u3.Rng)]) rfl Tryz.underlying90 Asm Awk (fun _ => rfl) rfl rfl (.one _ _ _ _ (.ls _ _ _ _ _ _ rfl (Bg (f := Cg) (fun _ => rfl) [(B7.mk u3.What u3.A u3.B u3.N u3.Key u3.Rng)]).symm)) rfl rfl rfl (.sl _ _ _ (Bg (f := Cg) (fun _ => rfl) _)) rfl rfl hb4 (by decide) ?_
   refine sv rfl (Aa Sl rfl) (Ax Avu rfl rfl rfl rfl (Nbl rfl) (Bu [.box (EL.el a0), .box [.b false, Znl], .box [.b a0.RO, .ls 3 (s2.2 ++ [(B7.mk u3.What u3.A u3.B u3.N u3.Key u3.Rng)]).length], .arr 89 8 0 ((s2.2 ++ [(B7.mk u3.What u3.A u3.B u3.N u3.Key u3.Rng)]).flatMap Cg), .box (EL.el u3), .arr 89 8 ([(B7.mk u3.What u3.A u3.B u3.N u3.Key u3.Rng)].flatMap Cg).length ([(B7.mk u3.What u3.A u3.B u3.N u3.Key u3.Rng)].flatMap Cg)] rfl (Lz (A1 (Ah (Ab (sv rfl (Ag rfl) (sv rfl (B0 rfl rfl) (sv rfl (Ak rfl) (Ar ?_))))))))))
   obtain rfl := SJ h
   exact ⟨(n2, ((wI (s2.1 + 1)), (s2.2 ++ [(B7.mk u3.What u3.A u3.B u3.N u3.Key u3.Rng)]))), _, hk2, ⟨rfl, rfl, rfl, rfl, trivial⟩, rfl, Nat.lt_succ_self _⟩
  ·refine Kn (Bh (Bh (Cd (Ah ?_))))
   obtain rfl := SJ h
   obtain rfl : _ = x2 := hk2
   exact ⟨s2.2, _, ho2, ⟨rfl, rfl, trivial⟩, rfl⟩
def Kp (a0 : Ai) : Option Ai :=
 (E1 a0).bind fun v1 => if (!v1) then (some Cy) else ((Fw a0.Phase).bind fun v2 => if v2 then (some a0) else ((Cq a0).bind fun v3 => some v3))
theorem Uf {a0 : Ai} {r : Ai} (h : Kp a0 = some r) : Bp Tryz.prog 27 [.agg (EL.el a0)] (· = .s (.agg (EL.el r))) := by
 unfold Kp at h
 refine A2 Tryz.func27 rfl (nt := 13) rfl (Nbl rfl) ?_
 intro w0 S0
 refine Aq (Ab (Jj rfl rfl (B1 rfl Nw (Ar (Aq (Aq (Ab (sv rfl (Ao B8 rfl (.lp _ _ _ rfl) (Nbl rfl)) ?_))))))))
 obtain ⟨v1, hv1, h⟩ := Am h
 refine A3 rfl An8 (Ac rfl Al) (Aj rfl) (Ht hv1) (sv rfl (Ca rfl) (Ar (ccI h rfl (fun h => ?_) (fun h => ?_))))
 ·refine Aq (Ab (sv rfl (Bj Nw Adn Ba (.nil _)) (Ax E7 rfl rfl rfl rfl (Nbl rfl) (Bu [.box (EL.el a0), .box Zba] rfl (Ar (Bk (Au ?_)))))))
  obtain rfl := SJ h
  refine ⟨Or.inr rfl, _, _, _, (Ad (Bd.agg _ _ _ _ _ B8 rfl (.lp _ _ _ rfl) (Nbl rfl)) Af), (Nt rfl), ?_⟩
  rfl
 ·refine Bl (Ah (Aq (Aq (Ab (sv rfl (Aa Hf rfl) (sv rfl (Ae ti3 rfl (.lp _ _ _ rfl) rfl) ?_))))))
  obtain ⟨v2, hv2, h⟩ := Am h
  refine A3 rfl Ao8 (Ac rfl Al) (Aj rfl) (Je hv2) (Ar (ccI h rfl (fun h => ?_) (fun h => ?_)))
  ·refine Aq (Ab (sv rfl (Ao B8 rfl (.lp _ _ _ rfl) (Nbl rfl)) (Ax E7 rfl rfl rfl rfl (Nbl rfl) (Bu [.box (EL.el a0), .box (EL.el a0)] rfl (Ar (Bk (Au ?_)))))))
   obtain rfl := SJ h
   refine ⟨Or.inr rfl, _, _, _, (Ad (Bd.agg _ _ _ _ _ B8 rfl (.lp _ _ _ rfl) (Nbl rfl)) Af), (Aj rfl), ?_⟩
   rfl
  ·refine Bl (Ah (Aq (Ab (sv rfl (Ao B8 rfl (.lp _ _ _ rfl) (Nbl rfl)) ?_))))
   obtain ⟨v3, hv3, h⟩ := Am h
   refine A3 rfl Ao0 (Ac rfl Al) (Aj rfl) (Fp hv3) (Ax E7 rfl rfl rfl rfl (Nbl rfl) (Bu [.box (EL.el a0), .box (EL.el v3)] rfl (Ar (Bk ?_))))
   obtain rfl := SJ h
   refine ⟨Or.inr rfl, _, _, _, (Ad (Bd.agg _ _ _ _ _ B8 rfl (.lp _ _ _ rfl) (Nbl rfl)) Af), (Aj rfl), ?_⟩
   rfl
def Ea (a0 : Ai) : Option Ai :=
 (Gx a0.Cfg.Plan (wI (a0.Sent + 1))).bind fun v1 => if (!v1.2) then ((Cq a0).bind fun v2 => some v2) else ((Es a0).bind fun v3 => if v3 then ((Cf a0).bind fun v4 => some v4) else ((Fj ({a0 with Sent := (wI (a0.Sent + 1)), Left := v1.1})).bind fun v5 => some v5))
theorem Ny {a0 : Ai} {r : Ai} (h : Ea a0 = some r) : Bp Tryz.prog 73 [.agg (EL.el a0)] (· = .s (.agg (EL.el r))) := by
 unfold Ea at h
 refine A2 Tryz.func73 rfl (nt := 33) rfl (Nbl rfl) ?_
 intro w0 S0
 refine Aq (Ab (Jj rfl rfl (B1 rfl Nw (Ar (Aq (Ab (sv rfl (Aa Q8 rfl) (sv rfl (Aa Wn rfl) (sv rfl (Ao Akl rfl (.lp _ _ _ rfl) (Nbl rfl)) (sv rfl (Aa Z4 rfl) (sv rfl (Ae ti3 rfl (.lp _ _ _ rfl) rfl) (sv rfl (B0 rfl rfl) ?_))))))))))))
 obtain ⟨v1, hv1, h⟩ := Am h
 refine A3 rfl Aqz (Ac rfl (Ac rfl Al)) (Aj rfl) (Lg hv1) (sv rfl (Gn rfl) (sv rfl (Bb rfl rfl) (sv rfl (Bb rfl rfl) (sv rfl (Ak rfl) (sv rfl (Ak rfl) (Ar (Aq (B4 (Aq (Ab (sv rfl (Ag rfl) (sv rfl (Ca rfl) (sv rfl (Ak rfl) (Ar (ccI h rfl (fun h => ?_) (fun h => ?_))))))))))))))))
 ·refine Aq (Ab (sv rfl (Ao B8 rfl (.lp _ _ _ rfl) (Nbl rfl)) ?_))
  obtain ⟨v2, hv2, h⟩ := Am h
  refine A3 rfl Ao0 (Ac rfl Al) (Aj rfl) (Fp hv2) (Ax E7 rfl rfl rfl rfl (Nbl rfl) (Bu [.box (EL.el a0), .box (EL.el v2)] rfl (Ar (Bk (Bc (Au ?_))))))
  obtain rfl := SJ h
  refine ⟨Or.inr rfl, _, _, _, (Ad (Bd.agg _ _ _ _ _ B8 rfl (.lp _ _ _ rfl) (Nbl rfl)) Af), (Aj rfl), ?_⟩
  rfl
 ·refine Aq (Ab (sv rfl (Ao B8 rfl (.lp _ _ _ rfl) (Nbl rfl)) ?_))
  obtain ⟨v3, hv3, h⟩ := Am h
  refine A3 rfl Auc (Ac rfl Al) (Aj rfl) (Me hv3) (sv rfl (Ak rfl) (Ar (ccI h rfl (fun h => ?_) (fun h => ?_))))
  ·refine Aq (Ab (sv rfl (Ao B8 rfl (.lp _ _ _ rfl) (Nbl rfl)) ?_))
   obtain ⟨v4, hv4, h⟩ := Am h
   refine A3 rfl Aml (Ac rfl Al) (Aj rfl) (Dg hv4) (Ax E7 rfl rfl rfl rfl (Nbl rfl) (Bu [.box (EL.el a0), .box (EL.el v4)] rfl (Ar (Bk (Bc (Au ?_))))))
   obtain rfl := SJ h
   refine ⟨Or.inr rfl, _, _, _, (Ad (Bd.agg _ _ _ _ _ B8 rfl (.lp _ _ _ rfl) (Nbl rfl)) Af), (Aj rfl), ?_⟩
   rfl
  ·refine Bl (A1 (Ah (Aq (Ab (sv rfl (Aa Z4 rfl) (sv rfl (Ae ti3 rfl (.lp _ _ _ rfl) rfl) (sv rfl (B0 rfl rfl) (sv rfl (Aa Z4 rfl) (Ax sz3 rfl rfl rfl rfl (Nbl rfl) (Bu [.box (EL.el {a0 with Sent := wI (a0.Sent + 1)}), .box Zba] rfl (Ar (Aq (Ab (sv rfl (Ag rfl) (sv rfl (Aa Q0 rfl) (Ax sz3 rfl rfl rfl rfl (Nbl rfl) (Bu [.box (EL.el {a0 with Sent := wI (a0.Sent + 1), Left := v1.1}), .box Zba] rfl (Ar (Aq (Ab (sv rfl (Ao B8 rfl (.lp _ _ _ rfl) (Nbl rfl)) ?_)))))))))))))))))))))
   obtain ⟨v5, hv5, h⟩ := Am h
   refine A3 rfl Aur (Ac rfl Al) (Aj rfl) (Mi hv5) (Ax E7 rfl rfl rfl rfl (Nbl rfl) (Bu [.box (EL.el {a0 with Sent := wI (a0.Sent + 1), Left := v1.1}), .box (EL.el v5)] rfl (Ar (Bk ?_))))
   obtain rfl := SJ h
   refine ⟨Or.inr rfl, _, _, _, (Ad (Bd.agg _ _ _ _ _ B8 rfl (.lp _ _ _ rfl) (Nbl rfl)) Af), (Aj rfl), ?_⟩
   rfl
def Gy (a0 : Ai) : Option Ai :=
 if (decide (a0.Phase = 8)) then ((Ec a0).bind fun v1 => some v1) else (if (decide (a0.Phase = 10)) then ((D4 a0).bind fun v2 => some v2) else ((Ea a0).bind fun v3 => some v3))
theorem P5 {a0 : Ai} {r : Ai} (h : Gy a0 = some r) : Bp Tryz.prog 38 [.agg (EL.el a0)] (· = .s (.agg (EL.el r))) := by
 unfold Gy at h
 refine A2 Tryz.func38 rfl (nt := 15) rfl (Nbl rfl) ?_
 intro w0 S0
 refine Aq (Ab (Jj rfl rfl (B1 rfl Nw (Ar (Aq (Aq (Ab (sv rfl (Aa Hf rfl) (sv rfl (Ae ti3 rfl (.lp _ _ _ rfl) rfl) (Ar (B4 (Aq (Ab (sv rfl (Br rfl rfl) (sv rfl (Ak rfl) (Ar (ccI h rfl (fun h => ?_) (fun h => ?_))))))))))))))))))
 ·refine Aq (Ab (sv rfl (Ao B8 rfl (.lp _ _ _ rfl) (Nbl rfl)) ?_))
  obtain ⟨v1, hv1, h⟩ := Am h
  refine A3 rfl Auo (Ac rfl Al) (Aj rfl) (L0 hv1) (Ax E7 rfl rfl rfl rfl (Nbl rfl) (Bu [.box (EL.el a0), .box (EL.el v1)] rfl (Ar (Bk (Bc (Au ?_))))))
  obtain rfl := SJ h
  refine ⟨Or.inr rfl, _, _, _, (Ad (Bd.agg _ _ _ _ _ B8 rfl (.lp _ _ _ rfl) (Nbl rfl)) Af), (Aj rfl), ?_⟩
  rfl
 ·refine Aq (Ab (sv rfl (Br rfl rfl) (sv rfl (Ak rfl) (Ar (ccI h rfl (fun h => ?_) (fun h => ?_))))))
  ·refine Aq (Ab (sv rfl (Ao B8 rfl (.lp _ _ _ rfl) (Nbl rfl)) ?_))
   obtain ⟨v2, hv2, h⟩ := Am h
   refine A3 rfl As6 (Ac rfl Al) (Aj rfl) (Js hv2) (Ax E7 rfl rfl rfl rfl (Nbl rfl) (Bu [.box (EL.el a0), .box (EL.el v2)] rfl (Ar (Bk (Bc (Au ?_))))))
   obtain rfl := SJ h
   refine ⟨Or.inr rfl, _, _, _, (Ad (Bd.agg _ _ _ _ _ B8 rfl (.lp _ _ _ rfl) (Nbl rfl)) Af), (Aj rfl), ?_⟩
   rfl
  ·refine Bl (A1 (Ah (Aq (Ab (sv rfl (Ao B8 rfl (.lp _ _ _ rfl) (Nbl rfl)) ?_)))))
   obtain ⟨v3, hv3, h⟩ := Am h
   refine A3 rfl Awi (Ac rfl Al) (Aj rfl) (Ny hv3) (Ax E7 rfl rfl rfl rfl (Nbl rfl) (Bu [.box (EL.el a0), .box (EL.el v3)] rfl (Ar (Bk ?_))))
   obtain rfl := SJ h
   refine ⟨Or.inr rfl, _, _, _, (Ad (Bd.agg _ _ _ _ _ B8 rfl (.lp _ _ _ rfl) (Nbl rfl)) Af), (Aj rfl), ?_⟩
   rfl
def Ki (b3 : Ai) : Option (Ai × Int) :=
 some (b3, 0)
def Kk (a0 : Ai) (a1 : Int) (b2 : Unit) : Option (Ai × Int) :=
 if (decide (a0.Left ≤ a1)) then ((Gy ({a0 with Left := (if (wI (a0.Left - a1)) > 0 then (wI (a0.Left - a1)) else 0)})).bind fun v4 => Ki v4) else (Ki ({a0 with Left := (if (wI (a0.Left - a1)) > 0 then (wI (a0.Left - a1)) else 0)}))
def Kh (a0 : Ai) (a1 : Int) (b1 : Unit) : Option (Ai × Int) :=
 if (decide (a0.Phase = 0)) then (some (a0, 0)) else ((Fw a0.Phase).bind fun v5 => if v5 then (some (a0, 0)) else (Kk a0 a1 ()))
def Hu (a0 : Ai) (a1 : Int) : Option (Ai × Int) :=
 (E1 a0).bind fun v6 => if (!v6) then (some (Cy, 1)) else ((Bz a1 0 1073741824).bind fun v7 => if (!v7) then (some (Cy, 1)) else (Kh a0 a1 ()))
theorem Ui {a0 : Ai} {a1 : Int} {r : Ai × Int} (h : Hu a0 a1 = some r) : Bp Tryz.prog 15 [.agg (EL.el a0), .one (Ii6 a1)] (· = .tup [.agg (EL.el r.1), .one (Ii6 r.2)]) := by
 unfold Hu at h
 refine A2 Tryz.func15 rfl (nt := 39) rfl (Nbl rfl) ?_
 intro w0 S0
 refine Aq (Ab (Jj rfl rfl (B1 rfl Nw (sv rfl (Ak rfl) (Ar (Aq (Aq (Lh (Unit) (fun b1 => [(1, .s (.one (Ii6 a1))), (2, .s (.one (.lp 0 0))), (4, .s (.one (.lp 1 0)))]) (fun b1 => [.box (EL.el a0), .box Zba]) (fun b1 => Kh a0 a1 b1 = some r) (fun _ _ => Be rfl) (fun _ _ => Az rfl) (fun _ _ => Nbl rfl) (fun b1 h => ?_) ?_))))))))
 ·unfold Kh at h
  refine Aq (Aq (Lh (Unit) (fun b2 => [(1, .s (.one (Ii6 a1))), (2, .s (.one (.lp 0 0))), (4, .s (.one (.lp 1 0)))]) (fun b2 => [.box (EL.el a0), .box Zba]) (fun b2 => Kk a0 a1 b2 = some r) (fun _ _ => Be rfl) (fun _ _ => Az rfl) (fun _ _ => Nbl rfl) (fun b2 h => ?_) ?_))
  ·unfold Kk at h
   refine Aq (Ab (sv rfl (Aa Q0 rfl) (sv rfl (Ae ti3 rfl (.lp _ _ _ rfl) rfl) (sv rfl (Ag rfl) (sv rfl (F3 rfl rfl) (sv rfl (Ak rfl) (Ar (Aq (Ab (sv rfl (Aa Q0 rfl) (sv rfl (Ae ti3 rfl (.lp _ _ _ rfl) rfl) (sv rfl (Ag rfl) (sv rfl (M1 rfl rfl) (sv rfl (Ag3 rfl rfl) (sv rfl (Aa Q0 rfl) (Ax sz3 rfl rfl rfl rfl (Nbl rfl) (Bu [.box (EL.el {a0 with Left := if (wI (a0.Left - a1)) > 0 then (wI (a0.Left - a1)) else 0}), .box Zba] rfl (Ar (Aq (Aq (Ab (sv rfl (Ag rfl) (Ar (G6 (Ai) (fun b3 => [(2, .s (.one (.lp 0 0))), (4, .s (.one (.lp 1 0)))]) (fun b3 => [.box (EL.el b3), .box Zba]) (fun b3 => Ki b3 = some r) (fun _ _ => Be rfl) (fun _ _ => Az rfl) (fun _ _ => Nbl rfl) (fun b3 h => ?_) ?_))))))))))))))))))))))))
   ·unfold Ki at h
    refine Aq (Ab (sv rfl (Ao B8 rfl (.lp _ _ _ rfl) (Nbl rfl)) (Ax E7 rfl rfl rfl rfl (Nbl rfl) (Bu [.box (EL.el b3), .box (EL.el b3)] rfl (sv rfl (Ak rfl) (Ar (Bk ?_)))))))
    obtain rfl := SJ h
    refine ⟨Or.inr rfl, _, _, _, (Ad (Bd.agg _ _ _ _ _ B8 rfl (.lp _ _ _ rfl) (Nbl rfl)) (Ad (Bd.tmp _ _ rfl) Af)), (Aj rfl), ?_⟩
    rfl
   ·skip
    refine ccI h rfl (fun h => ?_) (fun h => ?_)
    ·refine Ab (sv rfl (Ao B8 rfl (.lp _ _ _ rfl) (Nbl rfl)) ?_)
     obtain ⟨v4, hv4, h⟩ := Am h
     refine A3 rfl Aux (Ac rfl Al) (Aj rfl) (P5 hv4) (Ax E7 rfl rfl rfl rfl (Nbl rfl) (Bu [.box (EL.el v4), .box Zba] rfl (Ar ?_)))
     exact ⟨v4, _, h, ⟨rfl, rfl, trivial⟩, rfl⟩
    ·refine Bl (Ah ?_)
     exact ⟨{a0 with Left := (if (wI (a0.Left - a1)) > 0 then (wI (a0.Left - a1)) else 0)}, _, h, ⟨rfl, rfl, trivial⟩, rfl⟩
  ·skip
   refine Ab (sv rfl (Aa Hf rfl) (sv rfl (Ae ti3 rfl (.lp _ _ _ rfl) rfl) (sv rfl (Br rfl rfl) (sv rfl (Ag rfl) (Bq 19 rfl (fun hc => ?_) (fun hc => ?_))))))
   ·replace h := B2 hc h
    clear hc
    refine Aw rfl rfl rfl rfl (Aw rfl rfl rfl rfl (Aw rfl rfl rfl rfl (sv rfl (Av rfl rfl) (Ar (Hq rfl (fun _ => ?_) (fun hx => Bool.noConfusion hx))))))
    refine Aq (Ab (sv rfl (Ao B8 rfl (.lp _ _ _ rfl) (Nbl rfl)) (Ax E7 rfl rfl rfl rfl (Nbl rfl) (Bu [.box (EL.el a0), .box (EL.el a0)] rfl (sv rfl (Ak rfl) (Ar (Bk (Au ?_))))))))
    obtain rfl := SJ h
    refine ⟨Or.inr rfl, _, _, _, (Ad (Bd.agg _ _ _ _ _ B8 rfl (.lp _ _ _ rfl) (Nbl rfl)) (Ad (Bd.tmp _ _ rfl) Af)), (Aj rfl), ?_⟩
    rfl
   ·replace h := B3 hc h
    clear hc
    refine son rfl rfl rfl (sv rfl (Aa Hf rfl) (son rfl rfl rfl (sv rfl (Ae ti3 rfl (.lp _ _ _ rfl) rfl) (son rfl rfl rfl ?_))))
    obtain ⟨v5, hv5, h⟩ := Am h
    refine A3 rfl Ao8 (Ac rfl Al) (Aj rfl) (Je hv5) (sv rfl (An rfl rfl) (Ar (ccI h rfl (fun h => ?_) (fun h => ?_))))
    ·refine Aq (Ab (sv rfl (Ao B8 rfl (.lp _ _ _ rfl) (Nbl rfl)) (Ax E7 rfl rfl rfl rfl (Nbl rfl) (Bu [.box (EL.el a0), .box (EL.el a0)] rfl (sv rfl (Ak rfl) (Ar (Bk (Au ?_))))))))
     obtain rfl := SJ h
     refine ⟨Or.inr rfl, _, _, _, (Ad (Bd.agg _ _ _ _ _ B8 rfl (.lp _ _ _ rfl) (Nbl rfl)) (Ad (Bd.tmp _ _ rfl) Af)), (Aj rfl), ?_⟩
     rfl
    ·refine Bl (Ah ?_)
     exact ⟨(), _, h, ⟨rfl, rfl, rfl, trivial⟩, rfl⟩
 ·skip
  refine Ab (sv rfl (Ao B8 rfl (.lp _ _ _ rfl) (Nbl rfl)) ?_)
  obtain ⟨v6, hv6, h⟩ := Am h
  refine A3 rfl An8 (Ac rfl Al) (Aj rfl) (Ht hv6) (sv rfl (Ca rfl) (sv rfl (Ag rfl) (Bq 10 rfl (fun hc => ?_) (fun hc => ?_))))
  ·replace h := B2 hc h
   clear hc
   refine Aw rfl rfl rfl rfl (Aw rfl rfl rfl rfl (Aw rfl rfl rfl rfl (sv rfl (Av rfl rfl) (Ar (Hq rfl (fun _ => ?_) (fun hx => Bool.noConfusion hx))))))
   refine Aq (Ab (sv rfl (Bj Nw Adn Ba (.nil _)) (Ax E7 rfl rfl rfl rfl (Nbl rfl) (Bu [.box (EL.el a0), .box Zba] rfl (sv rfl (Ak rfl) (Ar (Bk (Au ?_))))))))
   obtain rfl := SJ h
   refine ⟨Or.inr rfl, _, _, _, (Ad (Bd.agg _ _ _ _ _ B8 rfl (.lp _ _ _ rfl) (Nbl rfl)) (Ad (Bd.tmp _ _ rfl) Af)), (Nt rfl), ?_⟩
   rfl
  ·replace h := B3 hc h
   clear hc
   refine son rfl rfl rfl (sv rfl (Ag rfl) (son rfl rfl rfl ?_))
   obtain ⟨v7, hv7, h⟩ := Am h
   refine A3 rfl Ae3 (Ac rfl (Ac rfl (Ac rfl Al))) (Aj rfl) (Ck hv7) (son rfl rfl rfl (sv rfl (Ca rfl) (sv rfl (An rfl rfl) (Ar (ccI h rfl (fun h => ?_) (fun h => ?_))))))
   ·refine Aq (Ab (sv rfl (Bj Nw Adn Ba (.nil _)) (Ax E7 rfl rfl rfl rfl (Nbl rfl) (Bu [.box (EL.el a0), .box Zba] rfl (sv rfl (Ak rfl) (Ar (Bk (Au ?_))))))))
    obtain rfl := SJ h
    refine ⟨Or.inr rfl, _, _, _, (Ad (Bd.agg _ _ _ _ _ B8 rfl (.lp _ _ _ rfl) (Nbl rfl)) (Ad (Bd.tmp _ _ rfl) Af)), (Nt rfl), ?_⟩
    rfl
   ·refine Bl (Ah ?_)
    exact ⟨(), _, h, ⟨rfl, rfl, rfl, trivial⟩, rfl⟩
def J6 (a0 : Ai) : Option (Ai × (List UInt8)) :=
 (E1 a0).bind fun v1 => if (!v1) then (some (Cy, ([] : List UInt8))) else (some ({a0 with Out := ([] : List UInt8)}, a0.Out))
theorem T9 {a0 : Ai} {r : Ai × (List UInt8)} (h : J6 a0 = some r) : Bp Tryz.prog 28 [.agg (EL.el a0)] (· = .tup [.agg (EL.el r.1), .one (.sl r.2.length (r.2.flatMap eU8))]) := by
 unfold J6 at h
 refine A2 Tryz.func28 rfl (nt := 14) rfl (Nbl rfl) ?_
 intro w0 S0
 refine Aq (Ab (Jj rfl rfl (B1 rfl Nw (sv rfl (Ak rfl) (Ar (Aq (Aq (Ab (sv rfl (Ao B8 rfl (.lp _ _ _ rfl) (Nbl rfl)) ?_)))))))))
 obtain ⟨v1, hv1, h⟩ := Am h
 refine A3 rfl An8 (Ac rfl Al) (Aj rfl) (Ht hv1) (sv rfl (Ca rfl) (Ar (ccI h rfl (fun h => ?_) (fun h => ?_))))
 ·refine Aq (Ab (sv rfl (Bj Nw Adn Ba (.nil _)) (Ax E7 rfl rfl rfl rfl (Nbl rfl) (Bu [.box (EL.el a0), .box Zba] rfl (sv rfl (Ak rfl) (Ar (Bk (Au ?_))))))))
  obtain rfl := SJ h
  refine ⟨Or.inr rfl, _, _, _, (Ad (Bd.agg _ _ _ _ _ B8 rfl (.lp _ _ _ rfl) (Nbl rfl)) (Ad (Bd.tmp _ _ rfl) Af)), (Nt rfl), ?_⟩
  rfl
 ·refine Bl (Ah (Aq (Ab (sv rfl (Aa Rf rfl) (sv rfl (Ae L5 rfl (.lp _ _ _ rfl) rfl) (sv rfl (Ak rfl) (Ar (Aq (Ab (sv rfl (Aa Rf rfl) (Ax Aow rfl rfl rfl rfl (Nbl rfl) (Bu [.box ((EL.el a0).set 37 (Znl)), .box Zba] rfl (Ar (Aq (Ab (sv rfl (Ao B8 rfl (.lp _ _ _ rfl) (Nbl rfl)) (sv rfl (Ag rfl) (Ax E7 rfl rfl rfl rfl (Nbl rfl) (Bu [.box ((EL.el a0).set 37 (Znl)), .box ((EL.el a0).set 37 (Znl))] rfl (sv rfl (Ak rfl) (Ar (Bk ?_))))))))))))))))))))))
  obtain rfl := SJ h
  refine ⟨Or.inr rfl, _, _, _, (Ad (Bd.agg _ _ _ _ _ B8 rfl (.lp _ _ _ rfl) (Nbl rfl)) (Ad (Bd.tmp _ _ rfl) Af)), (Nt rfl), ?_⟩
  rfl
def Nm (a0 : Ai) (a1 : Ja) : Option Ai :=
 if (decide (a1.What ≤ 1)) then ((Kr a1.Task.Prog).bind fun v1 => (Dl a0 (As.mk a1.Task.Token v1)).bind fun v2 => if (decide (v2.2 = 0)) then (some v2.1) else (some a0)) else (if (decide (a1.What = 2)) then ((Em a0).bind fun v3 => if (decide (v3.2 = 0)) then (some v3.1) else (some a0)) else (if (decide (a1.What = 3)) then ((Kp a0).bind fun v4 => some v4) else (if (decide (a1.What ≤ 8)) then ((F1 a0 a1.Reply).bind fun v5 => (H2 a0 v5).bind fun v6 => some v6) else (if (decide (a1.What = 9)) then ((H2 a0 a1.Bytes).bind fun v7 => some v7) else (if (decide (a1.What ≤ 11)) then ((Hu a0 a1.N).bind fun v8 => if (decide (v8.2 = 0)) then (some v8.1) else (some a0)) else ((J6 a0).bind fun v9 => some v9.1))))))
theorem Xj {a0 : Ai} {a1 : Ja} {r : Ai} (h : Nm a0 a1 = some r) : Bp Tryz.prog 11 [.agg (EL.el a0), .agg (EL.el a1)] (· = .s (.agg (EL.el r))) := by
 unfold Nm at h
 refine A2 Tryz.func11 rfl (nt := 92) rfl (Nbl rfl) ?_
 intro w0 S0
 refine Aq (Ab (Jj rfl rfl (Jj rfl rfl (B1 rfl Nw (Ar (Aq (B4 (Aq (Ab (sv rfl (Aa Xr rfl) (sv rfl (Ae ti3 rfl (.lp _ _ _ rfl) rfl) (sv rfl (F3 rfl rfl) (sv rfl (Ak rfl) (Ar (ccI h rfl (fun h => ?_) (fun h => ?_))))))))))))))))
 ·refine Aq (Aet ?_)
  obtain ⟨v1, hv1, h⟩ := Am h
  obtain ⟨v2, hv2, h⟩ := Am h
  refine Ke [13, 14] [0, 0, 2, 6, 0, 16, 48, 112, 254, 511, 1023, 2047, 2047, 0, 12287, 32767] [[.box (EL.el a0), .box (EL.el a1), .box Zba, .hole], [.box (EL.el a0), .box (EL.el a1), .box Zba, .box Zba], [.box (EL.el a0), .box (EL.el a1), .box Zba, .box (EL.el v2.1)]] (by kernel_rfl) Lm (by kernel_rfl) (by decide) rfl rfl rfl rfl ?_
  refine ev (B5 (md := [.box (EL.el a0), .box (EL.el a1), .box Zba, .dead]) ⟨⟨rfl, ⟨rfl, ⟨rfl, ⟨trivial, trivial⟩⟩⟩⟩, ⟨⟨rfl, ⟨rfl, ⟨rfl, ⟨trivial, trivial⟩⟩⟩⟩, ⟨⟨rfl, ⟨rfl, ⟨rfl, ⟨trivial, trivial⟩⟩⟩⟩, trivial⟩⟩⟩) rfl rfl (Ao B8 rfl (.lp _ _ _ rfl) (Nbl rfl)) (ev (B5 (md := [.box (EL.el a0), .box (EL.el a1), .box Zba, .dead]) ⟨⟨rfl, ⟨rfl, ⟨rfl, ⟨trivial, trivial⟩⟩⟩⟩, ⟨⟨rfl, ⟨rfl, ⟨rfl, ⟨trivial, trivial⟩⟩⟩⟩, ⟨⟨rfl, ⟨rfl, ⟨rfl, ⟨trivial, trivial⟩⟩⟩⟩, trivial⟩⟩⟩) rfl rfl (Aa Adj rfl) (ev (B5 (md := [.box (EL.el a0), .box (EL.el a1), .box Zba, .dead]) ⟨⟨rfl, ⟨rfl, ⟨rfl, ⟨trivial, trivial⟩⟩⟩⟩, ⟨⟨rfl, ⟨rfl, ⟨rfl, ⟨trivial, trivial⟩⟩⟩⟩, ⟨⟨rfl, ⟨rfl, ⟨rfl, ⟨trivial, trivial⟩⟩⟩⟩, trivial⟩⟩⟩) rfl rfl (Aa Ak1 rfl) (ev (B5 (md := [.box (EL.el a0), .box (EL.el a1), .box Zba, .dead]) ⟨⟨rfl, ⟨rfl, ⟨rfl, ⟨trivial, trivial⟩⟩⟩⟩, ⟨⟨rfl, ⟨rfl, ⟨rfl, ⟨trivial, trivial⟩⟩⟩⟩, ⟨⟨rfl, ⟨rfl, ⟨rfl, ⟨trivial, trivial⟩⟩⟩⟩, trivial⟩⟩⟩) rfl rfl (Ae ti3 rfl (.lp _ _ _ rfl) rfl) (ev (B5 (md := [.box (EL.el a0), .box (EL.el a1), .box Zba, .dead]) ⟨⟨rfl, ⟨rfl, ⟨rfl, ⟨trivial, trivial⟩⟩⟩⟩, ⟨⟨rfl, ⟨rfl, ⟨rfl, ⟨trivial, trivial⟩⟩⟩⟩, ⟨⟨rfl, ⟨rfl, ⟨rfl, ⟨trivial, trivial⟩⟩⟩⟩, trivial⟩⟩⟩) rfl rfl (Aa Adj rfl) (ev (B5 (md := [.box (EL.el a0), .box (EL.el a1), .box Zba, .dead]) ⟨⟨rfl, ⟨rfl, ⟨rfl, ⟨trivial, trivial⟩⟩⟩⟩, ⟨⟨rfl, ⟨rfl, ⟨rfl, ⟨trivial, trivial⟩⟩⟩⟩, ⟨⟨rfl, ⟨rfl, ⟨rfl, ⟨trivial, trivial⟩⟩⟩⟩, trivial⟩⟩⟩) rfl rfl (Aa Akp rfl) (ev (B5 (md := [.box (EL.el a0), .box (EL.el a1), .box Zba, .dead]) ⟨⟨rfl, ⟨rfl, ⟨rfl, ⟨trivial, trivial⟩⟩⟩⟩, ⟨⟨rfl, ⟨rfl, ⟨rfl, ⟨trivial, trivial⟩⟩⟩⟩, ⟨⟨rfl, ⟨rfl, ⟨rfl, ⟨trivial, trivial⟩⟩⟩⟩, trivial⟩⟩⟩) rfl rfl (Ao Atz rfl (.lp _ _ _ rfl) (Nbl rfl)) (ed (B5 (md := [.box (EL.el a0), .box (EL.el a1), .box Zba, .dead]) ⟨⟨rfl, ⟨rfl, ⟨rfl, ⟨trivial, trivial⟩⟩⟩⟩, ⟨⟨rfl, ⟨rfl, ⟨rfl, ⟨trivial, trivial⟩⟩⟩⟩, ⟨⟨rfl, ⟨rfl, ⟨rfl, ⟨trivial, trivial⟩⟩⟩⟩, trivial⟩⟩⟩) rfl rfl (D3 Av4 (Ac rfl Al) rfl (Um hv1)) (ev (B5 (md := [.box (EL.el a0), .box (EL.el a1), .box Zba, .dead]) ⟨⟨rfl, ⟨rfl, ⟨rfl, ⟨trivial, trivial⟩⟩⟩⟩, ⟨⟨rfl, ⟨rfl, ⟨rfl, ⟨trivial, trivial⟩⟩⟩⟩, ⟨⟨rfl, ⟨rfl, ⟨rfl, ⟨trivial, trivial⟩⟩⟩⟩, trivial⟩⟩⟩) rfl rfl (Bj An2 Aub (Ap rfl (Ap rfl Ba)) (.cons _ _ _ _ _ _ _ rfl rfl (Nbl rfl) (.cons _ _ _ _ _ _ _ rfl rfl (Nbl rfl) (.nil _)))) (ed (B5 (md := [.box (EL.el a0), .box (EL.el a1), .box Zba, .dead]) ⟨⟨rfl, ⟨rfl, ⟨rfl, ⟨trivial, trivial⟩⟩⟩⟩, ⟨⟨rfl, ⟨rfl, ⟨rfl, ⟨trivial, trivial⟩⟩⟩⟩, ⟨⟨rfl, ⟨rfl, ⟨rfl, ⟨trivial, trivial⟩⟩⟩⟩, trivial⟩⟩⟩) rfl rfl (D3 At6 (Ac rfl (Ac rfl Al)) rfl (N8 hv2)) (emv rfl rfl (fun _ => Gn rfl) ?_))))))))))
  refine ev (B5 (md := [.box (EL.el a0), .box (EL.el a1), .box Zba, .dead]) ⟨⟨rfl, ⟨rfl, ⟨rfl, ⟨trivial, trivial⟩⟩⟩⟩, ⟨⟨rfl, ⟨rfl, ⟨rfl, ⟨trivial, trivial⟩⟩⟩⟩, ⟨⟨rfl, ⟨rfl, ⟨rfl, ⟨trivial, trivial⟩⟩⟩⟩, trivial⟩⟩⟩) rfl rfl (Bb rfl rfl) (ev (B5 (md := [.box (EL.el a0), .box (EL.el a1), .box Zba, .dead]) ⟨⟨rfl, ⟨rfl, ⟨rfl, ⟨trivial, trivial⟩⟩⟩⟩, ⟨⟨rfl, ⟨rfl, ⟨rfl, ⟨trivial, trivial⟩⟩⟩⟩, ⟨⟨rfl, ⟨rfl, ⟨rfl, ⟨trivial, trivial⟩⟩⟩⟩, trivial⟩⟩⟩) rfl rfl (Bb rfl rfl) (ee (x := .s (.one (.lp 3 0))) 0 rfl rfl rfl rfl rfl (fun ζ => ?_) ?_))
  ·refine Nk 3 rfl Nw rfl ?_
   exact Sk
  refine ee0 1 rfl rfl rfl rfl (fun ζ => ?_) ?_
  ·refine Ax E7 rfl rfl rfl rfl (Nbl rfl) (Bu [.box (EL.el a0), .box (EL.el a1), .box Zba, .box (EL.el v2.1)] rfl ?_)
   exact Sk
  refine ev (Bi 2 rfl rfl) rfl rfl (Ak rfl) (Y9 (Ah (Aq (Aq (Ab (sv rfl (Ag rfl) (sv rfl (Br rfl rfl) (Ar (ccI h rfl (fun h => ?_) (fun h => ?_))))))))))
  ·refine Aq (Ab (sv rfl (Ao B8 rfl (.lp _ _ _ rfl) (Nbl rfl)) (Ax E7 rfl rfl rfl rfl (Nbl rfl) (Bu [.box (EL.el a0), .box (EL.el a1), .box (EL.el v2.1), .box (EL.el v2.1)] rfl (Ar (Bk (Au (Bc (Au ?_)))))))))
   obtain rfl := SJ h
   refine ⟨Or.inr rfl, _, _, _, (Ad (Bd.agg _ _ _ _ _ B8 rfl (.lp _ _ _ rfl) (Nbl rfl)) Af), (Aj rfl), ?_⟩
   rfl
  ·refine Bl (Ah (Aq (Ab (sv rfl (Ao B8 rfl (.lp _ _ _ rfl) (Nbl rfl)) (Ax E7 rfl rfl rfl rfl (Nbl rfl) (Bu [.box (EL.el a0), .box (EL.el a1), .box (EL.el a0), .box (EL.el v2.1)] rfl (Ar (Bk (Bc (Au ?_))))))))))
   obtain rfl := SJ h
   refine ⟨Or.inr rfl, _, _, _, (Ad (Bd.agg _ _ _ _ _ B8 rfl (.lp _ _ _ rfl) (Nbl rfl)) Af), (Aj rfl), ?_⟩
   rfl
 ·refine Aq (Ab (sv rfl (Aa Xr rfl) (sv rfl (Ae ti3 rfl (.lp _ _ _ rfl) rfl) (sv rfl (Br rfl rfl) (sv rfl (Ak rfl) (Ar (ccI h rfl (fun h => ?_) (fun h => ?_))))))))
  ·refine Aq (Ab (sv rfl (Ao B8 rfl (.lp _ _ _ rfl) (Nbl rfl)) ?_))
   obtain ⟨v3, hv3, h⟩ := Am h
   refine A3 rfl Aui (Ac rfl Al) (Aj rfl) (My hv3) (sv rfl (Gn rfl) (sv rfl (Bb rfl rfl) (sv rfl (Bb rfl rfl) (B1 rfl Nw (Ax E7 rfl rfl rfl rfl (Nbl rfl) (Bu [.box (EL.el a0), .box (EL.el a1), .box Zba, .box (EL.el v3.1)] rfl (sv rfl (Ak rfl) (Ar (Aq (Aq (Ab (sv rfl (Ag rfl) (sv rfl (Br rfl rfl) (Ar (ccI h rfl (fun h => ?_) (fun h => ?_))))))))))))))))
   ·refine Aq (Ab (sv rfl (Ao B8 rfl (.lp _ _ _ rfl) (Nbl rfl)) (Ax E7 rfl rfl rfl rfl (Nbl rfl) (Bu [.box (EL.el a0), .box (EL.el a1), .box (EL.el v3.1), .box (EL.el v3.1)] rfl (Ar (Bk (Au (Bc (Au ?_)))))))))
    obtain rfl := SJ h
    refine ⟨Or.inr rfl, _, _, _, (Ad (Bd.agg _ _ _ _ _ B8 rfl (.lp _ _ _ rfl) (Nbl rfl)) Af), (Aj rfl), ?_⟩
    rfl
   ·refine Bl (Ah (Aq (Ab (sv rfl (Ao B8 rfl (.lp _ _ _ rfl) (Nbl rfl)) (Ax E7 rfl rfl rfl rfl (Nbl rfl) (Bu [.box (EL.el a0), .box (EL.el a1), .box (EL.el a0), .box (EL.el v3.1)] rfl (Ar (Bk (Bc (Au ?_))))))))))
    obtain rfl := SJ h
    refine ⟨Or.inr rfl, _, _, _, (Ad (Bd.agg _ _ _ _ _ B8 rfl (.lp _ _ _ rfl) (Nbl rfl)) Af), (Aj rfl), ?_⟩
    rfl
  ·refine Aq (Ab (sv rfl (Aa Xr rfl) (sv rfl (Ae ti3 rfl (.lp _ _ _ rfl) rfl) (sv rfl (Br rfl rfl) (sv rfl (Ak rfl) (Ar (ccI h rfl (fun h => ?_) (fun h => ?_))))))))
   ·refine Aq (Ab (sv rfl (Ao B8 rfl (.lp _ _ _ rfl) (Nbl rfl)) ?_))
    obtain ⟨v4, hv4, h⟩ := Am h
    refine A3 rfl Au5 (Ac rfl Al) (Aj rfl) (Uf hv4) (Ax E7 rfl rfl rfl rfl (Nbl rfl) (Bu [.box (EL.el a0), .box (EL.el a1), .box (EL.el v4)] rfl (Ar (Bk (Bc (Au ?_))))))
    obtain rfl := SJ h
    refine ⟨Or.inr rfl, _, _, _, (Ad (Bd.agg _ _ _ _ _ B8 rfl (.lp _ _ _ rfl) (Nbl rfl)) Af), (Aj rfl), ?_⟩
    rfl
   ·refine Aq (Ab (sv rfl (Aa Xr rfl) (sv rfl (Ae ti3 rfl (.lp _ _ _ rfl) rfl) (sv rfl (F3 rfl rfl) (sv rfl (Ak rfl) (Ar (ccI h rfl (fun h => ?_) (fun h => ?_))))))))
    ·refine Aq ?_
     obtain ⟨v5, hv5, h⟩ := Am h
     obtain ⟨v6, hv6, h⟩ := Am h
     refine Ke [6] [0, 0, 0, 4, 14, 31, 63] [[.box (EL.el a0), .box (EL.el a1), .box Zba], [.box (EL.el a0), .box (EL.el a1), .box (EL.el v6)]] (by kernel_rfl) Lm (by kernel_rfl) (by decide) rfl rfl rfl rfl ?_
     refine ev (Bi 0 rfl rfl) rfl rfl (Ao B8 rfl (.lp _ _ _ rfl) (Nbl rfl)) (ev (Bi 0 rfl rfl) rfl rfl (Ao B8 rfl (.lp _ _ _ rfl) (Nbl rfl)) (ev (Bi 0 rfl rfl) rfl rfl (Aa Ak9 rfl) (ev (Bi 0 rfl rfl) rfl rfl (Ao At1 rfl (.lp _ _ _ rfl) (Nbl rfl)) (ed (Bi 0 rfl rfl) rfl rfl (D3 At5 (Ac rfl (Ac rfl Al)) rfl (Ow hv5)) (ed (Bi 0 rfl rfl) rfl rfl (D3 Ata (Ac rfl (Ac rfl Al)) rfl (Nb hv6)) (ee0 0 rfl rfl rfl rfl (fun ζ => ?_) ?_))))))
     ·refine Ax E7 rfl rfl rfl rfl (Nbl rfl) (Bu [.box (EL.el a0), .box (EL.el a1), .box (EL.el v6)] rfl ?_)
      exact Sk
     refine Y9 (Ah (Bk (Bc (Au ?_))))
     obtain rfl := SJ h
     refine ⟨Or.inr rfl, _, _, _, (Ad (Bd.agg _ _ _ _ _ B8 rfl (.lp _ _ _ rfl) (Nbl rfl)) Af), (Aj rfl), ?_⟩
     rfl
    ·refine Aq (Ab (sv rfl (Aa Xr rfl) (sv rfl (Ae ti3 rfl (.lp _ _ _ rfl) rfl) (sv rfl (Br rfl rfl) (sv rfl (Ak rfl) (Ar (ccI h rfl (fun h => ?_) (fun h => ?_))))))))
     ·refine Aq (Ab (sv rfl (Ao B8 rfl (.lp _ _ _ rfl) (Nbl rfl)) (sv rfl (Aa Akm rfl) (sv rfl (Ae L5 rfl (.lp _ _ _ rfl) rfl) ?_))))
      obtain ⟨v7, hv7, h⟩ := Am h
      refine A3 rfl Ata (Ac rfl (Ac rfl Al)) (Aj rfl) (Nb hv7) (Ax E7 rfl rfl rfl rfl (Nbl rfl) (Bu [.box (EL.el a0), .box (EL.el a1), .box (EL.el v7)] rfl (Ar (Bk (Bc (Au ?_))))))
      obtain rfl := SJ h
      refine ⟨Or.inr rfl, _, _, _, (Ad (Bd.agg _ _ _ _ _ B8 rfl (.lp _ _ _ rfl) (Nbl rfl)) Af), (Aj rfl), ?_⟩
      rfl
     ·refine Aq (Ab (sv rfl (Aa Xr rfl) (sv rfl (Ae ti3 rfl (.lp _ _ _ rfl) rfl) (sv rfl (F3 rfl rfl) (sv rfl (Ak rfl) (Ar (ccI h rfl (fun h => ?_) (fun h => ?_))))))))
      ·refine Aq (Ab (sv rfl (Ao B8 rfl (.lp _ _ _ rfl) (Nbl rfl)) (sv rfl (Aa Aqf rfl) (sv rfl (Ae ti3 rfl (.lp _ _ _ rfl) rfl) ?_))))
       obtain ⟨v8, hv8, h⟩ := Am h
       refine A3 rfl Awb (Ac rfl (Ac rfl Al)) (Aj rfl) (Ui hv8) (sv rfl (Gn rfl) (sv rfl (Bb rfl rfl) (sv rfl (Bb rfl rfl) (B1 rfl Nw (Ax E7 rfl rfl rfl rfl (Nbl rfl) (Bu [.box (EL.el a0), .box (EL.el a1), .box Zba, .box (EL.el v8.1)] rfl (sv rfl (Ak rfl) (Ar (Aq (Aq (Ab (sv rfl (Ag rfl) (sv rfl (Br rfl rfl) (Ar (ccI h rfl (fun h => ?_) (fun h => ?_))))))))))))))))
       ·refine Aq (Ab (sv rfl (Ao B8 rfl (.lp _ _ _ rfl) (Nbl rfl)) (Ax E7 rfl rfl rfl rfl (Nbl rfl) (Bu [.box (EL.el a0), .box (EL.el a1), .box (EL.el v8.1), .box (EL.el v8.1)] rfl (Ar (Bk (Au (Bc (Au ?_)))))))))
        obtain rfl := SJ h
        refine ⟨Or.inr rfl, _, _, _, (Ad (Bd.agg _ _ _ _ _ B8 rfl (.lp _ _ _ rfl) (Nbl rfl)) Af), (Aj rfl), ?_⟩
        rfl
       ·refine Bl (Ah (Aq (Ab (sv rfl (Ao B8 rfl (.lp _ _ _ rfl) (Nbl rfl)) (Ax E7 rfl rfl rfl rfl (Nbl rfl) (Bu [.box (EL.el a0), .box (EL.el a1), .box (EL.el a0), .box (EL.el v8.1)] rfl (Ar (Bk (Bc (Au ?_))))))))))
        obtain rfl := SJ h
        refine ⟨Or.inr rfl, _, _, _, (Ad (Bd.agg _ _ _ _ _ B8 rfl (.lp _ _ _ rfl) (Nbl rfl)) Af), (Aj rfl), ?_⟩
        rfl
      ·refine Bl (A1 (Ah (Aq (Ab (sv rfl (Ao B8 rfl (.lp _ _ _ rfl) (Nbl rfl)) ?_)))))
       obtain ⟨v9, hv9, h⟩ := Am h
       refine A3 rfl Avi (Ac rfl Al) (Aj rfl) (T9 hv9) (sv rfl (Gn rfl) (sv rfl (Bb rfl rfl) (sv rfl (Bb rfl rfl) (B1 rfl Nw (Ax E7 rfl rfl rfl rfl (Nbl rfl) (Bu [.box (EL.el a0), .box (EL.el a1), .box Zba, .box (EL.el v9.1)] rfl (sv rfl (Ak rfl) (Ar (Aq (Ab (sv rfl (Ao B8 rfl (.lp _ _ _ rfl) (Nbl rfl)) (Ax E7 rfl rfl rfl rfl (Nbl rfl) (Bu [.box (EL.el a0), .box (EL.el a1), .box (EL.el v9.1), .box (EL.el v9.1)] rfl (Ar (Bk ?_)))))))))))))))
       obtain rfl := SJ h
       refine ⟨Or.inr rfl, _, _, _, (Ad (Bd.agg _ _ _ _ _ B8 rfl (.lp _ _ _ rfl) (Nbl rfl)) Af), (Aj rfl), ?_⟩
       rfl
def Kz (v1 : Bool) (b7 : Unit) : Option Bool :=
 some v1
def Ih (s8 : Int) (b9 : Unit) : Option (LR (Int) (Unit) (Bool)) :=
 some (.cont (wI (s8 + 1)))
def Dt (b5 : Ai) (s8 : Int) (s10 : Int) : Option (LR (Int) (Unit) (Bool)) :=
 if (decide (s10 < s8)) then ((idx b5.Tried s10).bind fun u11 => (idx b5.Tried s8).bind fun u12 => if (decide (u11.Token = u12.Token)) then ((idx b5.Tried s10).bind fun u13 => (idx b5.Tried s8).bind fun u14 => if (decide (u14.Attempt ≤ u13.Attempt)) then (some (.ret false)) else (some (.cont (wI (s10 + 1))))) else (some (.cont (wI (s10 + 1))))) else (some (.brk ()))
def D5 (b5 : Ai) (s8 : Int) : Option (LR (Int) (Unit) (Bool)) :=
 if (decide (s8 < (b5.Tried.length : Int))) then ((Pt (Dt b5 s8) fuel 0).bind fun x => match x with | .inl r => some (.ret r) | .inr e15 => Ih s8 e15) else (some (.brk ()))
def G5 (v1 : Bool) (b5 : Ai) (b6 : Unit) : Option Bool :=
 (Pt (D5 b5) fuel 0).bind fun x => match x with | .inl r => some r | .inr e16 => Kz v1 e16
def H9 (b5 : Ai) (s17 : Int) (b19 : Bool) : Option (LR (Int) (Unit) (Bool)) :=
 if (!b19) then (some (.ret false)) else ((idx b5.Done s17).bind fun u20 => if (decide (u20.Ts < 1)) then ((idx b5.Done s17).bind fun u21 => if (!decide (u21.Ts = 0)) then (some (.ret false)) else (some (.cont (wI (s17 + 1))))) else (some (.cont (wI (s17 + 1)))))
def Ew (b5 : Ai) (s17 : Int) (s22 : Bool × Int) : Option (LB (Bool × Int) (Bool)) :=
 if (decide (s22.2 < (b5.Tried.length : Int))) then ((idx b5.Tried s22.2).bind fun u23 => if s22.1 then (some (.cont (true, (wI (s22.2 + 1))))) else ((idx b5.Done s17).bind fun u24 => if (decide (u23.Token = u24.Token)) then ((idx b5.Done s17).bind fun u25 => if (decide (u23.Attempt = u25.Attempt)) then ((idx b5.Done s17).bind fun u26 => some (.cont (((decide (u23.Regs.R0 = u26.Regs.R0)) && ((decide (u23.Regs.R1 = u26.Regs.R1)) && ((decide (u23.Regs.R2 = u26.Regs.R2)) && ((decide (u23.Regs.R3 = u26.Regs.R3)) && ((decide (u23.Regs.R4 = u26.Regs.R4)) && ((decide (u23.Regs.R5 = u26.Regs.R5)) && ((decide (u23.Regs.R6 = u26.Regs.R6)) && ((decide (u23.Regs.R7 = u26.Regs.R7)) && true)))))))), (wI (s22.2 + 1))))) else (some (.cont (false, (wI (s22.2 + 1)))))) else (some (.cont (false, (wI (s22.2 + 1))))))) else (some (.brk s22.1))
def Dy (b5 : Ai) (s17 : Int) : Option (LR (Int) (Unit) (Bool)) :=
 if (decide (s17 < (b5.Done.length : Int))) then ((idx b5.Done s17).bind fun u18 => if (!decide (u18.Code = 1)) then (some (.cont (wI (s17 + 1)))) else ((Ej (Ew b5 s17) fuel (false, 0)).bind fun e27 => H9 b5 s17 e27)) else (some (.brk ()))
def Ik (v1 : Bool) (b5 : Ai) : Option Bool :=
 (Pt (Dy b5) fuel 0).bind fun x => match x with | .inl r => some r | .inr e28 => G5 v1 b5 e28
def Gf (a0 : List Ja) (s29 : Int × Ai) : Option (LB (Int × Ai) (Ai)) :=
 if (decide (s29.1 < (a0.length : Int))) then ((idx a0 s29.1).bind fun u30 => (Nm s29.2 ({u30 with Task := (Rt.mk s29.1 u30.Task.Prog)})).bind fun v31 => some (.cont ((wI (s29.1 + 1)), v31))) else (some (.brk s29.2))
def Kl (a0 : List Ja) : Option Bool :=
 (Ox).bind fun v1 => (Ni a0).bind fun v2 => if (!v2) then (some v1) else ((Nn).bind fun v3 => (La v3).bind fun v4 => if (!decide (v4.2 = 0)) then (some false) else ((Ej (Gf a0) fuel (0, v4.1)).bind fun e32 => Ik v1 e32))
theorem Sa {a0 : List Ja} {r : Bool} (h : Kl a0 = some r) : Bp Tryz.prog 4 [.one (.sl a0.length (a0.flatMap Nf))] (· = .s (.one (.b r))) := by
 unfold Kl at h
 refine A2 Tryz.func4 rfl (nt := 163) rfl (Nbl rfl) ?_
 intro w0 S0
 refine Aq (Ab (sv rfl (Ak rfl) (Ar (Aq (Ab ?_)))))
 obtain ⟨v1, hv1, h⟩ := Am h
 refine A3 rfl fn7 Al (Aj rfl) (Xm hv1) (sv rfl (Ak rfl) (Ar (Aq (Aq (Ab (sv rfl (Ag rfl) ?_))))))
 obtain ⟨v2, hv2, h⟩ := Am h
 refine A3 rfl fn8 (Ac rfl Al) (Aj rfl) (Xd hv2) (sv rfl (Ca rfl) (Ar (ccI h rfl (fun h => ?_) (fun h => ?_))))
 ·refine Aq (Ab (sv rfl (Ag rfl) (sv rfl (Ak rfl) (Ar (Bk (Au ?_))))))
  obtain rfl := SJ h
  refine ⟨Or.inr rfl, _, _, _, (Ad (Bd.tmp _ _ rfl) Af), (Aj rfl), ?_⟩
  rfl
 ·refine Bl (Ah (Aq (Ab ?_)))
  obtain ⟨v3, hv3, h⟩ := Am h
  refine A3 rfl Atr Al (Aj rfl) (Sm hv3) ?_
  obtain ⟨v4, hv4, h⟩ := Am h
  refine A3 rfl fn9 (Ac rfl Al) (Aj rfl) (Qu hv4) (sv rfl (Gn rfl) (sv rfl (Bb rfl rfl) (sv rfl (Bb rfl rfl) (B1 rfl Nw (Ax E7 rfl rfl rfl rfl (Nbl rfl) (Bu [.box (EL.el v4.1)] rfl (sv rfl (Ak rfl) (Ar (Aq (Aq (Ab (sv rfl (Ag rfl) (sv rfl (Ce rfl rfl) (Ar (ccI h rfl (fun h => ?_) (fun h => ?_))))))))))))))))
  ·refine Aq (Ab (sv rfl (Ak rfl) (Ar (Bk (Au ?_)))))
   obtain rfl := SJ h
   refine ⟨Or.inr rfl, _, _, _, (Ad (Bd.tmp _ _ rfl) Af), (Aj rfl), ?_⟩
   rfl
  ·refine Bl (Ah (Aq (Aq (Ab (sv rfl (Ak rfl) (Ar (G6 (Ai) (fun b5 => [(3, .s (.one (.b v1))), (4, .s (.one (.lp 0 0)))]) (fun b5 => [.box (EL.el b5)]) (fun b5 => Ik v1 b5 = some r) (fun _ _ => Be rfl) (fun _ _ => Az rfl) (fun _ _ => Nbl rfl) (fun b5 h => ?_) ?_)))))))
   ·unfold Ik at h
    refine Aq (Aq (Ab (sv rfl (Ak rfl) (Ar (G6 (Unit) (fun b6 => [(3, .s (.one (.b v1))), (4, .s (.one (.lp 0 0)))]) (fun b6 => [.box (EL.el b5)]) (fun b6 => G5 v1 b5 b6 = some r) (fun _ _ => Be rfl) (fun _ _ => Az rfl) (fun _ _ => Nbl rfl) (fun b6 h => ?_) ?_)))))
    ·unfold G5 at h
     refine Aq (Aq (Ab (sv rfl (Ak rfl) (Ar (G6 (Unit) (fun b7 => [(3, .s (.one (.b v1)))]) (fun b7 => [.box (EL.el b5)]) (fun b7 => Kz v1 b7 = some r) (fun _ _ => Be rfl) (fun _ _ => Az rfl) (fun _ _ => Nbl rfl) (fun b7 h => ?_) ?_)))))
     ·unfold Kz at h
      refine Aq (Ab (sv rfl (Ag rfl) (sv rfl (Ak rfl) (Ar (Bk ?_)))))
      obtain rfl := SJ h
      refine ⟨Or.inr rfl, _, _, _, (Ad (Bd.tmp _ _ rfl) Af), (Aj rfl), ?_⟩
      rfl
     ·skip
      refine B4 ?_
      obtain ⟨x8, hx8, ho8⟩ := Am h
      refine C2 (G := Nat × (Int)) (fun g => [(3, .s (.one (.b v1))), (4, .s (.one (.lp 0 0))), (12, .s (.one (Ii6 g.2)))]) (fun g => [.box (EL.el b5)]) (fun g => Pt (D5 b5) g.1 g.2 = some x8) (fun g => g.1) (fuel, 0) hx8 ⟨rfl, rfl, rfl, trivial⟩ [] rfl (fun _ _ => Be rfl) (fun _ _ => Az rfl) (fun _ _ => Nbl rfl) ?_
      clear hx8 h
      rintro ⟨n8, s8⟩ h
      obtain ⟨n8, y8, rfl, h, hk8⟩ := Ns h
      unfold D5 at h
      refine Aq (Aq (Ab (sv rfl (Ag rfl) (sv rfl (Aa O5 rfl) (sv rfl (Ae Ae6 rfl (.lp _ _ _ rfl) rfl) (sv rfl (A0 Acn rfl) (sv rfl (Cm rfl rfl) (Ar (ccI h rfl (fun h => ?_) (fun h => ?_))))))))))
      ·refine Bl (Ah (Aq (B4 (Aq (Ab (sv rfl (Ak rfl) (Ar (Aoo (Unit) (fun b9 => [(3, .s (.one (.b v1))), (4, .s (.one (.lp 0 0))), (12, .s (.one (Ii6 s8)))]) (fun b9 => [.box (EL.el b5)]) (fun b9 => Ih s8 b9 = some y8) (fun _ _ => Be rfl) (fun _ _ => Az rfl) (fun _ _ => Nbl rfl) (fun b9 h => ?_) ?_))))))))
       ·unfold Ih at h
        refine Ab (sv rfl (Ag rfl) (sv rfl (B0 rfl rfl) (sv rfl (Ak rfl) (Ar ?_))))
        obtain rfl := SJ h
        exact ⟨(n8, (wI (s8 + 1))), _, hk8, ⟨rfl, rfl, rfl, trivial⟩, rfl, Nat.lt_succ_self _⟩
       ·skip
        refine B4 ?_
        obtain ⟨x10, hx10, ho10⟩ := Am h
        refine C2 (G := Nat × (Int)) (fun g => [(3, .s (.one (.b v1))), (4, .s (.one (.lp 0 0))), (12, .s (.one (Ii6 s8))), (13, .s (.one (Ii6 g.2)))]) (fun g => [.box (EL.el b5)]) (fun g => Pt (Dt b5 s8) g.1 g.2 = some x10) (fun g => g.1) (fuel, 0) hx10 ⟨rfl, rfl, rfl, rfl, trivial⟩ [] rfl (fun _ _ => Be rfl) (fun _ _ => Az rfl) (fun _ _ => Nbl rfl) ?_
        clear hx10 h
        rintro ⟨n10, s10⟩ h
        obtain ⟨n10, y10, rfl, h, hk10⟩ := Ns h
        unfold Dt at h
        refine Aq (Aq (Ab (sv rfl (Ag rfl) (sv rfl (Ag rfl) (sv rfl (Cm rfl rfl) (Ar (ccI h rfl (fun h => ?_) (fun h => ?_))))))))
        ·refine Bl (Ah (Aq (B4 (Aq ?_))))
         refine Adx Lm (by kernel_rfl) ?_
         refine dv rfl (Aa O5 rfl) (dv rfl (Ae Ae6 rfl (.lp _ _ _ rfl) rfl) (dv rfl (Ag rfl) ?_))
         obtain ⟨u11, hu11, h⟩ := Am h
         refine dv rfl (Dp (f := A8) Acn (fun _ => rfl) rfl rfl rfl rfl hu11) ?_
         refine dv rfl (Bm Aht rfl) (dv rfl (Ae ti3 rfl (.cp _) rfl) (dv rfl (Aa O5 rfl) (dv rfl (Ae Ae6 rfl (.lp _ _ _ rfl) rfl) (dv rfl (Ag rfl) ?_))))
         obtain ⟨u12, hu12, h⟩ := Am h
         refine dv rfl (Dp (f := A8) Acn (fun _ => rfl) rfl rfl rfl rfl hu12) ?_
         refine dv rfl (Bm Aht rfl) (dv rfl (Ae ti3 rfl (.cp _) rfl) (dv rfl (Br rfl rfl) (dv rfl (Ag rfl) (Xs 147 rfl (fun hc => ?_) (fun hc => ?_)))))
         ·replace h := B2 hc h
          clear hc
          refine dvg rfl rfl rfl (Aa O5 rfl) (dvg rfl rfl rfl (Ae Ae6 rfl (.lp _ _ _ rfl) rfl) (dvg rfl rfl rfl (Ag rfl) ?_))
          obtain ⟨u13, hu13, h⟩ := Am h
          refine dvg rfl rfl rfl (Dp (f := A8) Acn (fun _ => rfl) rfl rfl rfl rfl hu13) ?_
          refine dvg rfl rfl rfl (Bm Afs rfl) (dvg rfl rfl rfl (Ae ti3 rfl (.cp _) rfl) (dvg rfl rfl rfl (Aa O5 rfl) (dvg rfl rfl rfl (Ae Ae6 rfl (.lp _ _ _ rfl) rfl) (dvg rfl rfl rfl (Ag rfl) ?_))))
          obtain ⟨u14, hu14, h⟩ := Am h
          refine dvg rfl rfl rfl (Dp (f := A8) Acn (fun _ => rfl) rfl rfl rfl rfl hu14) ?_
          refine dvg rfl rfl rfl (Bm Afs rfl) (dvg rfl rfl rfl (Ae ti3 rfl (.cp _) rfl) (dvg rfl rfl rfl (Lp rfl rfl) (dv rfl (Av rfl rfl) (Zw (Ah (ccI h rfl (fun h => ?_) (fun h => ?_)))))))
          ·refine Aq (Ab (sv rfl (Ak rfl) (Ar (Bk (Bc (Au (Au (Bc (Bc (Au (Au (Bc (Au ?_)))))))))))))
           obtain rfl := SJ h
           obtain rfl : Sum.inl _ = x10 := hk10
           replace ho10 : some _ = some _ := ho10
           obtain rfl := Option.some.inj ho10
           obtain rfl : Sum.inl _ = x8 := hk8
           replace ho8 : some _ = some _ := ho8
           obtain rfl := Option.some.inj ho8
           refine ⟨Or.inr rfl, _, _, _, (Ad (Bd.tmp _ _ rfl) Af), (Aj rfl), ?_⟩
           rfl
          ·refine Bl (A1 (Ah (Ab (sv rfl (Ag rfl) (sv rfl (B0 rfl rfl) (sv rfl (Ak rfl) (Ar ?_)))))))
           obtain rfl := SJ h
           exact ⟨(n10, (wI (s10 + 1))), _, hk10, ⟨rfl, rfl, rfl, rfl, trivial⟩, rfl, Nat.lt_succ_self _⟩
         ·replace h := B3 hc h
          clear hc
          refine Mx rfl rfl rfl rfl (Mx rfl rfl rfl rfl (Mx rfl rfl rfl rfl (Mx rfl rfl rfl rfl (Mx rfl rfl rfl rfl (Mx rfl rfl rfl rfl (Mx rfl rfl rfl rfl (Mx rfl rfl rfl rfl (Mx rfl rfl rfl rfl (Mx rfl rfl rfl rfl (Mx rfl rfl rfl rfl (Mx rfl rfl rfl rfl (Mx rfl rfl rfl rfl (dv rfl (An rfl rfl) (Zw (Ah (Hq rfl (fun hx => Bool.noConfusion hx) (fun _ => ?_)))))))))))))))))
          refine Bl (A1 (Ah (Ab (sv rfl (Ag rfl) (sv rfl (B0 rfl rfl) (sv rfl (Ak rfl) (Ar ?_)))))))
          obtain rfl := SJ h
          exact ⟨(n10, (wI (s10 + 1))), _, hk10, ⟨rfl, rfl, rfl, rfl, trivial⟩, rfl, Nat.lt_succ_self _⟩
        ·refine Kn (Bh (Bh (Cd (A1 (Ah ?_)))))
         obtain rfl := SJ h
         obtain rfl : _ = x10 := hk10
         exact ⟨(), _, ho10, ⟨rfl, rfl, rfl, trivial⟩, rfl⟩
      ·refine Kn (Bh (Bh (Cd (Ah ?_))))
       obtain rfl := SJ h
       obtain rfl : _ = x8 := hk8
       exact ⟨(), _, ho8, ⟨rfl, trivial⟩, rfl⟩
    ·skip
     refine B4 ?_
     obtain ⟨x17, hx17, ho17⟩ := Am h
     refine C2 (G := Nat × (Int)) (fun g => [(3, .s (.one (.b v1))), (4, .s (.one (.lp 0 0))), (8, .s (.one (Ii6 g.2)))]) (fun g => [.box (EL.el b5)]) (fun g => Pt (Dy b5) g.1 g.2 = some x17) (fun g => g.1) (fuel, 0) hx17 ⟨rfl, rfl, rfl, trivial⟩ [] rfl (fun _ _ => Be rfl) (fun _ _ => Az rfl) (fun _ _ => Nbl rfl) ?_
     clear hx17 h
     rintro ⟨n17, s17⟩ h
     obtain ⟨n17, y17, rfl, h, hk17⟩ := Ns h
     unfold Dy at h
     refine Aq (Aq (Ab (sv rfl (Ag rfl) (sv rfl (Aa Nv rfl) (sv rfl (Ae Aep rfl (.lp _ _ _ rfl) rfl) (sv rfl (A0 Zm rfl) (sv rfl (Cm rfl rfl) (Ar (ccI h rfl (fun h => ?_) (fun h => ?_))))))))))
     ·refine Bl (Ah (Aq (B4 (Aq (Aq (Ab (sv rfl (Aa Nv rfl) (sv rfl (Ae Aep rfl (.lp _ _ _ rfl) rfl) (sv rfl (Ag rfl) ?_)))))))))
      obtain ⟨u18, hu18, h⟩ := Am h
      refine sv rfl (Dp (f := A5) Zm (fun _ => rfl) rfl rfl rfl rfl hu18) ?_
      refine sv rfl (Bm Ak4 rfl) (sv rfl (Ae ti3 rfl (.cp _) rfl) (sv rfl (Ce rfl rfl) (Ar (ccI h rfl (fun h => ?_) (fun h => ?_)))))
      ·refine Kn (Bh (Cd (Ah (Ab (sv rfl (Ag rfl) (sv rfl (B0 rfl rfl) (sv rfl (Ak rfl) (Ar ?_))))))))
       obtain rfl := SJ h
       exact ⟨(n17, (wI (s17 + 1))), _, hk17, ⟨rfl, rfl, rfl, trivial⟩, rfl, Nat.lt_succ_self _⟩
      ·refine Bl (Ah (Aq (Ab (sv rfl (Ak rfl) (Ar (Aq (Aq (Ab (sv rfl (Ak rfl) (Ar (G6 (Bool) (fun b19 => [(3, .s (.one (.b v1))), (4, .s (.one (.lp 0 0))), (8, .s (.one (Ii6 s17))), (9, .s (.one (.b b19)))]) (fun b19 => [.box (EL.el b5)]) (fun b19 => H9 b5 s17 b19 = some y17) (fun _ _ => Be rfl) (fun _ _ => Az rfl) (fun _ _ => Nbl rfl) (fun b19 h => ?_) ?_)))))))))))
       ·unfold H9 at h
        refine Aq (Ab (sv rfl (Ag rfl) (sv rfl (Ca rfl) (sv rfl (Ag rfl) (Bq 104 rfl (fun hc => ?_) (fun hc => ?_))))))
        ·replace h := B2 hc h
         clear hc
         refine Aw rfl rfl rfl rfl (Aw rfl rfl rfl rfl (Aw rfl rfl rfl rfl (Aw rfl rfl rfl rfl (Aw rfl rfl rfl rfl (Aw rfl rfl rfl rfl (Aw rfl rfl rfl rfl (Aw rfl rfl rfl rfl (Iw rfl rfl rfl (Iw rfl rfl rfl (Iw rfl rfl rfl (Iw rfl rfl rfl (Iw rfl rfl rfl (Iw rfl rfl rfl (Iw rfl rfl rfl (Aw rfl rfl rfl rfl (sv rfl (Av rfl rfl) (Ar (Hq rfl (fun _ => ?_) (fun hx => Bool.noConfusion hx)))))))))))))))))))
         refine Aq (Ab (sv rfl (Ak rfl) (Ar (Bk (Bc (Au (Au (Bc (Au ?_)))))))))
         obtain rfl := SJ h
         obtain rfl : Sum.inl _ = x17 := hk17
         replace ho17 : some _ = some _ := ho17
         obtain rfl := Option.some.inj ho17
         refine ⟨Or.inr rfl, _, _, _, (Ad (Bd.tmp _ _ rfl) Af), (Aj rfl), ?_⟩
         rfl
        ·replace h := B3 hc h
         clear hc
         refine son rfl rfl rfl (sv rfl (Aa Nv rfl) (son rfl rfl rfl (sv rfl (Ae Aep rfl (.lp _ _ _ rfl) rfl) (son rfl rfl rfl (sv rfl (Ag rfl) (son rfl rfl rfl ?_))))))
         obtain ⟨u20, hu20, h⟩ := Am h
         refine sv rfl (Dp (f := A5) Zm (fun _ => rfl) rfl rfl rfl rfl hu20) ?_
         refine son rfl rfl rfl (sv rfl (Bm Afm rfl) (son rfl rfl rfl (sv rfl (Ae ti3 rfl (.cp _) rfl) (son rfl rfl rfl (sv rfl (Cm rfl rfl) (son rfl rfl rfl (sv rfl (Ag rfl) (Bq 112 rfl (fun hc => ?_) (fun hc => ?_)))))))))
         ·replace h := B2 hc h
          clear hc
          refine son rfl rfl rfl (sv rfl (Aa Nv rfl) (son rfl rfl rfl (sv rfl (Ae Aep rfl (.lp _ _ _ rfl) rfl) (son rfl rfl rfl (sv rfl (Ag rfl) (son rfl rfl rfl ?_))))))
          obtain ⟨u21, hu21, h⟩ := Am h
          refine sv rfl (Dp (f := A5) Zm (fun _ => rfl) rfl rfl rfl rfl hu21) ?_
          refine son rfl rfl rfl (sv rfl (Bm Afm rfl) (son rfl rfl rfl (sv rfl (Ae ti3 rfl (.cp _) rfl) (son rfl rfl rfl (sv rfl (Ce rfl rfl) (son rfl rfl rfl (sv rfl (Av rfl rfl) (sv rfl (An rfl rfl) (Ar (ccI h rfl (fun h => ?_) (fun h => ?_)))))))))))
          ·refine Aq (Ab (sv rfl (Ak rfl) (Ar (Bk (Bc (Au (Au (Bc (Au ?_)))))))))
           obtain rfl := SJ h
           obtain rfl : Sum.inl _ = x17 := hk17
           replace ho17 : some _ = some _ := ho17
           obtain rfl := Option.some.inj ho17
           refine ⟨Or.inr rfl, _, _, _, (Ad (Bd.tmp _ _ rfl) Af), (Aj rfl), ?_⟩
           rfl
          ·refine Bl (A1 (Ah (Ab (sv rfl (Ag rfl) (sv rfl (B0 rfl rfl) (sv rfl (Ak rfl) (Ar ?_)))))))
           obtain rfl := SJ h
           exact ⟨(n17, (wI (s17 + 1))), _, hk17, ⟨rfl, rfl, rfl, trivial⟩, rfl, Nat.lt_succ_self _⟩
         ·replace h := B3 hc h
          clear hc
          refine Aw rfl rfl rfl rfl (Aw rfl rfl rfl rfl (Aw rfl rfl rfl rfl (Aw rfl rfl rfl rfl (Aw rfl rfl rfl rfl (Aw rfl rfl rfl rfl (Aw rfl rfl rfl rfl (son rfl rfl rfl (sv rfl (An rfl rfl) (sv rfl (An rfl rfl) (Ar (Hq rfl (fun hx => Bool.noConfusion hx) (fun _ => ?_))))))))))))
          refine Bl (A1 (Ah (Ab (sv rfl (Ag rfl) (sv rfl (B0 rfl rfl) (sv rfl (Ak rfl) (Ar ?_)))))))
          obtain rfl := SJ h
          exact ⟨(n17, (wI (s17 + 1))), _, hk17, ⟨rfl, rfl, rfl, trivial⟩, rfl, Nat.lt_succ_self _⟩
       ·skip
        refine B4 ?_
        obtain ⟨x22, hx22, ho22⟩ := Am h
        refine C2 (G := Nat × (Bool × Int)) (fun g => [(3, .s (.one (.b v1))), (4, .s (.one (.lp 0 0))), (8, .s (.one (Ii6 s17))), (9, .s (.one (.b g.2.1))), (10, .s (.one (Ii6 g.2.2)))]) (fun g => [.box (EL.el b5)]) (fun g => Ej (Ew b5 s17) g.1 g.2 = some x22) (fun g => g.1) (fuel, (false, 0)) hx22 ⟨rfl, rfl, rfl, rfl, rfl, trivial⟩ [] rfl (fun _ _ => Be rfl) (fun _ _ => Az rfl) (fun _ _ => Nbl rfl) ?_
        clear hx22 h
        rintro ⟨n22, s22⟩ h
        obtain ⟨n22, y22, rfl, h, hk22⟩ := F5 h
        unfold Ew at h
        refine Aq (Aq (Ab (sv rfl (Ag rfl) (sv rfl (Aa O5 rfl) (sv rfl (Ae Ae6 rfl (.lp _ _ _ rfl) rfl) (sv rfl (A0 Acn rfl) (sv rfl (Cm rfl rfl) (Ar (ccI h rfl (fun h => ?_) (fun h => ?_))))))))))
        ·refine Bl (Ah (Aq (B4 (Aq (Ab (sv rfl (Aa O5 rfl) (sv rfl (Ae Ae6 rfl (.lp _ _ _ rfl) rfl) (sv rfl (Ag rfl) ?_))))))))
         obtain ⟨u23, hu23, h⟩ := Am h
         refine sv rfl (Dp (f := A8) Acn (fun _ => rfl) rfl rfl rfl rfl hu23) ?_
         refine sv rfl (C6 (ys := [Ii6 u23.Token, Ii6 u23.Attempt, Ii6 u23.Regs.R0, Ii6 u23.Regs.R1, Ii6 u23.Regs.R2, Ii6 u23.Regs.R3, Ii6 u23.Regs.R4, Ii6 u23.Regs.R5, Ii6 u23.Regs.R6, Ii6 u23.Regs.R7]) Aug rfl (.cp _) rfl rfl) (B1 rfl Ask (Ax Aus rfl rfl rfl rfl (Nbl rfl) (Bu [.box (EL.el b5), .box (EL.el u23)] rfl (Ar ?_))))
         refine Aay Lm (by kernel_rfl) ?_
         refine dv rfl (Ag rfl) (dv rfl (Ag rfl) (Xs 69 rfl (fun hc => ?_) (fun hc => ?_)))
         ·replace h := B2 hc h
          clear hc
          refine Mx rfl rfl rfl rfl (Mx rfl rfl rfl rfl (Mx rfl rfl rfl rfl (Mx rfl rfl rfl rfl (Mx rfl rfl rfl rfl (Mx rfl rfl rfl rfl (Mx rfl rfl rfl rfl (Mx rfl rfl rfl rfl (Mx rfl rfl rfl rfl (Mx rfl rfl rfl rfl (P0 rfl rfl rfl (P0 rfl rfl rfl (P0 rfl rfl rfl (P0 rfl rfl rfl (P0 rfl rfl rfl (P0 rfl rfl rfl (P0 rfl rfl rfl (P0 rfl rfl rfl (P0 rfl rfl rfl (Mx rfl rfl rfl rfl (Mx rfl rfl rfl rfl (P0 rfl rfl rfl (P0 rfl rfl rfl (P0 rfl rfl rfl (P0 rfl rfl rfl (P0 rfl rfl rfl (P0 rfl rfl rfl (P0 rfl rfl rfl (P0 rfl rfl rfl (P0 rfl rfl rfl (Mx rfl rfl rfl rfl (dv rfl (Av rfl rfl) (dv rfl (Ak rfl) (Zw (A1 (Ah (Ab (sv rfl (Ag rfl) (sv rfl (B0 rfl rfl) (sv rfl (Ak rfl) (Ar ?_))))))))))))))))))))))))))))))))))))))))
          obtain rfl := SJ h
          exact ⟨(n22, (true, (wI (s22.2 + 1)))), _, hk22, ⟨rfl, rfl, rfl, rfl, rfl, trivial⟩, rfl, Nat.lt_succ_self _⟩
         ·replace h := B3 hc h
          clear hc
          refine dvg rfl rfl rfl (Aa Aht rfl) (dvg rfl rfl rfl (Ae ti3 rfl (.lp _ _ _ rfl) rfl) (dvg rfl rfl rfl (Aa Nv rfl) (dvg rfl rfl rfl (Ae Aep rfl (.lp _ _ _ rfl) rfl) (dvg rfl rfl rfl (Ag rfl) ?_))))
          obtain ⟨u24, hu24, h⟩ := Am h
          refine dvg rfl rfl rfl (Dp (f := A5) Zm (fun _ => rfl) rfl rfl rfl rfl hu24) ?_
          refine dvg rfl rfl rfl (Bm Akw rfl) (dvg rfl rfl rfl (Ae ti3 rfl (.cp _) rfl) (dvg rfl rfl rfl (Br rfl rfl) (dvg rfl rfl rfl (Ag rfl) (Xs 79 rfl (fun hc => ?_) (fun hc => ?_)))))
          ·replace h := B2 hc h
           clear hc
           refine dvg rfl rfl rfl (Aa Afs rfl) (dvg rfl rfl rfl (Ae ti3 rfl (.lp _ _ _ rfl) rfl) (dvg rfl rfl rfl (Aa Nv rfl) (dvg rfl rfl rfl (Ae Aep rfl (.lp _ _ _ rfl) rfl) (dvg rfl rfl rfl (Ag rfl) ?_))))
           obtain ⟨u25, hu25, h⟩ := Am h
           refine dvg rfl rfl rfl (Dp (f := A5) Zm (fun _ => rfl) rfl rfl rfl rfl hu25) ?_
           refine dvg rfl rfl rfl (Bm Aoj rfl) (dvg rfl rfl rfl (Ae ti3 rfl (.cp _) rfl) (dvg rfl rfl rfl (Br rfl rfl) (dvg rfl rfl rfl (Av rfl rfl) (dvg rfl rfl rfl (Ag rfl) (Xs 90 rfl (fun hc => ?_) (fun hc => ?_))))))
           ·replace h := B2 hc h
            clear hc
            refine dvg rfl rfl rfl (Aa Aog rfl) (dvg rfl rfl rfl (Ao Aqu rfl (.lp _ _ _ rfl) (Nbl rfl)) (dvg rfl rfl rfl (Aa Nv rfl) (dvg rfl rfl rfl (Ae Aep rfl (.lp _ _ _ rfl) rfl) (dvg rfl rfl rfl (Ag rfl) ?_))))
            obtain ⟨u26, hu26, h⟩ := Am h
            refine dvg rfl rfl rfl (Dp (f := A5) Zm (fun _ => rfl) rfl rfl rfl rfl hu26) ?_
            refine dvg rfl rfl rfl (Bm Ake rfl) (dvg rfl rfl rfl (C6 (ys := [Ii6 u26.Regs.R0, Ii6 u26.Regs.R1, Ii6 u26.Regs.R2, Ii6 u26.Regs.R3, Ii6 u26.Regs.R4, Ii6 u26.Regs.R5, Ii6 u26.Regs.R6, Ii6 u26.Regs.R7]) Aqu rfl (.cp _) rfl rfl) (dvg rfl rfl rfl (Aih Avo rfl rfl rfl rfl rfl) (dvg rfl rfl rfl (Av rfl rfl) (dv rfl (An rfl rfl) (dv rfl (Ak rfl) (Zw (A1 (Ah (Ab (sv rfl (Ag rfl) (sv rfl (B0 rfl rfl) (sv rfl (Ak rfl) (Ar ?_)))))))))))))
            obtain rfl := SJ h
            exact ⟨(n22, (((decide (u23.Regs.R0 = u26.Regs.R0)) && ((decide (u23.Regs.R1 = u26.Regs.R1)) && ((decide (u23.Regs.R2 = u26.Regs.R2)) && ((decide (u23.Regs.R3 = u26.Regs.R3)) && ((decide (u23.Regs.R4 = u26.Regs.R4)) && ((decide (u23.Regs.R5 = u26.Regs.R5)) && ((decide (u23.Regs.R6 = u26.Regs.R6)) && ((decide (u23.Regs.R7 = u26.Regs.R7)) && true)))))))), (wI (s22.2 + 1)))), _, hk22, ⟨rfl, rfl, rfl, rfl, rfl, trivial⟩, rfl, Nat.lt_succ_self _⟩
           ·replace h := B3 hc h
            clear hc
            refine Mx rfl rfl rfl rfl (Mx rfl rfl rfl rfl (Mx rfl rfl rfl rfl (Mx rfl rfl rfl rfl (Mx rfl rfl rfl rfl (Mx rfl rfl rfl rfl (Mx rfl rfl rfl rfl (Mx rfl rfl rfl rfl (Mx rfl rfl rfl rfl (dvg rfl rfl rfl (An rfl rfl) (dv rfl (An rfl rfl) (dv rfl (Ak rfl) (Zw (A1 (Ah (Ab (sv rfl (Ag rfl) (sv rfl (B0 rfl rfl) (sv rfl (Ak rfl) (Ar ?_)))))))))))))))))))
            obtain rfl := SJ h
            exact ⟨(n22, (false, (wI (s22.2 + 1)))), _, hk22, ⟨rfl, rfl, rfl, rfl, rfl, trivial⟩, rfl, Nat.lt_succ_self _⟩
          ·replace h := B3 hc h
           clear hc
           refine Mx rfl rfl rfl rfl (Mx rfl rfl rfl rfl (Mx rfl rfl rfl rfl (Mx rfl rfl rfl rfl (Mx rfl rfl rfl rfl (Mx rfl rfl rfl rfl (Mx rfl rfl rfl rfl (Mx rfl rfl rfl rfl (Mx rfl rfl rfl rfl (dvg rfl rfl rfl (An rfl rfl) (dvg rfl rfl rfl (Ag rfl) (Mx rfl rfl rfl rfl (Mx rfl rfl rfl rfl (Mx rfl rfl rfl rfl (Mx rfl rfl rfl rfl (Mx rfl rfl rfl rfl (Mx rfl rfl rfl rfl (Mx rfl rfl rfl rfl (Mx rfl rfl rfl rfl (Mx rfl rfl rfl rfl (dvg rfl rfl rfl (An rfl rfl) (dv rfl (An rfl rfl) (dv rfl (Ak rfl) (Zw (A1 (Ah (Ab (sv rfl (Ag rfl) (sv rfl (B0 rfl rfl) (sv rfl (Ak rfl) (Ar ?_))))))))))))))))))))))))))))))
           obtain rfl := SJ h
           exact ⟨(n22, (false, (wI (s22.2 + 1)))), _, hk22, ⟨rfl, rfl, rfl, rfl, rfl, trivial⟩, rfl, Nat.lt_succ_self _⟩
        ·refine Kn (Bh (Bh (Cd (Ah ?_))))
         obtain rfl := SJ h
         obtain rfl : _ = x22 := hk22
         exact ⟨s22.1, _, ho22, ⟨rfl, rfl, rfl, rfl, trivial⟩, rfl⟩
     ·refine Kn (Bh (Bh (Cd (Ah ?_))))
      obtain rfl := SJ h
      obtain rfl : _ = x17 := hk17
      exact ⟨(), _, ho17, ⟨rfl, rfl, trivial⟩, rfl⟩
   ·skip
    refine B4 ?_
    obtain ⟨x29, hx29, ho29⟩ := Am h
    refine C2 (G := Nat × (Int × Ai)) (fun g => [(0, .s (.one (.sl a0.length (a0.flatMap Nf)))), (3, .s (.one (.b v1))), (4, .s (.one (.lp 0 0))), (6, .s (.one (Ii6 g.2.1)))]) (fun g => [.box (EL.el g.2.2)]) (fun g => Ej (Gf a0) g.1 g.2 = some x29) (fun g => g.1) (fuel, (0, v4.1)) hx29 ⟨rfl, rfl, rfl, rfl, trivial⟩ [] rfl (fun _ _ => Be rfl) (fun _ _ => Az rfl) (fun _ _ => Nbl rfl) ?_
    clear hx29 h
    rintro ⟨n29, s29⟩ h
    obtain ⟨n29, y29, rfl, h, hk29⟩ := F5 h
    unfold Gf at h
    refine Aq (Aq (Ab (sv rfl (Ag rfl) (sv rfl (Ag rfl) (sv rfl (A0 Alo rfl) (sv rfl (Cm rfl rfl) (Ar (ccI h rfl (fun h => ?_) (fun h => ?_)))))))))
    ·refine Bl (Ah (Aq (B4 (Aq (Ab (sv rfl (Ag rfl) (sv rfl (Ag rfl) ?_)))))))
     obtain ⟨u30, hu30, h⟩ := Am h
     refine sv rfl (Dp (f := Nf) Alo (fun _ => rfl) rfl rfl rfl rfl hu30) ?_
     refine sv rfl (C6 (ys := [Ii6 u30.What, Ii6 u30.N, Ii6 u30.Task.Token, .b u30.Task.Prog.RO, .sl u30.Task.Prog.Ops.length (u30.Task.Prog.Ops.flatMap O6), Ii6 u30.Reply.Kind, Ii6 u30.Reply.Seq, Ii6 u30.Reply.Code, Ii6 u30.Reply.N, .b u30.Reply.Found, .sl u30.Reply.Val.length (u30.Reply.Val.flatMap eU8), .sl u30.Reply.List.length (u30.Reply.List.flatMap Dx), .sl u30.Bytes.length (u30.Bytes.flatMap eU8)]) Aud rfl (.cp _) rfl rfl) (B1 rfl Avs (Ax Avl rfl rfl rfl rfl (Nbl rfl) (Bu [.box (EL.el s29.2), .box (EL.el u30)] rfl (Ar (Aq (Ab (sv rfl (Ag rfl) (sv rfl (Aa Adj rfl) (sv rfl (Aa Ak1 rfl) (Ax sz3 rfl rfl rfl rfl (Nbl rfl) (Bu [.box (EL.el s29.2), .box (EL.el {u30 with Task.Token := s29.1})] rfl (Ar (Ab (sv rfl (Ao B8 rfl (.lp _ _ _ rfl) (Nbl rfl)) (sv rfl (Ao Aud rfl (.lp _ _ _ rfl) (Nbl rfl)) ?_)))))))))))))))
     obtain ⟨v31, hv31, h⟩ := Am h
     refine A3 rfl Av6 (Ac rfl (Ac rfl Al)) (Aj rfl) (Xj hv31) (Ax E7 rfl rfl rfl rfl (Nbl rfl) (Bu [.box (EL.el v31), .box (EL.el {u30 with Task.Token := s29.1})] rfl (Lz (A1 (Ah (Ab (sv rfl (Ag rfl) (sv rfl (B0 rfl rfl) (sv rfl (Ak rfl) (Ar ?_))))))))))
     obtain rfl := SJ h
     exact ⟨(n29, ((wI (s29.1 + 1)), v31)), _, hk29, ⟨rfl, rfl, rfl, rfl, trivial⟩, rfl, Nat.lt_succ_self _⟩
    ·refine Kn (Bh (Bh (Cd (Ah ?_))))
     obtain rfl := SJ h
     obtain rfl : _ = x29 := hk29
     exact ⟨s29.2, _, ho29, ⟨rfl, rfl, trivial⟩, rfl⟩
end Go.Proofs.YtbjckaahoacbfaaGreatDoor.Abs
