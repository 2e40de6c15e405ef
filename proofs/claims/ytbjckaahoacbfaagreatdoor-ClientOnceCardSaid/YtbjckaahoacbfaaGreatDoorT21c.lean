/-
 t
-/
import Derived.Test.YtbjckaahoacbfaaGreatDoorT21b
set_option linter.unusedVariables false
set_option linter.unusedSimpArgs false
namespace Go.Proofs.YtbjckaahoacbfaaGreatDoor.Abs
open Go.RowKit Go.Proofs
def Fp (a0 : Co) (a1 : A7) : Option (Ca × A7 × Bool) :=
 (D0 a0).bind fun v10 => if (!v10) then (some (Oq, a1, false)) else (if (decide (a1.PC < 0)) then (some (Oq, a1, false)) else (K7 a0 a1 ()))
set_option maxRecDepth 100000 in
theorem Vh {a0 : Co} {a1 : A7} {r : Ca × A7 × Bool} (h : Fp a0 a1 = some r) : Bp Tryz.prog 127 [.agg (EL.el a0), .agg (EL.el a1)] (· = .tup [.agg (EL.el r.1), .agg (EL.el r.2.1), .one (.b r.2.2)]) := by
 unfold Fp at h
 refine A1 Tryz.func127 rfl (nt := 53) rfl (Nbl rfl) ?_
 intro w0 S0
 refine Aq (Ab (Jd rfl rfl (Jd rfl rfl (Bz rfl Aax (Bz rfl Agz (sv rfl (Ak rfl) (As (Aq (Aq (Ki (Unit) (fun b1 => [(2, .s (.one (.lp 0 0))), (3, .s (.one (.lp 1 0))), (4, .s (.one (.lp 2 0))), (5, .s (.one (.lp 3 0)))]) (fun b1 => [.box (EL.el a0), .box (EL.el a1), .box Zbc, .box Zbb]) (fun b1 => K7 a0 a1 b1 = some r) (fun _ _ => Be rfl) (fun _ _ => A0 rfl) (fun _ _ => Nat.le_of_ble_eq_true rfl) (fun b1 h => ?_) ?_))))))))))
 ·unfold K7 at h
  refine Aq (G5 (A7) (fun b2 => [(2, .s (.one (.lp 0 0))), (3, .s (.one (.lp 1 0))), (4, .s (.one (.lp 2 0))), (5, .s (.one (.lp 3 0)))]) (fun b2 => [.box (EL.el a0), .box (EL.el b2), .box Zbc, .box Zbb]) (fun b2 => M9 a0 b2 = some r) (fun _ _ => Be rfl) (fun _ _ => A0 rfl) (fun _ _ => Nat.le_of_ble_eq_true rfl) (fun b2 h => ?_) ?_)
  ·unfold M9 at h
   refine Aq (Ab (sv rfl (Aa Ot rfl) (sv rfl (Ae ti3 rfl (.lp _ _ _ rfl) rfl) (sv rfl (Aa R9 rfl) (sv rfl (Ae Aix rfl (.lp _ _ _ rfl) rfl) (sv rfl (Az Ajo rfl) (sv rfl (Sw rfl rfl) (sv rfl (Aa Ot rfl) (Ax sz3 rfl rfl rfl rfl (Nbl rfl) (Bs [.box (EL.el a0), .box (EL.el {b2 with PC := if (a0.Ops.length : Int) < b2.PC then (a0.Ops.length : Int) else b2.PC}), .box Zbc, .box Zbb] rfl (As (Aq ?_))))))))))))
   refine Kb [2, 3] [0, 0, 1, 7, 15] [[.box (EL.el a0), .box (EL.el {b2 with PC := if (a0.Ops.length : Int) < b2.PC then (a0.Ops.length : Int) else b2.PC}), .box Zbc, .box Zbb], [.box (EL.el a0), .box (EL.el {b2 with PC := if (a0.Ops.length : Int) < b2.PC then (a0.Ops.length : Int) else b2.PC}), .box Zbc, .box Zbb], [.box (EL.el a0), .box (EL.el {b2 with PC := if (a0.Ops.length : Int) < b2.PC then (a0.Ops.length : Int) else b2.PC}), .box Zbc, .box (EL.el {b2 with PC := if (a0.Ops.length : Int) < b2.PC then (a0.Ops.length : Int) else b2.PC})]] (by kernel_rfl) Ma (by kernel_rfl) (by decide) rfl rfl rfl rfl ?_
   refine ev (Bh 0 rfl rfl) rfl rfl (Bk Aax Aed Ba (.nil _)) (ev (B4 (md := [.box (EL.el a0), .box (EL.el {b2 with PC := if (a0.Ops.length : Int) < b2.PC then (a0.Ops.length : Int) else b2.PC}), .box Zbc, .dead]) ⟨⟨rfl, ⟨rfl, ⟨rfl, ⟨trivial, trivial⟩⟩⟩⟩, ⟨⟨rfl, ⟨rfl, ⟨rfl, ⟨trivial, trivial⟩⟩⟩⟩, ⟨⟨rfl, ⟨rfl, ⟨rfl, ⟨trivial, trivial⟩⟩⟩⟩, trivial⟩⟩⟩) rfl rfl (Ao Sb rfl (.lp _ _ _ rfl) (Nbl rfl)) (ee0 0 rfl rfl rfl rfl (fun ζ => ?_) ?_))
   ·refine Ax Ah0 rfl rfl rfl rfl (Nbl rfl) (Bs [.box (EL.el a0), .box (EL.el {b2 with PC := if (a0.Ops.length : Int) < b2.PC then (a0.Ops.length : Int) else b2.PC}), .box Zbc, .box Zbb] rfl ?_)
    exact Sd
   refine ee0 1 rfl rfl rfl rfl (fun ζ => ?_) ?_
   ·refine Ax Xa rfl rfl rfl rfl (Nbl rfl) (Bs [.box (EL.el a0), .box (EL.el {b2 with PC := if (a0.Ops.length : Int) < b2.PC then (a0.Ops.length : Int) else b2.PC}), .box Zbc, .box (EL.el {b2 with PC := if (a0.Ops.length : Int) < b2.PC then (a0.Ops.length : Int) else b2.PC})] rfl ?_)
    exact Sd
   refine ev (Bh 2 rfl rfl) rfl rfl (Ak rfl) (Y1 (Ai (Bj ?_)))
   obtain rfl := Option.some.inj h
   refine ⟨Or.inr rfl, _, _, _, (Ad (Bd.agg _ _ _ _ _ Ad4 rfl (.lp _ _ _ rfl) (Nbl rfl)) (Ad (Bd.agg _ _ _ _ _ Sb rfl (.lp _ _ _ rfl) (Nbl rfl)) (Ad (Bd.tmp _ _ rfl) Af))), (Np rfl), ?_⟩
   rfl
  ·skip
   refine B7 ?_
   obtain ⟨x3, hx3, ho3⟩ := An h
   refine Da (G := Nat × (A7)) (fun g => [(2, .s (.one (.lp 0 0))), (3, .s (.one (.lp 1 0))), (4, .s (.one (.lp 2 0))), (5, .s (.one (.lp 3 0)))]) (fun g => [.box (EL.el a0), .box (EL.el g.2), .box Zbc, .box Zbb]) (fun g => Qg (Gn a0) g.1 g.2 = some x3) (fun g => g.1) (Di, a1) hx3 ⟨rfl, rfl, rfl, rfl, trivial⟩ [] rfl (fun _ _ => Be rfl) (fun _ _ => A0 rfl) (fun _ _ => Nat.le_of_ble_eq_true rfl) ?_
   clear hx3 h
   rintro ⟨n3, s3⟩ h
   obtain ⟨n3, y3, rfl, h, hk3⟩ := Oc h
   unfold Gn at h
   refine Aq (Aq (Ki (Unit) (fun b4 => [(2, .s (.one (.lp 0 0))), (3, .s (.one (.lp 1 0))), (4, .s (.one (.lp 2 0))), (5, .s (.one (.lp 3 0)))]) (fun b4 => [.box (EL.el a0), .box (EL.el s3), .box Zbc, .box Zbb]) (fun b4 => K4 a0 s3 b4 = some y3) (fun _ _ => Be rfl) (fun _ _ => A0 rfl) (fun _ _ => Nat.le_of_ble_eq_true rfl) (fun b4 h => ?_) ?_))
   ·unfold K4 at h
    refine B7 (Aq (Ab (sv rfl (Aa R9 rfl) (sv rfl (Ae Aix rfl (.lp _ _ _ rfl) rfl) (sv rfl (Aa Ot rfl) (sv rfl (Ae ti3 rfl (.lp _ _ _ rfl) rfl) ?_))))))
    obtain ⟨u5, hu5, h⟩ := An h
    refine sv rfl (Fe (f := Cf) Ajo (fun _ => rfl) rfl rfl rfl rfl hu5) ?_
    refine sv rfl (Dd (ys := [Ii6 u5.What, Ii6 u5.A, Ii6 u5.B, Ii6 u5.N, .sl u5.Key.length (u5.Key.flatMap eU8), .sl u5.Rng.Lo.length (u5.Rng.Lo.flatMap eU8), .sl u5.Rng.Hi.length (u5.Rng.Hi.flatMap eU8), .b u5.Rng.Open]) Ako rfl (.cp _) rfl rfl) (Bz rfl Ap9 (Ax Asb rfl rfl rfl rfl (Nbl rfl) (Bs [.box (EL.el a0), .box (EL.el s3), .box Zbc, .box Zbb, .box (EL.el u5)] rfl (As (Aq (Aq (Ab (sv rfl (Ao Ako rfl (.lp _ _ _ rfl) (Nbl rfl)) ?_))))))))
    obtain ⟨v6, hv6, h⟩ := An h
    refine A2 rfl An2 (Ac rfl Al) (Aj rfl) (P4 hv6) (As (ccI h rfl (fun h => ?_) (fun h => ?_)))
    ·refine Aq ?_
     obtain ⟨v7, hv7, h⟩ := An h
     refine Kb [4, 5] [0, 0, 3, 0, 7, 31, 63] [[.box (EL.el a0), .box (EL.el s3), .box Zbc, .box Zbb, .box (EL.el u5)], [.box (EL.el a0), .box (EL.el s3), .box (EL.el v7), .box Zbb, .box (EL.el u5)], [.box (EL.el a0), .box (EL.el s3), .box (EL.el v7), .box (EL.el s3), .box (EL.el u5)]] (by kernel_rfl) Ma (by kernel_rfl) (by decide) rfl rfl rfl rfl ?_
     refine ev (Bh 0 rfl rfl) rfl rfl (Ao Ako rfl (.lp _ _ _ rfl) (Nbl rfl)) (ev (Bh 0 rfl rfl) rfl rfl (Ao Sb rfl (.lp _ _ _ rfl) (Nbl rfl)) (ed (Bh 0 rfl rfl) rfl rfl (D2 Arl (Ac rfl (Ac rfl Al)) rfl (Sz hv7)) (ev (B4 (md := [.box (EL.el a0), .box (EL.el s3), .dead, .dead, .box (EL.el u5)]) ⟨⟨rfl, ⟨rfl, ⟨trivial, ⟨trivial, ⟨rfl, trivial⟩⟩⟩⟩⟩, ⟨⟨rfl, ⟨rfl, ⟨trivial, ⟨trivial, ⟨rfl, trivial⟩⟩⟩⟩⟩, ⟨⟨rfl, ⟨rfl, ⟨trivial, ⟨trivial, ⟨rfl, trivial⟩⟩⟩⟩⟩, trivial⟩⟩⟩) rfl rfl (Ao Sb rfl (.lp _ _ _ rfl) (Nbl rfl)) (ee0 0 rfl rfl rfl rfl (fun ζ => ?_) ?_))))
     ·refine Ax Ah0 rfl rfl rfl rfl (Nbl rfl) (Bs [.box (EL.el a0), .box (EL.el s3), .box (EL.el v7), .box Zbb, .box (EL.el u5)] rfl ?_)
      exact Sd
     refine ee0 1 rfl rfl rfl rfl (fun ζ => ?_) ?_
     ·refine Ax Xa rfl rfl rfl rfl (Nbl rfl) (Bs [.box (EL.el a0), .box (EL.el s3), .box (EL.el v7), .box (EL.el s3), .box (EL.el u5)] rfl ?_)
      exact Sd
     refine ev (Bh 2 rfl rfl) rfl rfl (Ak rfl) (Y1 (Ai (Bj (Ar (A9 (Ar (A9 (Ar ?_))))))))
     obtain rfl := Option.some.inj h
     obtain rfl : Sum.inl _ = x3 := hk3
     replace ho3 : some _ = some _ := ho3
     obtain rfl := Option.some.inj ho3
     refine ⟨Or.inr rfl, _, _, _, (Ad (Bd.agg _ _ _ _ _ Ad4 rfl (.lp _ _ _ rfl) (Nbl rfl)) (Ad (Bd.agg _ _ _ _ _ Sb rfl (.lp _ _ _ rfl) (Nbl rfl)) (Ad (Bd.tmp _ _ rfl) Af))), (Aj rfl), ?_⟩
     rfl
    ·refine Bl (Ai (Ab (sv rfl (Ao Ako rfl (.lp _ _ _ rfl) (Nbl rfl)) (sv rfl (Ao Sb rfl (.lp _ _ _ rfl) (Nbl rfl)) ?_))))
     obtain ⟨v8, hv8, h⟩ := An h
     refine A2 rfl As1 (Ac rfl (Ac rfl Al)) (Aj rfl) (T9 hv8) (Ax Xa rfl rfl rfl rfl (Nbl rfl) (Bs [.box (EL.el a0), .box (EL.el v8), .box Zbc, .box Zbb, .box (EL.el u5)] rfl (Lz (A4 (Ai ?_)))))
     obtain rfl := Option.some.inj h
     exact ⟨(n3, v8), _, hk3, ⟨rfl, rfl, rfl, rfl, trivial⟩, rfl, Nat.lt_succ_self _⟩
   ·skip
    refine Ab (sv rfl (Aa Ot rfl) (sv rfl (Ae ti3 rfl (.lp _ _ _ rfl) rfl) (sv rfl (Aa R9 rfl) (sv rfl (Ae Aix rfl (.lp _ _ _ rfl) rfl) (sv rfl (Az Ajo rfl) (sv rfl (Cp rfl rfl) (sv rfl (Ag rfl) (Bo 24 rfl (fun hc => ?_) (fun hc => ?_)))))))))
    ·replace h := B2 hc h
     clear hc
     refine son rfl rfl rfl (sv rfl (Aa Wq rfl) (son rfl rfl rfl (sv rfl (Ae ti4 rfl (.lp _ _ _ rfl) rfl) (son rfl rfl rfl (sv rfl (B9 rfl) (sv rfl (Au rfl rfl) (As (ccI h rfl (fun h => ?_) (fun h => ?_)))))))))
     ·refine Bl (Ai ?_)
      exact ⟨(), _, h, ⟨rfl, rfl, rfl, rfl, trivial⟩, rfl⟩
     ·refine Lj (Bi (Bi (Ck (Ai ?_))))
      obtain rfl := Option.some.inj h
      obtain rfl : _ = x3 := hk3
      exact ⟨s3, _, ho3, ⟨rfl, rfl, rfl, rfl, trivial⟩, rfl⟩
    ·replace h := B1 hc h
     clear hc
     refine Av rfl rfl rfl rfl (Av rfl rfl rfl rfl (Av rfl rfl rfl rfl (sv rfl (Am rfl rfl) (As (G0 rfl (fun hx => Bool.noConfusion hx) (fun _ => ?_))))))
     refine Lj (Bi (Bi (Ck (Ai ?_))))
     obtain rfl := Option.some.inj h
     obtain rfl : _ = x3 := hk3
     exact ⟨s3, _, ho3, ⟨rfl, rfl, rfl, rfl, trivial⟩, rfl⟩
 ·skip
  refine Ab (sv rfl (Ao Amw rfl (.lp _ _ _ rfl) (Nbl rfl)) ?_)
  obtain ⟨v10, hv10, h⟩ := An h
  refine A2 rfl Aru (Ac rfl Al) (Aj rfl) (N8 hv10) (sv rfl (B9 rfl) (sv rfl (Ag rfl) (Bo 11 rfl (fun hc => ?_) (fun hc => ?_))))
  ·replace h := B2 hc h
   clear hc
   refine Av rfl rfl rfl rfl (Av rfl rfl rfl rfl (Av rfl rfl rfl rfl (sv rfl (Au rfl rfl) (As (G0 rfl (fun _ => ?_) (fun hx => Bool.noConfusion hx))))))
   refine Aq ?_
   refine Kb [2, 3] [0, 0, 1, 7, 15] [[.box (EL.el a0), .box (EL.el a1), .box Zbc, .box Zbb], [.box (EL.el a0), .box (EL.el a1), .box Zbc, .box Zbb], [.box (EL.el a0), .box (EL.el a1), .box Zbc, .box (EL.el a1)]] (by kernel_rfl) Ma (by kernel_rfl) (by decide) rfl rfl rfl rfl ?_
   refine ev (Bh 0 rfl rfl) rfl rfl (Bk Aax Aed Ba (.nil _)) (ev (B4 (md := [.box (EL.el a0), .box (EL.el a1), .box Zbc, .dead]) ⟨⟨rfl, ⟨rfl, ⟨rfl, ⟨trivial, trivial⟩⟩⟩⟩, ⟨⟨rfl, ⟨rfl, ⟨rfl, ⟨trivial, trivial⟩⟩⟩⟩, ⟨⟨rfl, ⟨rfl, ⟨rfl, ⟨trivial, trivial⟩⟩⟩⟩, trivial⟩⟩⟩) rfl rfl (Ao Sb rfl (.lp _ _ _ rfl) (Nbl rfl)) (ee0 0 rfl rfl rfl rfl (fun ζ => ?_) ?_))
   ·refine Ax Ah0 rfl rfl rfl rfl (Nbl rfl) (Bs [.box (EL.el a0), .box (EL.el a1), .box Zbc, .box Zbb] rfl ?_)
    exact Sd
   refine ee0 1 rfl rfl rfl rfl (fun ζ => ?_) ?_
   ·refine Ax Xa rfl rfl rfl rfl (Nbl rfl) (Bs [.box (EL.el a0), .box (EL.el a1), .box Zbc, .box (EL.el a1)] rfl ?_)
    exact Sd
   refine ev (Bh 2 rfl rfl) rfl rfl (Ak rfl) (Y1 (Ai (Bj (Ar ?_))))
   obtain rfl := Option.some.inj h
   refine ⟨Or.inr rfl, _, _, _, (Ad (Bd.agg _ _ _ _ _ Ad4 rfl (.lp _ _ _ rfl) (Nbl rfl)) (Ad (Bd.agg _ _ _ _ _ Sb rfl (.lp _ _ _ rfl) (Nbl rfl)) (Ad (Bd.tmp _ _ rfl) Af))), (Np rfl), ?_⟩
   rfl
  ·replace h := B1 hc h
   clear hc
   refine son rfl rfl rfl (sv rfl (Aa Ot rfl) (son rfl rfl rfl (sv rfl (Ae ti3 rfl (.lp _ _ _ rfl) rfl) (son rfl rfl rfl (sv rfl (Cp rfl rfl) (sv rfl (Am rfl rfl) (As (ccI h rfl (fun h => ?_) (fun h => ?_)))))))))
   ·refine Aq ?_
    refine Kb [2, 3] [0, 0, 1, 7, 15] [[.box (EL.el a0), .box (EL.el a1), .box Zbc, .box Zbb], [.box (EL.el a0), .box (EL.el a1), .box Zbc, .box Zbb], [.box (EL.el a0), .box (EL.el a1), .box Zbc, .box (EL.el a1)]] (by kernel_rfl) Ma (by kernel_rfl) (by decide) rfl rfl rfl rfl ?_
    refine ev (Bh 0 rfl rfl) rfl rfl (Bk Aax Aed Ba (.nil _)) (ev (B4 (md := [.box (EL.el a0), .box (EL.el a1), .box Zbc, .dead]) ⟨⟨rfl, ⟨rfl, ⟨rfl, ⟨trivial, trivial⟩⟩⟩⟩, ⟨⟨rfl, ⟨rfl, ⟨rfl, ⟨trivial, trivial⟩⟩⟩⟩, ⟨⟨rfl, ⟨rfl, ⟨rfl, ⟨trivial, trivial⟩⟩⟩⟩, trivial⟩⟩⟩) rfl rfl (Ao Sb rfl (.lp _ _ _ rfl) (Nbl rfl)) (ee0 0 rfl rfl rfl rfl (fun ζ => ?_) ?_))
    ·refine Ax Ah0 rfl rfl rfl rfl (Nbl rfl) (Bs [.box (EL.el a0), .box (EL.el a1), .box Zbc, .box Zbb] rfl ?_)
     exact Sd
    refine ee0 1 rfl rfl rfl rfl (fun ζ => ?_) ?_
    ·refine Ax Xa rfl rfl rfl rfl (Nbl rfl) (Bs [.box (EL.el a0), .box (EL.el a1), .box Zbc, .box (EL.el a1)] rfl ?_)
     exact Sd
    refine ev (Bh 2 rfl rfl) rfl rfl (Ak rfl) (Y1 (Ai (Bj (Ar ?_))))
    obtain rfl := Option.some.inj h
    refine ⟨Or.inr rfl, _, _, _, (Ad (Bd.agg _ _ _ _ _ Ad4 rfl (.lp _ _ _ rfl) (Nbl rfl)) (Ad (Bd.agg _ _ _ _ _ Sb rfl (.lp _ _ _ rfl) (Nbl rfl)) (Ad (Bd.tmp _ _ rfl) Af))), (Np rfl), ?_⟩
    rfl
   ·refine Bl (Ai ?_)
    exact ⟨(), _, h, ⟨rfl, rfl, rfl, rfl, trivial⟩, rfl⟩
def Ix (a0 : Int) (b1 : Unit) : Option (List A5) :=
 if (decide (0 < (wI (a0 - (wI (0 - 0)))))) then (if 0 < (wI (a0 - (wI (0 - 0)))) ∧ (wI (a0 - (wI (0 - 0)))) * ((80 : Nat) : Int) ≤ 281474976710656 then (if (0 : Int) ≤ 0 ∧ 0 ≤ ((List.replicate (wI (a0 - (wI (0 - 0)))).toNat Mo).length : Int) then (some ((List.replicate (wI (a0 - (wI (0 - 0)))).toNat Mo).take (0 : Int).toNat)) else none) else none) else (some ([] : List A5))
def I3 (a0 : Int) : Option (List A5) :=
 if (decide (a0 < 0)) then none else (Ix a0 ())
set_option maxRecDepth 100000 in
theorem Sn {a0 : Int} {r : (List A5)} (h : I3 a0 = some r) : G2 Tryz.prog 137 [] [.one (Znl), .one (Ii6 a0)] (fun y m' => y = .s (.one (.ls 0 r.length)) ∧ m' = [.arr 64 10 0 (r.flatMap Bb)]) := by
 unfold I3 at h
 refine Cv Tryz.func137 rfl (nt := 27) rfl (Nbl rfl) ?_
 intro w0 S0 X0 H0
 refine Aq (Ab (sv rfl (Ak rfl) (As (Aq (Aq (Ab (sv rfl (Ag rfl) (sv rfl (Cp rfl rfl) (As (G5 (Unit) (fun b1 => [(0, .s (.one (Znl))), (1, .s (.one (Ii6 a0)))]) (fun b1 => []) (fun b1 => Ix a0 b1 = some r) (fun _ _ => Be rfl) (fun _ _ => A0 rfl) (fun _ _ => Nat.le_of_ble_eq_true rfl) (fun b1 h => ?_) ?_))))))))))
 ·unfold Ix at h
  refine Aq (Aq (Ab (sv rfl (Ag rfl) (sv rfl (Ag rfl) (sv rfl (Kt Ak0 rfl) (sv rfl (Ag rfl) (sv rfl (Kl Ak0 rfl) (sv rfl (Mq rfl rfl) (sv rfl (Mq rfl rfl) (sv rfl (Ak rfl) (As (Aq (Ab (sv rfl (Ag rfl) (sv rfl (C6 rfl rfl) (As (ccI h rfl (fun h => ?_) (fun h => ?_))))))))))))))))))
  ·refine Ab (sv rfl (Ag rfl) (sv rfl (Ag rfl) (sv rfl (Kt Ak0 rfl) (sv rfl (N0 Ak0 rfl rfl) (sv rfl (Ag rfl) ?_)))))
   obtain ⟨hm2, h⟩ := D9 h
   refine Alm (f := Bb) (z := Mo) rfl Tryz.underlying42 Ate Tryz.underlying3 (fun _ => rfl) rfl rfl rfl hm2 (by decide) ?_
   refine sv rfl (Ag rfl) (sv rfl (Kl Ak0 rfl) ?_)
   obtain ⟨hs3, h⟩ := D9 h
   refine Adk (f := Bb) rfl Ak0 (fun _ => rfl) rfl rfl rfl rfl rfl hs3 ?_
   refine sv rfl (Ak rfl) (As (Aq (Ab (sv rfl (Ag rfl) (sv rfl (Ak rfl) (As (Bj ?_)))))))
   obtain rfl := Option.some.inj h
   exact ⟨Or.inr rfl, _, [1], [.one (.ls 0 ((List.replicate (wI (a0 - (wI (0 - 0)))).toNat Mo).take (0 : Int).toNat).length)], [.arr 64 10 0 (((List.replicate (wI (a0 - (wI (0 - 0)))).toNat Mo).take (0 : Int).toNat).flatMap Bb)], (Ad (Bd.tmp _ _ rfl) Af), rfl, rfl, ⟨by decide, rfl⟩, rfl, rfl, ⟨rfl, rfl⟩⟩
  ·refine Bl (Ai (Aq (Ab (sv rfl (Ag rfl) (sv rfl (Ak rfl) (As ?_))))))
   refine O2 64 10 4 (by decide) rfl ?_
   refine Bj ?_
   obtain rfl := Option.some.inj h
   exact ⟨Or.inr rfl, _, [0], [.one (.ls 0 ([] : List A5).length)], [.arr 64 10 0 (([] : List A5).flatMap Bb)], (Ad (Bd.tmp _ _ rfl) Af), rfl, rfl, ⟨by decide, rfl⟩, rfl, rfl, ⟨rfl, rfl⟩⟩
 ·skip
  refine ccI h rfl (fun h => ?_) (fun h => ?_)
  ·cases h
  ·refine Bl (Ai ?_)
   exact ⟨(), _, h, ⟨rfl, rfl, trivial⟩, rfl⟩
def Kd (b3 : (List A5)) : Option (List A5) :=
 some b3
def Er (a0 : List (List A5)) (s4 : Int × (List A5)) : Option (LB (Int × (List A5)) ((List A5))) :=
 if (decide (s4.1 < (a0.length : Int))) then ((idx a0 s4.1).bind fun u5 => if (s4.2.length + u5.length) * 80 ≤ 140737488355328 then (some (.cont ((wI (s4.1 + 1)), (s4.2 ++ u5)))) else none) else (some (.brk s4.2))
def H7 (a0 : List (List A5)) (b1 : Int) : Option (List A5) :=
 (I3 b1).bind fun v2 => (E4 (Er a0) Di (0, v2)).bind fun e7 => Kd e7
def Eu (a0 : List (List A5)) (s8 : Int × Int) : Option (LB (Int × Int) (Int)) :=
 if (decide (s8.2 < (a0.length : Int))) then ((idx a0 s8.2).bind fun u9 => if (decide ((wI (s8.1 + (u9.length : Int))) < 0)) then none else (some (.cont ((wI (s8.1 + (u9.length : Int))), (wI (s8.2 + 1)))))) else (some (.brk s8.1))
def Hy (a0 : List (List A5)) : Option (List A5) :=
 (E4 (Eu a0) Di (0, 0)).bind fun e10 => H7 a0 e10
set_option maxRecDepth 100000 in
theorem Qo {a0 : List (List A5)} {r : (List A5)} (h : Hy a0 = some r) : G2 Tryz.prog 128 [] [.one (.sl a0.length (a0.flatMap (eL Bb)))] (fun y m' => y = .s (.one (.ls 0 r.length)) ∧ m' = [.arr 64 10 0 (r.flatMap Bb)]) := by
 unfold Hy at h
 refine Cv Tryz.func128 rfl (nt := 36) rfl (Nbl rfl) ?_
 intro w0 S0 X0 H0
 refine Aq (Ab (sv rfl (Ak rfl) (As (Aq (Ab (sv rfl (Ak rfl) (As (Aq (Aq (Ab (sv rfl (Ag rfl) (sv rfl (Az Aih rfl) (sv rfl (Ag rfl) (As (G5 (Int) (fun b1 => [(0, .s (.one (.sl a0.length (a0.flatMap (eL Bb))))), (3, .s (.one (Ii6 b1)))]) (fun b1 => []) (fun b1 => H7 a0 b1 = some r) (fun _ _ => Be rfl) (fun _ _ => A0 rfl) (fun _ _ => Nat.le_of_ble_eq_true rfl) (fun b1 h => ?_) ?_)))))))))))))))
 ·unfold H7 at h
  refine Aq (Ab (sv rfl (Ag rfl) ?_))
  obtain ⟨v2, hv2, h⟩ := An h
  refine C2 (x' := .s (.one (.ls 0 v2.length))) (M' := [.arr 64 10 0 (v2.flatMap Bb)]) [] rfl Ask (.func _) (Ac rfl (Ac rfl Al)) (Sn hv2) rfl rfl (by decide) rfl rfl rfl ?_
  refine sv rfl (Ak rfl) (As (Aq (Aq (Ab (sv rfl (Ag rfl) (sv rfl (Az Aih rfl) (sv rfl (Ag rfl) (As (G5 ((List A5)) (fun b3 => [(6, .s (.one (.ls 0 b3.length)))]) (fun b3 => [.arr 64 10 0 (b3.flatMap Bb)]) (fun b3 => Kd b3 = some r) (fun _ _ => Be rfl) (fun _ _ => A0 rfl) (fun _ _ => Nat.le_of_ble_eq_true rfl) (fun b3 h => ?_) ?_)))))))))
  ·unfold Kd at h
   refine Aq (Ab (sv rfl (Ag rfl) (sv rfl (Ak rfl) (As (Bj ?_)))))
   obtain rfl := Option.some.inj h
   exact ⟨Or.inr rfl, _, [0], [.one (.ls 0 b3.length)], [.arr 64 10 0 (b3.flatMap Bb)], (Ad (Bd.tmp _ _ rfl) Af), rfl, rfl, ⟨by decide, rfl⟩, rfl, rfl, ⟨rfl, rfl⟩⟩
  ·skip
   refine B7 ?_
   obtain ⟨x4, hx4, ho4⟩ := An h
   refine Da (G := Nat × (Int × (List A5))) (fun g => [(6, .s (.one (.ls 0 g.2.2.length))), (25, .s (.one (.sl a0.length (a0.flatMap (eL Bb))))), (26, .s (.one (Ii6 (a0.length : Int)))), (27, .s (.one (Ii6 g.2.1)))]) (fun g => [.arr 64 10 0 (g.2.2.flatMap Bb)]) (fun g => E4 (Er a0) g.1 g.2 = some x4) (fun g => g.1) (Di, (0, v2)) hx4 ⟨rfl, rfl, rfl, rfl, trivial⟩ [] rfl (fun _ _ => Be rfl) (fun _ _ => A0 rfl) (fun _ _ => Nat.le_of_ble_eq_true rfl) ?_
   clear hx4 h
   rintro ⟨n4, s4⟩ h
   obtain ⟨n4, y4, rfl, h, hk4⟩ := Gs h
   unfold Er at h
   refine Aq (Ab (sv rfl (Cp rfl rfl) (As (Aq (ccI h rfl (fun h => ?_) (fun h => ?_))))))
   ·refine Bl (Ai (Aq (B7 (Aq (Ab ?_)))))
    obtain ⟨u5, hu5, h⟩ := An h
    refine sv rfl (Fe (f := (eL Bb)) Aih (fun _ => rfl) rfl rfl rfl rfl hu5) ?_
    refine sv rfl (Ae Aqj rfl (.cp _) rfl) (sv rfl (Ak rfl) (As (Ab (sv rfl (Ag rfl) (sv rfl (Ag rfl) ?_)))))
    obtain ⟨hb6, h⟩ := D9 h
    refine Ahz (f := Bb) (xs := s4.2) (us := u5) rfl Tryz.underlying42 Ate Avz (fun _ => rfl) rfl rfl (.one _ _ _ _ (.id _ rfl)) rfl rfl rfl (.sl _ _ _ (Bg (f := Bb) (fun _ => rfl) _)) rfl rfl hb6 (by decide) ?_
    refine sv rfl (Ak rfl) (Lz (A4 (Ai (Ab (sv rfl (B0 rfl rfl) (sv rfl (Ag rfl) (As ?_)))))))
    obtain rfl := Option.some.inj h
    exact ⟨(n4, ((wI (s4.1 + 1)), (s4.2 ++ u5))), _, hk4, ⟨rfl, rfl, rfl, rfl, trivial⟩, rfl, Nat.lt_succ_self _⟩
   ·refine Lj (Bi (Bi (Ck (Ai ?_))))
    obtain rfl := Option.some.inj h
    obtain rfl : _ = x4 := hk4
    exact ⟨s4.2, _, ho4, ⟨rfl, trivial⟩, rfl⟩
 ·skip
  refine B7 ?_
  obtain ⟨x8, hx8, ho8⟩ := An h
  refine Da (G := Nat × (Int × Int)) (fun g => [(0, .s (.one (.sl a0.length (a0.flatMap (eL Bb))))), (3, .s (.one (Ii6 g.2.1))), (9, .s (.one (.sl a0.length (a0.flatMap (eL Bb))))), (10, .s (.one (Ii6 (a0.length : Int)))), (11, .s (.one (Ii6 g.2.2)))]) (fun g => []) (fun g => E4 (Eu a0) g.1 g.2 = some x8) (fun g => g.1) (Di, (0, 0)) hx8 ⟨rfl, rfl, rfl, rfl, rfl, trivial⟩ [] rfl (fun _ _ => Be rfl) (fun _ _ => A0 rfl) (fun _ _ => Nat.le_of_ble_eq_true rfl) ?_
  clear hx8 h
  rintro ⟨n8, s8⟩ h
  obtain ⟨n8, y8, rfl, h, hk8⟩ := Gs h
  unfold Eu at h
  refine Aq (Ab (sv rfl (Cp rfl rfl) (As (Aq (ccI h rfl (fun h => ?_) (fun h => ?_))))))
  ·refine Bl (Ai (Aq (B7 (Aq (Ab ?_)))))
   obtain ⟨u9, hu9, h⟩ := An h
   refine sv rfl (Fe (f := (eL Bb)) Aih (fun _ => rfl) rfl rfl rfl rfl hu9) ?_
   refine sv rfl (Ae Aqj rfl (.cp _) rfl) (sv rfl (Ak rfl) (As (Aq (Ab (sv rfl (Ag rfl) (sv rfl (Ag rfl) (sv rfl (Az Ak0 rfl) (sv rfl (B0 rfl rfl) (sv rfl (Ak rfl) (As (Aq (Ab (sv rfl (Ag rfl) (sv rfl (Cp rfl rfl) (As (ccI h rfl (fun h => ?_) (fun h => ?_)))))))))))))))))
   ·cases h
   ·refine Bl (A4 (Ai (Ab (sv rfl (B0 rfl rfl) (sv rfl (Ag rfl) (As ?_))))))
    obtain rfl := Option.some.inj h
    exact ⟨(n8, ((wI (s8.1 + (u9.length : Int))), (wI (s8.2 + 1)))), _, hk8, ⟨rfl, rfl, rfl, rfl, rfl, trivial⟩, rfl, Nat.lt_succ_self _⟩
  ·refine Lj (Bi (Bi (Ck (Ai ?_))))
   obtain rfl := Option.some.inj h
   obtain rfl : _ = x8 := hk8
   exact ⟨s8.1, _, ho8, ⟨rfl, rfl, trivial⟩, rfl⟩
def Ed (a0 : Ah) : Option Ah :=
 (idx a0.Tasks 0).bind fun u1 => (Fp u1.Prog a0.St).bind fun v2 => if v2.2.2 then ((Cb ({a0 with Phase := 4, St := v2.2.1}) v2.1).bind fun v3 => some v3) else (if v2.2.1.Stopped then ((Cb ({a0 with Phase := 6, St := v2.2.1}) (Ca.mk 8 0 0 0 false ([] : List UInt8) ([] : List UInt8) Bt)).bind fun v4 => some v4) else ((idx a0.Tasks 0).bind fun u5 => (Cb ({a0 with Phase := 5, St := v2.2.1}) (Ca.mk 7 0 0 0 false ([] : List UInt8) ([] : List UInt8) Bt)).bind fun v6 => if (decide (v6.Phase = 11)) then (some v6) else ((Hy [v6.Tried, [(A5.mk u5.Token a0.Attempt v2.2.1.Regs)]]).bind fun v7 => some ({v6 with Risk := true, Tried := v7}))))
set_option maxRecDepth 100000 in
theorem Ly {a0 : Ah} {r : Ah} (h : Ed a0 = some r) : Bp Tryz.prog 116 [.agg (EL.el a0)] (· = .s (.agg (EL.el r))) := by
 unfold Ed at h
 refine A1 Tryz.func116 rfl (nt := 61) rfl (Nbl rfl) ?_
 intro w0 S0
 refine Aq (Ab (Jd rfl rfl (Bz rfl Nn (As (Aq (Ad2 (Ad2 ?_)))))))
 obtain ⟨u1, hu1, h⟩ := An h
 obtain ⟨v2, hv2, h⟩ := An h
 refine Amv [12, 13, 14, 15] [0, 1, 3, 7, 15, 0, 32, 127, 255, 511, 511, 511, 0, 0, 13311, 30719, 65535] [([false, false, false, false], [.box (EL.el a0), .box Zba, .hole, .hole]), ([false, true, false, false], [.box (EL.el a0), .box Zba, .hole, .box Zbb]), ([true, false, false, false], [.box (EL.el a0), .box Zba, .box Zbc, .hole]), ([true, true, false, false], [.box (EL.el a0), .box Zba, .box Zbc, .box Zbb]), ([true, true, true, false], [.box (EL.el a0), .box Zba, .box (EL.el v2.1), .box Zbb]), ([true, true, true, true], [.box (EL.el a0), .box Zba, .box (EL.el v2.1), .box (EL.el v2.2.1)])] (by kernel_rfl) Ma (by kernel_rfl) (by decide) rfl (by kernel_rfl) rfl rfl ?_
 refine mev (md := [.box (EL.el a0), .box Zba, .dead, .dead]) (Dc rfl ⟨rfl, ⟨rfl, ⟨trivial, ⟨trivial, trivial⟩⟩⟩⟩ (Dc rfl ⟨rfl, ⟨rfl, ⟨trivial, ⟨trivial, trivial⟩⟩⟩⟩ (Dc rfl ⟨rfl, ⟨rfl, ⟨trivial, ⟨trivial, trivial⟩⟩⟩⟩ (Dc rfl ⟨rfl, ⟨rfl, ⟨trivial, ⟨trivial, trivial⟩⟩⟩⟩ (Gc rfl (Gc rfl Jo)))))) rfl rfl (Aa Lw rfl) (mev (md := [.box (EL.el a0), .box Zba, .dead, .dead]) (Dc rfl ⟨rfl, ⟨rfl, ⟨trivial, ⟨trivial, trivial⟩⟩⟩⟩ (Dc rfl ⟨rfl, ⟨rfl, ⟨trivial, ⟨trivial, trivial⟩⟩⟩⟩ (Dc rfl ⟨rfl, ⟨rfl, ⟨trivial, ⟨trivial, trivial⟩⟩⟩⟩ (Dc rfl ⟨rfl, ⟨rfl, ⟨trivial, ⟨trivial, trivial⟩⟩⟩⟩ (Gc rfl (Gc rfl Jo)))))) rfl rfl (Ae Xy rfl (.lp _ _ _ rfl) rfl) (mev (md := [.box (EL.el a0), .box Zba, .dead, .dead]) (Dc rfl ⟨rfl, ⟨rfl, ⟨trivial, ⟨trivial, trivial⟩⟩⟩⟩ (Dc rfl ⟨rfl, ⟨rfl, ⟨trivial, ⟨trivial, trivial⟩⟩⟩⟩ (Dc rfl ⟨rfl, ⟨rfl, ⟨trivial, ⟨trivial, trivial⟩⟩⟩⟩ (Dc rfl ⟨rfl, ⟨rfl, ⟨trivial, ⟨trivial, trivial⟩⟩⟩⟩ (Gc rfl (Gc rfl Jo)))))) rfl rfl (Fe (f := Ay) T6 (fun _ => rfl) rfl rfl rfl rfl hu1) ?_))
 refine mev (md := [.box (EL.el a0), .box Zba, .dead, .dead]) (Dc rfl ⟨rfl, ⟨rfl, ⟨trivial, ⟨trivial, trivial⟩⟩⟩⟩ (Dc rfl ⟨rfl, ⟨rfl, ⟨trivial, ⟨trivial, trivial⟩⟩⟩⟩ (Dc rfl ⟨rfl, ⟨rfl, ⟨trivial, ⟨trivial, trivial⟩⟩⟩⟩ (Dc rfl ⟨rfl, ⟨rfl, ⟨trivial, ⟨trivial, trivial⟩⟩⟩⟩ (Gc rfl (Gc rfl Jo)))))) rfl rfl (B3 Acl rfl) (mev (md := [.box (EL.el a0), .box Zba, .dead, .dead]) (Dc rfl ⟨rfl, ⟨rfl, ⟨trivial, ⟨trivial, trivial⟩⟩⟩⟩ (Dc rfl ⟨rfl, ⟨rfl, ⟨trivial, ⟨trivial, trivial⟩⟩⟩⟩ (Dc rfl ⟨rfl, ⟨rfl, ⟨trivial, ⟨trivial, trivial⟩⟩⟩⟩ (Dc rfl ⟨rfl, ⟨rfl, ⟨trivial, ⟨trivial, trivial⟩⟩⟩⟩ (Gc rfl (Gc rfl Jo)))))) rfl rfl (Dd (ys := [.b u1.Prog.RO, .sl u1.Prog.Ops.length (u1.Prog.Ops.flatMap Cf)]) Amw rfl (.cp _) rfl rfl) (mev (md := [.box (EL.el a0), .box Zba, .dead, .dead]) (Dc rfl ⟨rfl, ⟨rfl, ⟨trivial, ⟨trivial, trivial⟩⟩⟩⟩ (Dc rfl ⟨rfl, ⟨rfl, ⟨trivial, ⟨trivial, trivial⟩⟩⟩⟩ (Dc rfl ⟨rfl, ⟨rfl, ⟨trivial, ⟨trivial, trivial⟩⟩⟩⟩ (Dc rfl ⟨rfl, ⟨rfl, ⟨trivial, ⟨trivial, trivial⟩⟩⟩⟩ (Gc rfl (Gc rfl Jo)))))) rfl rfl (Aa Py rfl) (mev (md := [.box (EL.el a0), .box Zba, .dead, .dead]) (Dc rfl ⟨rfl, ⟨rfl, ⟨trivial, ⟨trivial, trivial⟩⟩⟩⟩ (Dc rfl ⟨rfl, ⟨rfl, ⟨trivial, ⟨trivial, trivial⟩⟩⟩⟩ (Dc rfl ⟨rfl, ⟨rfl, ⟨trivial, ⟨trivial, trivial⟩⟩⟩⟩ (Dc rfl ⟨rfl, ⟨rfl, ⟨trivial, ⟨trivial, trivial⟩⟩⟩⟩ (Gc rfl (Gc rfl Jo)))))) rfl rfl (Ao Sb rfl (.lp _ _ _ rfl) (Nbl rfl)) (med (md := [.box (EL.el a0), .box Zba, .dead, .dead]) (Dc rfl ⟨rfl, ⟨rfl, ⟨trivial, ⟨trivial, trivial⟩⟩⟩⟩ (Dc rfl ⟨rfl, ⟨rfl, ⟨trivial, ⟨trivial, trivial⟩⟩⟩⟩ (Dc rfl ⟨rfl, ⟨rfl, ⟨trivial, ⟨trivial, trivial⟩⟩⟩⟩ (Dc rfl ⟨rfl, ⟨rfl, ⟨trivial, ⟨trivial, trivial⟩⟩⟩⟩ (Gc rfl (Gc rfl Jo)))))) rfl rfl (D2 Atf (Ac rfl (Ac rfl Al)) rfl (Vh hv2)) (Ato rfl rfl (fun _ => Gj rfl) ?_)))))
 refine mev (md := [.box (EL.el a0), .box Zba, .dead, .dead]) (Dc rfl ⟨rfl, ⟨rfl, ⟨trivial, ⟨trivial, trivial⟩⟩⟩⟩ (Dc rfl ⟨rfl, ⟨rfl, ⟨trivial, ⟨trivial, trivial⟩⟩⟩⟩ (Dc rfl ⟨rfl, ⟨rfl, ⟨trivial, ⟨trivial, trivial⟩⟩⟩⟩ (Dc rfl ⟨rfl, ⟨rfl, ⟨trivial, ⟨trivial, trivial⟩⟩⟩⟩ (Gc rfl (Gc rfl Jo)))))) rfl rfl (Bc rfl rfl) (mev (md := [.box (EL.el a0), .box Zba, .dead, .dead]) (Dc rfl ⟨rfl, ⟨rfl, ⟨trivial, ⟨trivial, trivial⟩⟩⟩⟩ (Dc rfl ⟨rfl, ⟨rfl, ⟨trivial, ⟨trivial, trivial⟩⟩⟩⟩ (Dc rfl ⟨rfl, ⟨rfl, ⟨trivial, ⟨trivial, trivial⟩⟩⟩⟩ (Dc rfl ⟨rfl, ⟨rfl, ⟨trivial, ⟨trivial, trivial⟩⟩⟩⟩ (Dc rfl ⟨rfl, ⟨rfl, ⟨trivial, ⟨trivial, trivial⟩⟩⟩⟩ (Gc rfl Jo)))))) rfl rfl (Bc rfl rfl) (mev (md := [.box (EL.el a0), .box Zba, .dead, .dead]) (Dc rfl ⟨rfl, ⟨rfl, ⟨trivial, ⟨trivial, trivial⟩⟩⟩⟩ (Dc rfl ⟨rfl, ⟨rfl, ⟨trivial, ⟨trivial, trivial⟩⟩⟩⟩ (Dc rfl ⟨rfl, ⟨rfl, ⟨trivial, ⟨trivial, trivial⟩⟩⟩⟩ (Dc rfl ⟨rfl, ⟨rfl, ⟨trivial, ⟨trivial, trivial⟩⟩⟩⟩ (Dc rfl ⟨rfl, ⟨rfl, ⟨trivial, ⟨trivial, trivial⟩⟩⟩⟩ (Dc rfl ⟨rfl, ⟨rfl, ⟨trivial, ⟨trivial, trivial⟩⟩⟩⟩ Jo)))))) rfl rfl (Bc rfl rfl) (mee (x := .s (.one (.lp 2 0))) 0 rfl rfl ?_ ?_)))
 ·refine Dc rfl ⟨_, rfl, fun ζ => ?_⟩ ?_
  ·refine Nm 2 rfl Aax rfl ?_
   exact Sd
  refine Dc rfl ⟨_, rfl, fun ζ => ?_⟩ ?_
  ·refine Nm 2 rfl Aax rfl ?_
   exact Sd
  refine Gc rfl (Gc rfl (Gc rfl (Gc rfl ?_)))
  exact Jo
 refine mee (x := .s (.one (.lp 3 0))) 1 rfl rfl ?_ ?_
 ·refine Dc rfl ⟨_, rfl, fun ζ => ?_⟩ ?_
  ·refine Nm 3 rfl Agz rfl ?_
   exact Sd
  refine Gc rfl (Dc rfl ⟨_, rfl, fun ζ => ?_⟩ ?_)
  ·refine Nm 3 rfl Agz rfl ?_
   exact Sd
  refine Gc rfl (Gc rfl (Gc rfl ?_))
  exact Jo
 refine Atr 2 rfl ?_ ?_
 ·refine Gc rfl (Gc rfl (Gc rfl (Dc rfl ⟨_, rfl, fun ζ => ?_⟩ ?_)))
  ·refine Ax Ah0 rfl rfl rfl rfl (Nbl rfl) (Bs [.box (EL.el a0), .box Zba, .box (EL.el v2.1), .box Zbb] rfl ?_)
   exact Sd
  refine Gc rfl (Gc rfl ?_)
  exact Jo
 refine Atr 3 rfl ?_ ?_
 ·refine Gc rfl (Gc rfl (Gc rfl (Gc rfl (Dc rfl ⟨_, rfl, fun ζ => ?_⟩ ?_))))
  ·refine Ax Xa rfl rfl rfl rfl (Nbl rfl) (Bs [.box (EL.el a0), .box Zba, .box (EL.el v2.1), .box (EL.el v2.2.1)] rfl ?_)
   exact Sd
  refine Gc rfl ?_
  exact Jo
 refine Ato rfl rfl (fun _ => Ak rfl) ?_
 refine Asl (Ai (Aq (Ab (sv rfl (Ao Sb rfl (.lp _ _ _ rfl) (Nbl rfl)) (sv rfl (Aa Py rfl) (Ax Xa rfl rfl rfl rfl (Nbl rfl) (Bs [.box (EL.el {a0 with St := v2.2.1}), .box Zba, .box (EL.el v2.1), .box (EL.el v2.2.1)] rfl (As (Aq (B7 (Aq (Ab (sv rfl (Ag rfl) (sv rfl (Ak rfl) (As (ccI h rfl (fun h => ?_) (fun h => ?_)))))))))))))))))
 ·refine Aq (Ab (sv rfl (Aa G4 rfl) (Ax sz3 rfl rfl rfl rfl (Nbl rfl) (Bs [.box (EL.el {a0 with Phase := 4, St := v2.2.1}), .box Zba, .box (EL.el v2.1), .box (EL.el v2.2.1)] rfl (As (Aq (Ab (sv rfl (Ao B5 rfl (.lp _ _ _ rfl) (Nbl rfl)) (sv rfl (Ao Ad4 rfl (.lp _ _ _ rfl) (Nbl rfl)) ?_)))))))))
  obtain ⟨v3, hv3, h⟩ := An h
  refine A2 rfl Amx (Ac rfl (Ac rfl Al)) (Aj rfl) (C7 hv3) (Ax Ey rfl rfl rfl rfl (Nbl rfl) (Bs [.box (EL.el {a0 with Phase := 4, St := v2.2.1}), .box (EL.el v3), .box (EL.el v2.1), .box (EL.el v2.2.1)] rfl (As (Bj (A9 (Ar ?_))))))
  obtain rfl := Option.some.inj h
  refine ⟨Or.inr rfl, _, _, _, (Ad (Bd.agg _ _ _ _ _ B5 rfl (.lp _ _ _ rfl) (Nbl rfl)) Af), (Aj rfl), ?_⟩
  rfl
 ·refine Aq (Ab (sv rfl (Aa Wq rfl) (sv rfl (Ae ti4 rfl (.lp _ _ _ rfl) rfl) (sv rfl (Ak rfl) (As (ccI h rfl (fun h => ?_) (fun h => ?_)))))))
  ·refine Aq (Ab (sv rfl (Aa G4 rfl) (Ax sz3 rfl rfl rfl rfl (Nbl rfl) (Bs [.box (EL.el {a0 with Phase := 6, St := v2.2.1}), .box Zba, .box (EL.el v2.1), .box (EL.el v2.2.1)] rfl (As (Aq (Ab (sv rfl (Ao B5 rfl (.lp _ _ _ rfl) (Nbl rfl)) (sv rfl (Bk Aax Aed (Ap rfl Ba) (.cons _ _ _ _ _ _ _ rfl rfl (Nbl rfl) (.nil _))) ?_)))))))))
   obtain ⟨v4, hv4, h⟩ := An h
   refine A2 rfl Amx (Ac rfl (Ac rfl Al)) (Np rfl) (C7 hv4) (Ax Ey rfl rfl rfl rfl (Nbl rfl) (Bs [.box (EL.el {a0 with Phase := 6, St := v2.2.1}), .box (EL.el v4), .box (EL.el v2.1), .box (EL.el v2.2.1)] rfl (As (Bj (A9 (Ar ?_))))))
   obtain rfl := Option.some.inj h
   refine ⟨Or.inr rfl, _, _, _, (Ad (Bd.agg _ _ _ _ _ B5 rfl (.lp _ _ _ rfl) (Nbl rfl)) Af), (Aj rfl), ?_⟩
   rfl
  ·refine Bl (A4 (Ai (Aq (Ad2 ?_))))
   obtain ⟨u5, hu5, h⟩ := An h
   refine Kb [10, 11] [0, 1, 3, 7, 15, 0, 32, 0, 128, 511, 0, 2047] [[.box (EL.el {a0 with St := v2.2.1}), .box Zba, .box (EL.el v2.1), .box (EL.el v2.2.1), .hole], [.box (EL.el {a0 with St := v2.2.1}), .box Zba, .box (EL.el v2.1), .box (EL.el v2.2.1), .box [Ii6 0, Ii6 0, Ii6 0, Ii6 0, Ii6 0, Ii6 0, Ii6 0, Ii6 0, Ii6 0, Ii6 0]], [.box (EL.el {a0 with St := v2.2.1}), .box Zba, .box (EL.el v2.1), .box (EL.el v2.2.1), .box (EL.el (A5.mk u5.Token a0.Attempt v2.2.1.Regs))]] (by kernel_rfl) Ma (by kernel_rfl) (by decide) rfl rfl rfl rfl ?_
   refine ev (B4 (md := [.box (EL.el {a0 with St := v2.2.1}), .box Zba, .box (EL.el v2.1), .box (EL.el v2.2.1), .dead]) ⟨⟨rfl, ⟨rfl, ⟨rfl, ⟨rfl, ⟨trivial, trivial⟩⟩⟩⟩⟩, ⟨⟨rfl, ⟨rfl, ⟨rfl, ⟨rfl, ⟨trivial, trivial⟩⟩⟩⟩⟩, ⟨⟨rfl, ⟨rfl, ⟨rfl, ⟨rfl, ⟨trivial, trivial⟩⟩⟩⟩⟩, trivial⟩⟩⟩) rfl rfl (Aa Lw rfl) (ev (B4 (md := [.box (EL.el {a0 with St := v2.2.1}), .box Zba, .box (EL.el v2.1), .box (EL.el v2.2.1), .dead]) ⟨⟨rfl, ⟨rfl, ⟨rfl, ⟨rfl, ⟨trivial, trivial⟩⟩⟩⟩⟩, ⟨⟨rfl, ⟨rfl, ⟨rfl, ⟨rfl, ⟨trivial, trivial⟩⟩⟩⟩⟩, ⟨⟨rfl, ⟨rfl, ⟨rfl, ⟨rfl, ⟨trivial, trivial⟩⟩⟩⟩⟩, trivial⟩⟩⟩) rfl rfl (Ae Xy rfl (.lp _ _ _ rfl) rfl) (ev (B4 (md := [.box (EL.el {a0 with St := v2.2.1}), .box Zba, .box (EL.el v2.1), .box (EL.el v2.2.1), .dead]) ⟨⟨rfl, ⟨rfl, ⟨rfl, ⟨rfl, ⟨trivial, trivial⟩⟩⟩⟩⟩, ⟨⟨rfl, ⟨rfl, ⟨rfl, ⟨rfl, ⟨trivial, trivial⟩⟩⟩⟩⟩, ⟨⟨rfl, ⟨rfl, ⟨rfl, ⟨rfl, ⟨trivial, trivial⟩⟩⟩⟩⟩, trivial⟩⟩⟩) rfl rfl (Fe (f := Ay) T6 (fun _ => rfl) rfl rfl rfl rfl hu5) ?_))
   refine ev (B4 (md := [.box (EL.el {a0 with St := v2.2.1}), .box Zba, .box (EL.el v2.1), .box (EL.el v2.2.1), .dead]) ⟨⟨rfl, ⟨rfl, ⟨rfl, ⟨rfl, ⟨trivial, trivial⟩⟩⟩⟩⟩, ⟨⟨rfl, ⟨rfl, ⟨rfl, ⟨rfl, ⟨trivial, trivial⟩⟩⟩⟩⟩, ⟨⟨rfl, ⟨rfl, ⟨rfl, ⟨rfl, ⟨trivial, trivial⟩⟩⟩⟩⟩, trivial⟩⟩⟩) rfl rfl (B3 Sj rfl) (ev (B4 (md := [.box (EL.el {a0 with St := v2.2.1}), .box Zba, .box (EL.el v2.1), .box (EL.el v2.2.1), .dead]) ⟨⟨rfl, ⟨rfl, ⟨rfl, ⟨rfl, ⟨trivial, trivial⟩⟩⟩⟩⟩, ⟨⟨rfl, ⟨rfl, ⟨rfl, ⟨rfl, ⟨trivial, trivial⟩⟩⟩⟩⟩, ⟨⟨rfl, ⟨rfl, ⟨rfl, ⟨rfl, ⟨trivial, trivial⟩⟩⟩⟩⟩, trivial⟩⟩⟩) rfl rfl (Ae ti3 rfl (.cp _) rfl) (ev (B4 (md := [.box (EL.el {a0 with St := v2.2.1}), .box Zba, .box (EL.el v2.1), .box (EL.el v2.2.1), .dead]) ⟨⟨rfl, ⟨rfl, ⟨rfl, ⟨rfl, ⟨trivial, trivial⟩⟩⟩⟩⟩, ⟨⟨rfl, ⟨rfl, ⟨rfl, ⟨rfl, ⟨trivial, trivial⟩⟩⟩⟩⟩, ⟨⟨rfl, ⟨rfl, ⟨rfl, ⟨rfl, ⟨trivial, trivial⟩⟩⟩⟩⟩, trivial⟩⟩⟩) rfl rfl (Aa Oe rfl) (ev (B4 (md := [.box (EL.el {a0 with St := v2.2.1}), .box Zba, .box (EL.el v2.1), .box (EL.el v2.2.1), .dead]) ⟨⟨rfl, ⟨rfl, ⟨rfl, ⟨rfl, ⟨trivial, trivial⟩⟩⟩⟩⟩, ⟨⟨rfl, ⟨rfl, ⟨rfl, ⟨rfl, ⟨trivial, trivial⟩⟩⟩⟩⟩, ⟨⟨rfl, ⟨rfl, ⟨rfl, ⟨rfl, ⟨trivial, trivial⟩⟩⟩⟩⟩, trivial⟩⟩⟩) rfl rfl (Ae ti3 rfl (.lp _ _ _ rfl) rfl) (ev (B4 (md := [.box (EL.el {a0 with St := v2.2.1}), .box Zba, .box (EL.el v2.1), .box (EL.el v2.2.1), .dead]) ⟨⟨rfl, ⟨rfl, ⟨rfl, ⟨rfl, ⟨trivial, trivial⟩⟩⟩⟩⟩, ⟨⟨rfl, ⟨rfl, ⟨rfl, ⟨rfl, ⟨trivial, trivial⟩⟩⟩⟩⟩, ⟨⟨rfl, ⟨rfl, ⟨rfl, ⟨rfl, ⟨trivial, trivial⟩⟩⟩⟩⟩, trivial⟩⟩⟩) rfl rfl (Aa O0 rfl) (ev (B4 (md := [.box (EL.el {a0 with St := v2.2.1}), .box Zba, .box (EL.el v2.1), .box (EL.el v2.2.1), .dead]) ⟨⟨rfl, ⟨rfl, ⟨rfl, ⟨rfl, ⟨trivial, trivial⟩⟩⟩⟩⟩, ⟨⟨rfl, ⟨rfl, ⟨rfl, ⟨rfl, ⟨trivial, trivial⟩⟩⟩⟩⟩, ⟨⟨rfl, ⟨rfl, ⟨rfl, ⟨rfl, ⟨trivial, trivial⟩⟩⟩⟩⟩, trivial⟩⟩⟩) rfl rfl (Ao Aua rfl (.lp _ _ _ rfl) (Nbl rfl)) (ev (B4 (md := [.box (EL.el {a0 with St := v2.2.1}), .box Zba, .box (EL.el v2.1), .box (EL.el v2.2.1), .dead]) ⟨⟨rfl, ⟨rfl, ⟨rfl, ⟨rfl, ⟨trivial, trivial⟩⟩⟩⟩⟩, ⟨⟨rfl, ⟨rfl, ⟨rfl, ⟨rfl, ⟨trivial, trivial⟩⟩⟩⟩⟩, ⟨⟨rfl, ⟨rfl, ⟨rfl, ⟨rfl, ⟨trivial, trivial⟩⟩⟩⟩⟩, trivial⟩⟩⟩) rfl rfl (Bk Aue Au1 (Ap rfl (Ap rfl (Ap rfl Ba))) (.cons _ _ _ _ _ _ _ rfl rfl (Nbl rfl) (.cons _ _ _ _ _ _ _ rfl rfl (Nbl rfl) (.cons _ _ _ _ _ _ _ rfl rfl (Nbl rfl) (.nil _))))) (ee (x := .s (.one (.lp 4 0))) 0 rfl rfl rfl rfl rfl (fun ζ => ?_) ?_)))))))
   ·refine Nm 4 rfl Aue rfl ?_
    exact Sd
   refine ee0 1 rfl rfl rfl rfl (fun ζ => ?_) ?_
   ·refine Ax Avq rfl rfl rfl rfl (Nbl rfl) (Bs [.box (EL.el {a0 with St := v2.2.1}), .box Zba, .box (EL.el v2.1), .box (EL.el v2.2.1), .box (EL.el (A5.mk u5.Token a0.Attempt v2.2.1.Regs))] rfl ?_)
    exact Sd
   refine Y1 (Ai (Aq (Ab (sv rfl (Aa G4 rfl) (Ax sz3 rfl rfl rfl rfl (Nbl rfl) (Bs [.box (EL.el {a0 with Phase := 5, St := v2.2.1}), .box Zba, .box (EL.el v2.1), .box (EL.el v2.2.1), .box (EL.el (A5.mk u5.Token a0.Attempt v2.2.1.Regs))] rfl (As (Aq (Ab (sv rfl (Ao B5 rfl (.lp _ _ _ rfl) (Nbl rfl)) (sv rfl (Bk Aax Aed (Ap rfl Ba) (.cons _ _ _ _ _ _ _ rfl rfl (Nbl rfl) (.nil _))) ?_)))))))))))
   obtain ⟨v6, hv6, h⟩ := An h
   refine A2 rfl Amx (Ac rfl (Ac rfl Al)) (Np rfl) (C7 hv6) (Ax Ey rfl rfl rfl rfl (Nbl rfl) (Bs [.box (EL.el v6), .box Zba, .box (EL.el v2.1), .box (EL.el v2.2.1), .box (EL.el (A5.mk u5.Token a0.Attempt v2.2.1.Regs))] rfl (As (Aq (Aq (Ab (sv rfl (Aa G4 rfl) (sv rfl (Ae ti3 rfl (.lp _ _ _ rfl) rfl) (sv rfl (Bq rfl rfl) (As (ccI h rfl (fun h => ?_) (fun h => ?_))))))))))))
   ·refine Aq (Ab (sv rfl (Ao B5 rfl (.lp _ _ _ rfl) (Nbl rfl)) (Ax Ey rfl rfl rfl rfl (Nbl rfl) (Bs [.box (EL.el v6), .box (EL.el v6), .box (EL.el v2.1), .box (EL.el v2.2.1), .box (EL.el (A5.mk u5.Token a0.Attempt v2.2.1.Regs))] rfl (As (Bj (Ar ?_)))))))
    obtain rfl := Option.some.inj h
    refine ⟨Or.inr rfl, _, _, _, (Ad (Bd.agg _ _ _ _ _ B5 rfl (.lp _ _ _ rfl) (Nbl rfl)) Af), (Aj rfl), ?_⟩
    rfl
   ·refine Bl (Ai (Aq (Ab (sv rfl (Aa Abr rfl) (sv rfl (Ae Aqj rfl (.lp _ _ _ rfl) rfl) (sv rfl (Ao Auz rfl (.lp _ _ _ rfl) (Nbl rfl)) ?_))))))
    refine Qw rfl Tryz.underlying42 Ate rfl rfl (List.all_eq_true.1 rfl) (by decide) ?_
    refine Bs [.box (EL.el v6), .box Zba, .box (EL.el v2.1), .box (EL.el v2.2.1), .box (EL.el (A5.mk u5.Token a0.Attempt v2.2.1.Regs)), .arr 64 10 0 ([(A5.mk u5.Token a0.Attempt v2.2.1.Regs)].flatMap Bb)] rfl ?_
    refine Aai 55 rfl (by (repeat' first | exact J5.nil _ | apply J5.cons | apply Jz.one | apply Jz.agg | exact E6.nil | exact E6.ls _ _ _ _ _ _ rfl (Bg (f := Bb) (fun _ => rfl) ([(A5.mk u5.Token a0.Attempt v2.2.1.Regs)] : List A5)).symm | exact E6.ls _ _ _ _ _ _ rfl (Bg (f := Bb) (fun _ => rfl) _).symm | exact E6.id _ rfl | exact D1.nil _ | apply D1.cons)) ?_
    refine S8 (out := ([v6.Tried, [(A5.mk u5.Token a0.Attempt v2.2.1.Regs)]] : List (List A5)).flatMap (eL Bb)) rfl Tryz.underlying216 Auw (Ap rfl (Ap rfl Ba)) (.cons _ _ _ _ _ _ _ rfl rfl (Nbl rfl) (.cons _ _ _ _ _ _ _ rfl rfl (Nbl rfl) (.nil _))) rfl (by decide) ?_
    refine Aai 56 rfl (by (repeat' first | exact J5.nil _ | apply J5.cons | apply Jz.one | apply Jz.agg | exact E6.nil | exact E6.ls _ _ _ _ _ _ rfl (Bg (f := (eL Bb)) (fun _ => rfl) ([v6.Tried, [(A5.mk u5.Token a0.Attempt v2.2.1.Regs)]] : List (List A5))).symm | exact E6.ls _ _ _ _ _ _ rfl (Bg (f := (eL Bb)) (fun _ => rfl) _).symm | exact E6.ls _ _ _ _ _ _ rfl (Bg (f := Bb) (fun _ => rfl) _).symm | exact E6.id _ rfl | exact D1.nil _ | apply D1.cons)) ?_
    obtain ⟨v7, hv7, h⟩ := An h
    refine C2 (x' := .s (.one (.ls 7 v7.length))) (M' := [.box (EL.el v6), .box Zba, .box (EL.el v2.1), .box (EL.el v2.2.1), .box (EL.el (A5.mk u5.Token a0.Attempt v2.2.1.Regs)), .arr 64 10 ([(A5.mk u5.Token a0.Attempt v2.2.1.Regs)].flatMap Bb).length ([(A5.mk u5.Token a0.Attempt v2.2.1.Regs)].flatMap Bb), .arr 42 1 ([v6.Tried, [(A5.mk u5.Token a0.Attempt v2.2.1.Regs)]].flatMap (eL Bb)).length ([v6.Tried, [(A5.mk u5.Token a0.Attempt v2.2.1.Regs)]].flatMap (eL Bb)), .arr 64 10 0 (v7.flatMap Bb)]) [] rfl Ar0 (.func _) (Ac rfl Al) (Qo hv7) rfl rfl (by decide) rfl rfl rfl ?_
    refine sv rfl (Aa Abr rfl) (Ax Av7 rfl rfl rfl rfl (Nbl rfl) (Bs [.box ((EL.el v6).set 39 (.ls 7 v7.length)), .box Zba, .box (EL.el v2.1), .box (EL.el v2.2.1), .box (EL.el (A5.mk u5.Token a0.Attempt v2.2.1.Regs)), .arr 64 10 ([(A5.mk u5.Token a0.Attempt v2.2.1.Regs)].flatMap Bb).length ([(A5.mk u5.Token a0.Attempt v2.2.1.Regs)].flatMap Bb), .arr 42 1 ([v6.Tried, [(A5.mk u5.Token a0.Attempt v2.2.1.Regs)]].flatMap (eL Bb)).length ([v6.Tried, [(A5.mk u5.Token a0.Attempt v2.2.1.Regs)]].flatMap (eL Bb)), .arr 64 10 0 (v7.flatMap Bb)] rfl (As (Aq (Ab (sv rfl (Aa Xo rfl) (Ax sz4 rfl rfl rfl rfl (Nbl rfl) (Bs [.box ((EL.el {v6 with Risk := true}).set 39 (.ls 7 v7.length)), .box Zba, .box (EL.el v2.1), .box (EL.el v2.2.1), .box (EL.el (A5.mk u5.Token a0.Attempt v2.2.1.Regs)), .arr 64 10 ([(A5.mk u5.Token a0.Attempt v2.2.1.Regs)].flatMap Bb).length ([(A5.mk u5.Token a0.Attempt v2.2.1.Regs)].flatMap Bb), .arr 42 1 ([v6.Tried, [(A5.mk u5.Token a0.Attempt v2.2.1.Regs)]].flatMap (eL Bb)).length ([v6.Tried, [(A5.mk u5.Token a0.Attempt v2.2.1.Regs)]].flatMap (eL Bb)), .arr 64 10 0 (v7.flatMap Bb)] rfl (As (Aq (Ab (sv rfl (Ao B5 rfl (.lp _ _ _ rfl) (Nbl rfl)) (Ax Ey rfl rfl rfl rfl (Nbl rfl) (Bs [.box ((EL.el {v6 with Risk := true}).set 39 (.ls 7 v7.length)), .box ((EL.el {v6 with Risk := true}).set 39 (.ls 7 v7.length)), .box (EL.el v2.1), .box (EL.el v2.2.1), .box (EL.el (A5.mk u5.Token a0.Attempt v2.2.1.Regs)), .arr 64 10 ([(A5.mk u5.Token a0.Attempt v2.2.1.Regs)].flatMap Bb).length ([(A5.mk u5.Token a0.Attempt v2.2.1.Regs)].flatMap Bb), .arr 42 1 ([v6.Tried, [(A5.mk u5.Token a0.Attempt v2.2.1.Regs)]].flatMap (eL Bb)).length ([v6.Tried, [(A5.mk u5.Token a0.Attempt v2.2.1.Regs)]].flatMap (eL Bb)), .arr 64 10 0 (v7.flatMap Bb)] rfl (As (Bj ?_))))))))))))))))
    obtain rfl := Option.some.inj h
    refine ⟨Or.inr rfl, _, _, _, (Ad (Bd.agg _ _ _ _ _ B5 rfl (.lp _ _ _ rfl) (Nbl rfl)) Af), (by (repeat' first | exact J5.nil _ | apply J5.cons | apply Jz.one | apply Jz.agg | exact E6.nil | exact E6.ls _ _ _ _ _ _ rfl (Bg (f := (eL Bb)) (fun _ => rfl) _).symm | exact E6.ls _ _ _ _ _ _ rfl (Bg (f := Bb) (fun _ => rfl) _).symm | exact E6.id _ rfl | exact D1.nil _ | apply D1.cons)), ?_⟩
    rfl
def E0 (a0 : Ah) (a1 : Bf) : Option Ah :=
 if (!decide (a1.Code = 0)) then ((Df a0 a1.Code).bind fun v1 => some v1) else ((Ed a0).bind fun v2 => some v2)
set_option maxRecDepth 100000 in
theorem Ob {a0 : Ah} {a1 : Bf} {r : Ah} (h : E0 a0 a1 = some r) : Bp Tryz.prog 100 [.agg (EL.el a0), .agg (EL.el a1)] (· = .s (.agg (EL.el r))) := by
 unfold E0 at h
 refine A1 Tryz.func100 rfl (nt := 14) rfl (Nbl rfl) ?_
 intro w0 S0
 refine Aq (Ab (Jd rfl rfl (Jd rfl rfl (Bz rfl Nn (As (Aq (Aq (Ab (sv rfl (Aa Rd rfl) (sv rfl (Ae Aa1 rfl (.lp _ _ _ rfl) rfl) (sv rfl (Cd rfl rfl) (As (ccI h rfl (fun h => ?_) (fun h => ?_))))))))))))))
 ·refine Aq (Ab (sv rfl (Ao B5 rfl (.lp _ _ _ rfl) (Nbl rfl)) (sv rfl (Aa Rd rfl) (sv rfl (Ae Aa1 rfl (.lp _ _ _ rfl) rfl) ?_))))
  obtain ⟨v1, hv1, h⟩ := An h
  refine A2 rfl Ao4 (Ac rfl (Ac rfl Al)) (Aj rfl) (Kg hv1) (Ax Ey rfl rfl rfl rfl (Nbl rfl) (Bs [.box (EL.el a0), .box (EL.el a1), .box (EL.el v1)] rfl (As (Bj (Ar ?_)))))
  obtain rfl := Option.some.inj h
  refine ⟨Or.inr rfl, _, _, _, (Ad (Bd.agg _ _ _ _ _ B5 rfl (.lp _ _ _ rfl) (Nbl rfl)) Af), (Aj rfl), ?_⟩
  rfl
 ·refine Bl (Ai (Aq (Ab (sv rfl (Ao B5 rfl (.lp _ _ _ rfl) (Nbl rfl)) ?_))))
  obtain ⟨v2, hv2, h⟩ := An h
  refine A2 rfl Aqa (Ac rfl Al) (Aj rfl) (Ly hv2) (Ax Ey rfl rfl rfl rfl (Nbl rfl) (Bs [.box (EL.el a0), .box (EL.el a1), .box (EL.el v2)] rfl (As (Bj ?_))))
  obtain rfl := Option.some.inj h
  refine ⟨Or.inr rfl, _, _, _, (Ad (Bd.agg _ _ _ _ _ B5 rfl (.lp _ _ _ rfl) (Nbl rfl)) Af), (Aj rfl), ?_⟩
  rfl
def Lr  : Option Unit :=
 (Cn 4).bind fun v1 => if (!v1) then none else (some ())
set_option maxRecDepth 100000 in
theorem P9  {r : Unit} (h : Lr = some r) : G2 Tryz.prog 79 [] [.one (Ii6 4)] (fun y m' => y = .s (.one (.raw (.func (.func 101) #[] #[]))) ∧ m' = []) := by
 unfold Lr at h
 refine Cv Tryz.func79 rfl (nt := 11) rfl (Nbl rfl) ?_
 intro w0 S0 X0 H0
 refine Aq (Ab (sv rfl (Ak rfl) (As (Aq (Ab (sv rfl (G6 Rx S4 (Ap rfl (Ap rfl (Ap rfl (Ap rfl (Ap rfl (Ap rfl (Ap rfl Ba))))))) (Ef [.raw .nilFunc, .raw .nilFunc, .raw (.func (.func 99) #[] #[]), .raw .nilFunc, .raw .nilFunc, .raw .nilFunc, .raw .nilFunc, .raw .nilFunc, .raw .nilFunc, .raw .nilFunc] rfl rfl (Nbl rfl) rfl (Ef [.raw .nilFunc, .raw .nilFunc, .raw (.func (.func 99) #[] #[]), .raw (.func (.func 100) #[] #[]), .raw .nilFunc, .raw .nilFunc, .raw .nilFunc, .raw .nilFunc, .raw .nilFunc, .raw .nilFunc] rfl rfl (Nbl rfl) rfl (Ef [.raw .nilFunc, .raw .nilFunc, .raw (.func (.func 99) #[] #[]), .raw (.func (.func 100) #[] #[]), .raw (.func (.func 101) #[] #[]), .raw .nilFunc, .raw .nilFunc, .raw .nilFunc, .raw .nilFunc, .raw .nilFunc] rfl rfl (Nbl rfl) rfl (Ef [.raw .nilFunc, .raw .nilFunc, .raw (.func (.func 99) #[] #[]), .raw (.func (.func 100) #[] #[]), .raw (.func (.func 101) #[] #[]), .raw (.func (.func 102) #[] #[]), .raw .nilFunc, .raw .nilFunc, .raw .nilFunc, .raw .nilFunc] rfl rfl (Nbl rfl) rfl (Ef [.raw .nilFunc, .raw .nilFunc, .raw (.func (.func 99) #[] #[]), .raw (.func (.func 100) #[] #[]), .raw (.func (.func 101) #[] #[]), .raw (.func (.func 102) #[] #[]), .raw (.func (.func 103) #[] #[]), .raw .nilFunc, .raw .nilFunc, .raw .nilFunc] rfl rfl (Nbl rfl) rfl (Ef [.raw .nilFunc, .raw .nilFunc, .raw (.func (.func 99) #[] #[]), .raw (.func (.func 100) #[] #[]), .raw (.func (.func 101) #[] #[]), .raw (.func (.func 102) #[] #[]), .raw (.func (.func 103) #[] #[]), .raw (.func (.func 104) #[] #[]), .raw .nilFunc, .raw .nilFunc] rfl rfl (Nbl rfl) rfl (Ef [.raw .nilFunc, .raw .nilFunc, .raw (.func (.func 99) #[] #[]), .raw (.func (.func 100) #[] #[]), .raw (.func (.func 101) #[] #[]), .raw (.func (.func 102) #[] #[]), .raw (.func (.func 103) #[] #[]), .raw (.func (.func 104) #[] #[]), .raw .nilFunc, .raw (.func (.func 105) #[] #[])] rfl rfl (Nbl rfl) rfl (.nil _))))))))) (Bz rfl Rx (Ax Zt rfl rfl rfl rfl (Nbl rfl) (Bs [.box [.raw .nilFunc, .raw .nilFunc, .raw (.func (.func 99) #[] #[]), .raw (.func (.func 100) #[] #[]), .raw (.func (.func 101) #[] #[]), .raw (.func (.func 102) #[] #[]), .raw (.func (.func 103) #[] #[]), .raw (.func (.func 104) #[] #[]), .raw .nilFunc, .raw (.func (.func 105) #[] #[])]] rfl (As (Aq (Aq (Ab (sv rfl (Ag rfl) ?_))))))))))))))
 obtain ⟨v1, hv1, h⟩ := An h
 refine A2 rfl Aim (Ac rfl Al) (Aj rfl) (Dy hv1) (sv rfl (B9 rfl) (As (ccI h rfl (fun h => ?_) (fun h => ?_))))
 ·refine Aq (Ab ?_)
  cases h
 ·refine Bl (Ai (Aq (Ab (sv rfl (Ag rfl) ?_))))
  refine sv rfl (Oz (o := 4) S4 rfl rfl (by decide)) ?_
  refine sv rfl (Ae Acb rfl (.lp _ _ _ rfl) rfl) (sv rfl (Ak rfl) (As (Bj ?_)))
  obtain rfl := Option.some.inj h
  exact ⟨Or.inr rfl, _, [], [.one (.raw (.func (.func 101) #[] #[]))], [], (Ad (Bd.tmp _ _ rfl) Af), rfl, rfl, ⟨by decide, rfl⟩, rfl, rfl, ⟨rfl, rfl⟩⟩
def Ky (a0 : List UInt8) : Option Int :=
 (cut a0 0 (if 4 < (a0.length : Int) then 4 else (a0.length : Int))).bind fun c1 => (Jf c1).bind fun v2 => (A3 (c1.length : Int) v2.1 v2.2.1 v2.2.2).bind fun v3 => some (wI (v3.1.toNat : Int))
set_option maxRecDepth 100000 in
theorem Rc {a0 : List UInt8} {r : Int} (h : Ky a0 = some r) : Bp Tryz.prog 131 [.one (.sl a0.length (a0.flatMap eU8))] (· = .s (.one (Ii6 r))) := by
 unfold Ky at h
 refine A1 Tryz.func131 rfl (nt := 14) rfl (Nbl rfl) ?_
 intro w0 S0
 refine Aq (Ab (sv rfl (Ak rfl) (As (Aq (Ab (sv rfl (Ag rfl) (sv rfl (Ag rfl) (sv rfl (Az Lh rfl) (sv rfl (Sw rfl rfl) ?_)))))))))
 obtain ⟨c1, hc1, h⟩ := An h
 refine sv rfl (Sl (f := eU8) (lo := 0) (hi := (if 4 < (a0.length : Int) then 4 else (a0.length : Int))) Lh (fun _ => rfl) rfl rfl rfl Rm (Hn rfl (Int.le_trans (Ks hc1).1.1 (Ks hc1).1.2.1)) hc1) ?_
 refine sv rfl (Ak rfl) (As (Aq (Ab (sv rfl (Ag rfl) ?_))))
 obtain ⟨v2, hv2, h⟩ := An h
 refine C2 (x' := .s (.one (.lp 0 0))) (M' := [.box [.fn 112 [] [.lp 1 0, .lp 2 0], Ii6 v2.1], .box [Ii6 v2.2.1], .box [.sl v2.2.2.length (v2.2.2.flatMap eU8)]]) [] rfl As0 (.func _) (Ac rfl Al) (O3 hv2) rfl rfl (by decide) rfl rfl rfl ?_
 refine sv rfl (Ag rfl) (sv rfl (Az Lh rfl) ?_)
 obtain ⟨v3, hv3, h⟩ := An h
 refine C2 (x' := .s (.one (.i .u64 (v3.1.toNat : Int)))) (M' := [.box [.fn 112 [] [.lp 1 0, .lp 2 0], Ii6 v3.2.1], .box [Ii6 v3.2.2], .box [.sl v2.2.2.length (v2.2.2.flatMap eU8)]]) [0, 1, 2] rfl Ah5 (.func _) (Ac rfl (Ac rfl Al)) (Cz hv3) rfl rfl (by decide) rfl rfl rfl ?_
 refine sv rfl (F0 Tryz.underlying112 Tryz.underlying3 rfl) (sv rfl (Ak rfl) (As (Bj ?_)))
 obtain rfl := Option.some.inj h
 refine ⟨Or.inr rfl, _, _, _, (Ad (Bd.tmp _ _ rfl) Af), (Aj rfl), ?_⟩
 rfl
def Nr (b1 : Int) : Option Int :=
 some b1
def Ju (a0 : List Db) (s2 : Int × Int) : Option (LB (Int × Int) (Int)) :=
 if (decide (s2.2 < (a0.length : Int))) then ((idx a0 s2.2).bind fun u3 => (Ky u3.Val).bind fun v4 => (H9 (wI (s2.1 + v4))).bind fun v5 => some (.cont (v5, (wI (s2.2 + 1))))) else (some (.brk s2.1))
def Mn (a0 : List Db) : Option Int :=
 (E4 (Ju a0) Di (0, 0)).bind fun e6 => Nr e6
set_option maxRecDepth 100000 in
theorem Vt {a0 : List Db} {r : Int} (h : Mn a0 = some r) : Bp Tryz.prog 132 [.one (.sl a0.length (a0.flatMap Dw))] (· = .s (.one (Ii6 r))) := by
 unfold Mn at h
 refine A1 Tryz.func132 rfl (nt := 20) rfl (Nbl rfl) ?_
 intro w0 S0
 refine Aq (Ab (sv rfl (Ak rfl) (As (Aq (Ab (sv rfl (Ak rfl) (As (Aq (Aq (Ab (sv rfl (Ag rfl) (sv rfl (Az Adj rfl) (sv rfl (Ag rfl) (As (G5 (Int) (fun b1 => [(3, .s (.one (Ii6 b1)))]) (fun b1 => []) (fun b1 => Nr b1 = some r) (fun _ _ => Be rfl) (fun _ _ => A0 rfl) (fun _ _ => Nat.le_of_ble_eq_true rfl) (fun b1 h => ?_) ?_)))))))))))))))
 ·unfold Nr at h
  refine Aq (Ab (sv rfl (Ag rfl) (sv rfl (Ak rfl) (As (Bj ?_)))))
  obtain rfl := Option.some.inj h
  refine ⟨Or.inr rfl, _, _, _, (Ad (Bd.tmp _ _ rfl) Af), (Aj rfl), ?_⟩
  rfl
 ·skip
  refine B7 ?_
  obtain ⟨x2, hx2, ho2⟩ := An h
  refine Da (G := Nat × (Int × Int)) (fun g => [(3, .s (.one (Ii6 g.2.1))), (6, .s (.one (.sl a0.length (a0.flatMap Dw)))), (7, .s (.one (Ii6 (a0.length : Int)))), (8, .s (.one (Ii6 g.2.2)))]) (fun g => []) (fun g => E4 (Ju a0) g.1 g.2 = some x2) (fun g => g.1) (Di, (0, 0)) hx2 ⟨rfl, rfl, rfl, rfl, trivial⟩ [] rfl (fun _ _ => Be rfl) (fun _ _ => A0 rfl) (fun _ _ => Nat.le_of_ble_eq_true rfl) ?_
  clear hx2 h
  rintro ⟨n2, s2⟩ h
  obtain ⟨n2, y2, rfl, h, hk2⟩ := Gs h
  unfold Ju at h
  refine Aq (Ab (sv rfl (Cp rfl rfl) (As (Aq (ccI h rfl (fun h => ?_) (fun h => ?_))))))
  ·refine Bl (Ai (Aq (B7 (Aq (Ab ?_)))))
   obtain ⟨u3, hu3, h⟩ := An h
   refine sv rfl (Fe (f := Dw) Adj (fun _ => rfl) rfl rfl rfl rfl hu3) ?_
   refine sv rfl (Dd (ys := [.sl u3.Key.length (u3.Key.flatMap eU8), .sl u3.Val.length (u3.Val.flatMap eU8)]) Alj rfl (.cp _) rfl rfl) (Bz rfl Aiu (Ax Am1 rfl rfl rfl rfl (Nbl rfl) (Bs [.box (EL.el u3)] rfl (As (Ab (sv rfl (Ag rfl) (sv rfl (Aa Yn rfl) (sv rfl (Ae L4 rfl (.lp _ _ _ rfl) rfl) ?_))))))))
   obtain ⟨v4, hv4, h⟩ := An h
   refine A2 rfl Apz (Ac rfl Al) (Aj rfl) (Rc hv4) (sv rfl (B0 rfl rfl) ?_)
   obtain ⟨v5, hv5, h⟩ := An h
   refine A2 rfl Apy (Ac rfl Al) (Aj rfl) (Ox hv5) (sv rfl (Ak rfl) (Lz (A4 (Ai (Ab (sv rfl (B0 rfl rfl) (sv rfl (Ag rfl) (As ?_))))))))
   obtain rfl := Option.some.inj h
   exact ⟨(n2, (v5, (wI (s2.2 + 1)))), _, hk2, ⟨rfl, rfl, rfl, rfl, trivial⟩, rfl, Nat.lt_succ_self _⟩
  ·refine Lj (Bi (Bi (Ck (Ai ?_))))
   obtain rfl := Option.some.inj h
   obtain rfl : _ = x2 := hk2
   exact ⟨s2.1, _, ho2, ⟨rfl, trivial⟩, rfl⟩
def Gl (b4 : A7) : Option (A7 × Int) :=
 some (b4, 0)
def La (a0 : Co) (a1 : A7) (a2 : Bf) (b2 : Unit) : Option (A7 × Int) :=
 (idx a0.Ops a1.PC).bind fun u3 => if (decide (u3.What = 1)) then (if 0 ≤ u3.B ∧ u3.B < ((8 : Nat) : Int) then ((Ia (E3.mk a1.Regs.R0 a1.Regs.R1 a1.Regs.R2 a1.Regs.R3 a1.Regs.R4 a1.Regs.R5 a1.Regs.R6 a1.Regs.R7) u3.B 0).bind fun q6 => if 0 ≤ u3.A ∧ u3.A < ((8 : Nat) : Int) then ((Ia (E3.mk q6.R0 q6.R1 q6.R2 q6.R3 q6.R4 q6.R5 q6.R6 q6.R7) u3.A 0).bind fun q8 => if a2.Found then (if 0 ≤ u3.B ∧ u3.B < ((8 : Nat) : Int) then ((Ia (E3.mk q8.R0 q8.R1 q8.R2 q8.R3 q8.R4 q8.R5 q8.R6 q8.R7) u3.B 1).bind fun q10 => (Ky a2.Val).bind fun v11 => if 0 ≤ u3.A ∧ u3.A < ((8 : Nat) : Int) then ((Ia (E3.mk q10.R0 q10.R1 q10.R2 q10.R3 q10.R4 q10.R5 q10.R6 q10.R7) u3.A v11).bind fun q13 => Gl (A7.mk (wI (a1.PC + 1)) q13 a1.Stopped)) else none) else none) else (Gl (A7.mk (wI (a1.PC + 1)) q8 a1.Stopped))) else none) else none) else (if (decide (u3.What = 4)) then ((Mn a2.List).bind fun v14 => if 0 ≤ u3.B ∧ u3.B < ((8 : Nat) : Int) then ((Ia (E3.mk a1.Regs.R0 a1.Regs.R1 a1.Regs.R2 a1.Regs.R3 a1.Regs.R4 a1.Regs.R5 a1.Regs.R6 a1.Regs.R7) u3.B v14).bind fun q16 => if 0 ≤ u3.A ∧ u3.A < ((8 : Nat) : Int) then ((Ia (E3.mk q16.R0 q16.R1 q16.R2 q16.R3 q16.R4 q16.R5 q16.R6 q16.R7) u3.A (a2.List.length : Int)).bind fun q18 => Gl (A7.mk (wI (a1.PC + 1)) q18 a1.Stopped)) else none) else none) else (Gl (A7.mk (wI (a1.PC + 1)) a1.Regs a1.Stopped)))
def Dl (a0 : Co) (a1 : A7) (a2 : Bf) : Option (A7 × Int) :=
 (D0 a0).bind fun v1 => if (!v1) then (some (Hw, 1)) else ((E8 a1.PC (wI ((a0.Ops.length : Int) - 1))).bind fun v19 => if (!v19) then (some (Hw, 7)) else (if a1.Stopped then (some (Hw, 7)) else ((idx a0.Ops a1.PC).bind fun u20 => (J4 u20).bind fun v21 => if (!v21) then (some (Hw, 7)) else (La a0 a1 a2 ()))))
set_option maxRecDepth 100000 in
theorem U6 {a0 : Co} {a1 : A7} {a2 : Bf} {r : A7 × Int} (h : Dl a0 a1 a2 = some r) : Bp Tryz.prog 118 [.agg (EL.el a0), .agg (EL.el a1), .agg (EL.el a2)] (· = .tup [.agg (EL.el r.1), .one (Ii6 r.2)]) := by
 unfold Dl at h
 refine A1 Tryz.func118 rfl (nt := 88) rfl (Nbl rfl) ?_
 intro w0 S0
 refine Aq (Ab (Jd rfl rfl (Jd rfl rfl (Jd rfl rfl (Bz rfl Agz (sv rfl (Ak rfl) (As (Aq (Aq (Ab (sv rfl (Ao Amw rfl (.lp _ _ _ rfl) (Nbl rfl)) ?_)))))))))))
 obtain ⟨v1, hv1, h⟩ := An h
 refine A2 rfl Aru (Ac rfl Al) (Aj rfl) (N8 hv1) (sv rfl (B9 rfl) (As (ccI h rfl (fun h => ?_) (fun h => ?_))))
 ·refine Aq (Ab (sv rfl (Bk Agz Apd Ba (.nil _)) (Ax Xa rfl rfl rfl rfl (Nbl rfl) (Bs [.box (EL.el a0), .box (EL.el a1), .box (EL.el a2), .box Zbb] rfl (sv rfl (Ak rfl) (As (Bj (Ar ?_))))))))
  obtain rfl := Option.some.inj h
  refine ⟨Or.inr rfl, _, _, _, (Ad (Bd.agg _ _ _ _ _ Sb rfl (.lp _ _ _ rfl) (Nbl rfl)) (Ad (Bd.tmp _ _ rfl) Af)), (Aj rfl), ?_⟩
  rfl
 ·refine Bl (Ai (Aq (Aq (Ki (Unit) (fun b2 => [(3, .s (.one (.lp 0 0))), (4, .s (.one (.lp 1 0))), (5, .s (.one (.lp 2 0))), (6, .s (.one (.lp 3 0)))]) (fun b2 => [.box (EL.el a0), .box (EL.el a1), .box (EL.el a2), .box Zbb]) (fun b2 => La a0 a1 a2 b2 = some r) (fun _ _ => Be rfl) (fun _ _ => A0 rfl) (fun _ _ => Nat.le_of_ble_eq_true rfl) (fun b2 h => ?_) ?_))))
  ·unfold La at h
   refine Aq (Ab (sv rfl (Aa R9 rfl) (sv rfl (Ae Aix rfl (.lp _ _ _ rfl) rfl) (sv rfl (Aa Ot rfl) (sv rfl (Ae ti3 rfl (.lp _ _ _ rfl) rfl) ?_)))))
   obtain ⟨u3, hu3, h⟩ := An h
   refine sv rfl (Fe (f := Cf) Ajo (fun _ => rfl) rfl rfl rfl rfl hu3) ?_
   refine sv rfl (Dd (ys := [Ii6 u3.What, Ii6 u3.A, Ii6 u3.B, Ii6 u3.N, .sl u3.Key.length (u3.Key.flatMap eU8), .sl u3.Rng.Lo.length (u3.Rng.Lo.flatMap eU8), .sl u3.Rng.Hi.length (u3.Rng.Hi.flatMap eU8), .b u3.Rng.Open]) Ako rfl (.cp _) rfl rfl) (Bz rfl Ap9 (Ax Asb rfl rfl rfl rfl (Nbl rfl) (Bs [.box (EL.el a0), .box (EL.el a1), .box (EL.el a2), .box Zbb, .box (EL.el u3)] rfl (As (Aq (Ab (sv rfl (Aa Ot rfl) (sv rfl (Ae ti3 rfl (.lp _ _ _ rfl) rfl) (sv rfl (B0 rfl rfl) (sv rfl (Aa Ot rfl) (Ax sz3 rfl rfl rfl rfl (Nbl rfl) (Bs [.box (EL.el a0), .box (EL.el {a1 with PC := wI (a1.PC + 1)}), .box (EL.el a2), .box Zbb, .box (EL.el u3)] rfl (As (Aq (Aq (Ab (sv rfl (Aa Vu rfl) (sv rfl (Ae ti3 rfl (.lp _ _ _ rfl) rfl) (As (G5 (A7) (fun b4 => [(4, .s (.one (.lp 1 0))), (6, .s (.one (.lp 3 0)))]) (fun b4 => [.box (EL.el a0), .box (EL.el b4), .box (EL.el a2), .box Zbb, .box (EL.el u3)]) (fun b4 => Gl b4 = some r) (fun _ _ => Be rfl) (fun _ _ => A0 rfl) (fun _ _ => Nat.le_of_ble_eq_true rfl) (fun b4 h => ?_) ?_))))))))))))))))))))
   ·unfold Gl at h
    refine Aq (Ab (sv rfl (Ao Sb rfl (.lp _ _ _ rfl) (Nbl rfl)) (Ax Xa rfl rfl rfl rfl (Nbl rfl) (Bs [.box (EL.el a0), .box (EL.el b4), .box (EL.el a2), .box (EL.el b4), .box (EL.el u3)] rfl (sv rfl (Ak rfl) (As (Bj ?_)))))))
    obtain rfl := Option.some.inj h
    refine ⟨Or.inr rfl, _, _, _, (Ad (Bd.agg _ _ _ _ _ Sb rfl (.lp _ _ _ rfl) (Nbl rfl)) (Ad (Bd.tmp _ _ rfl) Af)), (Aj rfl), ?_⟩
    rfl
   ·skip
    refine B7 (Aq (Ab (sv rfl (Bq rfl rfl) (sv rfl (Ak rfl) (As (ccI h rfl (fun h => ?_) (fun h => ?_)))))))
    ·refine Aq ?_
     obtain ⟨hj5, h⟩ := D9 h
     obtain ⟨q6, hq6, h⟩ := An h
     obtain ⟨hj7, h⟩ := D9 h
     obtain ⟨q8, hq8, h⟩ := An h
     refine Kb [6, 9] [0, 1, 0, 4, 0, 19, 51, 0, 255, 511] [[.box (EL.el a0), .box (EL.el {a1 with PC := wI (a1.PC + 1)}), .box (EL.el a2), .box Zbb, .box (EL.el u3)], [.box (EL.el a0), .box [Ii6 (wI (a1.PC + 1)), Ii6 q6.R0, Ii6 q6.R1, Ii6 q6.R2, Ii6 q6.R3, Ii6 q6.R4, Ii6 q6.R5, Ii6 q6.R6, Ii6 q6.R7, .b a1.Stopped], .box (EL.el a2), .box Zbb, .box (EL.el u3)], [.box (EL.el a0), .box [Ii6 (wI (a1.PC + 1)), Ii6 q8.R0, Ii6 q8.R1, Ii6 q8.R2, Ii6 q8.R3, Ii6 q8.R4, Ii6 q8.R5, Ii6 q8.R6, Ii6 q8.R7, .b a1.Stopped], .box (EL.el a2), .box Zbb, .box (EL.el u3)]] (by kernel_rfl) Ma (by kernel_rfl) (by decide) rfl rfl rfl rfl ?_
     refine ev (Bh 0 rfl rfl) rfl rfl (Aa Xt rfl) (ev (Bh 0 rfl rfl) rfl rfl (Ae ti3 rfl (.lp _ _ _ rfl) rfl) (ev (B4 (md := [.box (EL.el a0), .dead, .box (EL.el a2), .box Zbb, .box (EL.el u3)]) ⟨⟨rfl, ⟨trivial, ⟨rfl, ⟨rfl, ⟨rfl, trivial⟩⟩⟩⟩⟩, ⟨⟨rfl, ⟨trivial, ⟨rfl, ⟨rfl, ⟨rfl, trivial⟩⟩⟩⟩⟩, ⟨⟨rfl, ⟨trivial, ⟨rfl, ⟨rfl, ⟨rfl, trivial⟩⟩⟩⟩⟩, trivial⟩⟩⟩) rfl rfl (Aa Uq rfl) (ev (B4 (md := [.box (EL.el a0), .dead, .box (EL.el a2), .box Zbb, .box (EL.el u3)]) ⟨⟨rfl, ⟨trivial, ⟨rfl, ⟨rfl, ⟨rfl, trivial⟩⟩⟩⟩⟩, ⟨⟨rfl, ⟨trivial, ⟨rfl, ⟨rfl, ⟨rfl, trivial⟩⟩⟩⟩⟩, ⟨⟨rfl, ⟨trivial, ⟨rfl, ⟨rfl, ⟨rfl, trivial⟩⟩⟩⟩⟩, trivial⟩⟩⟩) rfl rfl (Ae ti3 rfl (.lp _ _ _ rfl) rfl) (ev (Bh 0 rfl rfl) rfl rfl (Aa O0 rfl) (ev (Bh 0 rfl rfl) rfl rfl (L6 Aeq rfl rfl hj5) (ee0 0 rfl rfl rfl rfl (fun ζ => ?_) ?_))))))
     ·refine Ax sz3 rfl rfl rfl rfl (Zl hj5 (Nbl rfl)) (Bs [.box (EL.el a0), .box [Ii6 (wI (a1.PC + 1)), Ii6 q6.R0, Ii6 q6.R1, Ii6 q6.R2, Ii6 q6.R3, Ii6 q6.R4, Ii6 q6.R5, Ii6 q6.R6, Ii6 q6.R7, .b a1.Stopped], .box (EL.el a2), .box Zbb, .box (EL.el u3)] (Q9 (Akl hq6 [Ii6 (wI (a1.PC + 1))] [.b a1.Stopped])) ?_)
      exact Sd
     refine ev (B4 (md := [.box (EL.el a0), .dead, .box (EL.el a2), .box Zbb, .box (EL.el u3)]) ⟨⟨rfl, ⟨trivial, ⟨rfl, ⟨rfl, ⟨rfl, trivial⟩⟩⟩⟩⟩, ⟨⟨rfl, ⟨trivial, ⟨rfl, ⟨rfl, ⟨rfl, trivial⟩⟩⟩⟩⟩, ⟨⟨rfl, ⟨trivial, ⟨rfl, ⟨rfl, ⟨rfl, trivial⟩⟩⟩⟩⟩, trivial⟩⟩⟩) rfl rfl (Aa O0 rfl) (ev (Bh 1 rfl rfl) rfl rfl (L6 Aeq rfl rfl hj7) (ee0 1 rfl rfl rfl rfl (fun ζ => ?_) ?_))
     ·refine Ax sz3 rfl rfl rfl rfl (Zl hj7 (Nbl rfl)) (Bs [.box (EL.el a0), .box [Ii6 (wI (a1.PC + 1)), Ii6 q8.R0, Ii6 q8.R1, Ii6 q8.R2, Ii6 q8.R3, Ii6 q8.R4, Ii6 q8.R5, Ii6 q8.R6, Ii6 q8.R7, .b a1.Stopped], .box (EL.el a2), .box Zbb, .box (EL.el u3)] (Q9 (Akl hq8 [Ii6 (wI (a1.PC + 1))] [.b a1.Stopped])) ?_)
      exact Sd
     refine Y1 (Ai (Aq (Ab (sv rfl (Aa Aam rfl) (sv rfl (Ae ti4 rfl (.lp _ _ _ rfl) rfl) (As (ccI h rfl (fun h => ?_) (fun h => ?_))))))))
     ·refine Aq (Ab (sv rfl (Aa Xt rfl) (sv rfl (Ae ti3 rfl (.lp _ _ _ rfl) rfl) (sv rfl (Aa O0 rfl) ?_))))
      obtain ⟨hj9, h⟩ := D9 h
      refine sv rfl (L6 Aeq rfl rfl hj9) ?_
      obtain ⟨q10, hq10, h⟩ := An h
      refine Ax sz3 rfl rfl rfl rfl (Zl hj9 (Nbl rfl)) (Bs [.box (EL.el a0), .box [Ii6 (wI (a1.PC + 1)), Ii6 q10.R0, Ii6 q10.R1, Ii6 q10.R2, Ii6 q10.R3, Ii6 q10.R4, Ii6 q10.R5, Ii6 q10.R6, Ii6 q10.R7, .b a1.Stopped], .box (EL.el a2), .box Zbb, .box (EL.el u3)] (Q9 (Akl hq10 [Ii6 (wI (a1.PC + 1))] [.b a1.Stopped])) (As ?_))
      obtain ⟨v11, hv11, h⟩ := An h
      obtain ⟨hj12, h⟩ := D9 h
      obtain ⟨q13, hq13, h⟩ := An h
      refine Kb [7] [0, 1, 0, 4, 12, 0, 63, 127] [[.box (EL.el a0), .box [Ii6 (wI (a1.PC + 1)), Ii6 q10.R0, Ii6 q10.R1, Ii6 q10.R2, Ii6 q10.R3, Ii6 q10.R4, Ii6 q10.R5, Ii6 q10.R6, Ii6 q10.R7, .b a1.Stopped], .box (EL.el a2), .box Zbb, .box (EL.el u3)], [.box (EL.el a0), .box [Ii6 (wI (a1.PC + 1)), Ii6 q13.R0, Ii6 q13.R1, Ii6 q13.R2, Ii6 q13.R3, Ii6 q13.R4, Ii6 q13.R5, Ii6 q13.R6, Ii6 q13.R7, .b a1.Stopped], .box (EL.el a2), .box Zbb, .box (EL.el u3)]] (by kernel_rfl) Ma (by kernel_rfl) (by decide) rfl rfl rfl rfl ?_
      refine ev (Bh 0 rfl rfl) rfl rfl (Aa Uq rfl) (ev (Bh 0 rfl rfl) rfl rfl (Ae ti3 rfl (.lp _ _ _ rfl) rfl) (ev (Bh 0 rfl rfl) rfl rfl (Aa Zi rfl) (ev (Bh 0 rfl rfl) rfl rfl (Ae L4 rfl (.lp _ _ _ rfl) rfl) (ed (Bh 0 rfl rfl) rfl rfl (D2 Apz (Ac rfl Al) rfl (Rc hv11)) (ev (Bh 0 rfl rfl) rfl rfl (Aa O0 rfl) (ev (Bh 0 rfl rfl) rfl rfl (L6 Aeq rfl rfl hj12) (ee0 0 rfl rfl rfl rfl (fun ζ => ?_) ?_)))))))
      ·refine Ax sz3 rfl rfl rfl rfl (Zl hj12 (Nbl rfl)) (Bs [.box (EL.el a0), .box [Ii6 (wI (a1.PC + 1)), Ii6 q13.R0, Ii6 q13.R1, Ii6 q13.R2, Ii6 q13.R3, Ii6 q13.R4, Ii6 q13.R5, Ii6 q13.R6, Ii6 q13.R7, .b a1.Stopped], .box (EL.el a2), .box Zbb, .box (EL.el u3)] (Q9 (Akl hq13 [Ii6 (wI (a1.PC + 1))] [.b a1.Stopped])) ?_)
       exact Sd
      refine Y1 (A4 (Ai ?_))
      exact ⟨(A7.mk (wI (a1.PC + 1)) q13 a1.Stopped), _, h, ⟨rfl, rfl, trivial⟩, rfl⟩
     ·refine Bl (A4 (Ai ?_))
      exact ⟨(A7.mk (wI (a1.PC + 1)) q8 a1.Stopped), _, h, ⟨rfl, rfl, trivial⟩, rfl⟩
    ·refine Aq (Ab (sv rfl (Bq rfl rfl) (sv rfl (Ak rfl) (As (ccI h rfl (fun h => ?_) (fun h => ?_))))))
     ·refine Aq ?_
      obtain ⟨v14, hv14, h⟩ := An h
      obtain ⟨hj15, h⟩ := D9 h
      obtain ⟨q16, hq16, h⟩ := An h
      refine Kb [7] [0, 1, 0, 4, 12, 0, 63, 127] [[.box (EL.el a0), .box (EL.el {a1 with PC := wI (a1.PC + 1)}), .box (EL.el a2), .box Zbb, .box (EL.el u3)], [.box (EL.el a0), .box [Ii6 (wI (a1.PC + 1)), Ii6 q16.R0, Ii6 q16.R1, Ii6 q16.R2, Ii6 q16.R3, Ii6 q16.R4, Ii6 q16.R5, Ii6 q16.R6, Ii6 q16.R7, .b a1.Stopped], .box (EL.el a2), .box Zbb, .box (EL.el u3)]] (by kernel_rfl) Ma (by kernel_rfl) (by decide) rfl rfl rfl rfl ?_
      refine ev (Bh 0 rfl rfl) rfl rfl (Aa Xt rfl) (ev (Bh 0 rfl rfl) rfl rfl (Ae ti3 rfl (.lp _ _ _ rfl) rfl) (ev (Bh 0 rfl rfl) rfl rfl (Aa Ut rfl) (ev (Bh 0 rfl rfl) rfl rfl (Ae Aes rfl (.lp _ _ _ rfl) rfl) (ed (Bh 0 rfl rfl) rfl rfl (D2 Aq9 (Ac rfl Al) rfl (Vt hv14)) (ev (Bh 0 rfl rfl) rfl rfl (Aa O0 rfl) (ev (Bh 0 rfl rfl) rfl rfl (L6 Aeq rfl rfl hj15) (ee0 0 rfl rfl rfl rfl (fun ζ => ?_) ?_)))))))
      ·refine Ax sz3 rfl rfl rfl rfl (Zl hj15 (Nbl rfl)) (Bs [.box (EL.el a0), .box [Ii6 (wI (a1.PC + 1)), Ii6 q16.R0, Ii6 q16.R1, Ii6 q16.R2, Ii6 q16.R3, Ii6 q16.R4, Ii6 q16.R5, Ii6 q16.R6, Ii6 q16.R7, .b a1.Stopped], .box (EL.el a2), .box Zbb, .box (EL.el u3)] (Q9 (Akl hq16 [Ii6 (wI (a1.PC + 1))] [.b a1.Stopped])) ?_)
       exact Sd
      refine Y1 (Ai (Ab (sv rfl (Aa Uq rfl) (sv rfl (Ae ti3 rfl (.lp _ _ _ rfl) rfl) (sv rfl (Aa Ut rfl) (sv rfl (Ae Aes rfl (.lp _ _ _ rfl) rfl) (sv rfl (Az Adj rfl) (sv rfl (Aa O0 rfl) ?_))))))))
      obtain ⟨hj17, h⟩ := D9 h
      refine sv rfl (L6 Aeq rfl rfl hj17) ?_
      obtain ⟨q18, hq18, h⟩ := An h
      refine Ax sz3 rfl rfl rfl rfl (Zl hj17 (Nbl rfl)) (Bs [.box (EL.el a0), .box [Ii6 (wI (a1.PC + 1)), Ii6 q18.R0, Ii6 q18.R1, Ii6 q18.R2, Ii6 q18.R3, Ii6 q18.R4, Ii6 q18.R5, Ii6 q18.R6, Ii6 q18.R7, .b a1.Stopped], .box (EL.el a2), .box Zbb, .box (EL.el u3)] (Q9 (Akl hq18 [Ii6 (wI (a1.PC + 1))] [.b a1.Stopped])) (Lz (A4 (Ai ?_))))
      exact ⟨(A7.mk (wI (a1.PC + 1)) q18 a1.Stopped), _, h, ⟨rfl, rfl, trivial⟩, rfl⟩
     ·refine Bl (A4 (Ai ?_))
      exact ⟨(A7.mk (wI (a1.PC + 1)) a1.Regs a1.Stopped), _, h, ⟨rfl, rfl, trivial⟩, rfl⟩
  ·skip
   refine Ab (sv rfl (Aa Ot rfl) (sv rfl (Ae ti3 rfl (.lp _ _ _ rfl) rfl) (sv rfl (Aa R9 rfl) (sv rfl (Ae Aix rfl (.lp _ _ _ rfl) rfl) (sv rfl (Az Ajo rfl) (sv rfl (Mq rfl rfl) ?_))))))
   obtain ⟨v19, hv19, h⟩ := An h
   refine A2 rfl Afh (Ac rfl (Ac rfl Al)) (Aj rfl) (Ie hv19) (sv rfl (B9 rfl) (sv rfl (Ag rfl) (Bo 21 rfl (fun hc => ?_) (fun hc => ?_))))
   ·replace h := B2 hc h
    clear hc
    refine Av rfl rfl rfl rfl (Av rfl rfl rfl rfl (sv rfl (Au rfl rfl) (sv rfl (Ag rfl) (Av rfl rfl rfl rfl (Av rfl rfl rfl rfl (Av rfl rfl rfl rfl (Av rfl rfl rfl rfl (Av rfl rfl rfl rfl (Av rfl rfl rfl rfl (Av rfl rfl rfl rfl (Av rfl rfl rfl rfl (sv rfl (Au rfl rfl) (As (G0 rfl (fun _ => ?_) (fun hx => Bool.noConfusion hx)))))))))))))))
    refine Aq (Ab (sv rfl (Bk Agz Apd Ba (.nil _)) (Ax Xa rfl rfl rfl rfl (Nbl rfl) (Bs [.box (EL.el a0), .box (EL.el a1), .box (EL.el a2), .box Zbb] rfl (sv rfl (Ak rfl) (As (Bj (Ar ?_))))))))
    obtain rfl := Option.some.inj h
    refine ⟨Or.inr rfl, _, _, _, (Ad (Bd.agg _ _ _ _ _ Sb rfl (.lp _ _ _ rfl) (Nbl rfl)) (Ad (Bd.tmp _ _ rfl) Af)), (Aj rfl), ?_⟩
    rfl
   ·replace h := B1 hc h
    clear hc
    refine son rfl rfl rfl (sv rfl (Aa Wq rfl) (son rfl rfl rfl (sv rfl (Ae ti4 rfl (.lp _ _ _ rfl) rfl) (sv rfl (Am rfl rfl) (sv rfl (Ag rfl) (Bo 25 rfl (fun hc => ?_) (fun hc => ?_)))))))
    ·replace h := B2 hc h
     clear hc
     refine Av rfl rfl rfl rfl (Av rfl rfl rfl rfl (Av rfl rfl rfl rfl (Av rfl rfl rfl rfl (Av rfl rfl rfl rfl (Av rfl rfl rfl rfl (Av rfl rfl rfl rfl (Av rfl rfl rfl rfl (sv rfl (Au rfl rfl) (As (G0 rfl (fun _ => ?_) (fun hx => Bool.noConfusion hx)))))))))))
     refine Aq (Ab (sv rfl (Bk Agz Apd Ba (.nil _)) (Ax Xa rfl rfl rfl rfl (Nbl rfl) (Bs [.box (EL.el a0), .box (EL.el a1), .box (EL.el a2), .box Zbb] rfl (sv rfl (Ak rfl) (As (Bj (Ar ?_))))))))
     obtain rfl := Option.some.inj h
     refine ⟨Or.inr rfl, _, _, _, (Ad (Bd.agg _ _ _ _ _ Sb rfl (.lp _ _ _ rfl) (Nbl rfl)) (Ad (Bd.tmp _ _ rfl) Af)), (Aj rfl), ?_⟩
     rfl
    ·replace h := B1 hc h
     clear hc
     refine son rfl rfl rfl (sv rfl (Aa R9 rfl) (son rfl rfl rfl (sv rfl (Ae Aix rfl (.lp _ _ _ rfl) rfl) (son rfl rfl rfl (sv rfl (Aa Ot rfl) (son rfl rfl rfl (sv rfl (Ae ti3 rfl (.lp _ _ _ rfl) rfl) (son rfl rfl rfl ?_))))))))
     obtain ⟨u20, hu20, h⟩ := An h
     refine sv rfl (Fe (f := Cf) Ajo (fun _ => rfl) rfl rfl rfl rfl hu20) ?_
     refine son rfl rfl rfl (sv rfl (Dd (ys := [Ii6 u20.What, Ii6 u20.A, Ii6 u20.B, Ii6 u20.N, .sl u20.Key.length (u20.Key.flatMap eU8), .sl u20.Rng.Lo.length (u20.Rng.Lo.flatMap eU8), .sl u20.Rng.Hi.length (u20.Rng.Hi.flatMap eU8), .b u20.Rng.Open]) Ako rfl (.cp _) rfl rfl) (son rfl rfl rfl ?_))
     obtain ⟨v21, hv21, h⟩ := An h
     refine A2 rfl An2 (Ac rfl Al) (Aj rfl) (P4 hv21) (son rfl rfl rfl (sv rfl (B9 rfl) (sv rfl (Am rfl rfl) (As (ccI h rfl (fun h => ?_) (fun h => ?_))))))
     ·refine Aq (Ab (sv rfl (Bk Agz Apd Ba (.nil _)) (Ax Xa rfl rfl rfl rfl (Nbl rfl) (Bs [.box (EL.el a0), .box (EL.el a1), .box (EL.el a2), .box Zbb] rfl (sv rfl (Ak rfl) (As (Bj (Ar ?_))))))))
      obtain rfl := Option.some.inj h
      refine ⟨Or.inr rfl, _, _, _, (Ad (Bd.agg _ _ _ _ _ Sb rfl (.lp _ _ _ rfl) (Nbl rfl)) (Ad (Bd.tmp _ _ rfl) Af)), (Aj rfl), ?_⟩
      rfl
     ·refine Bl (Ai ?_)
      exact ⟨(), _, h, ⟨rfl, rfl, rfl, rfl, trivial⟩, rfl⟩
def Dz (a0 : Ah) (a1 : Bf) : Option Ah :=
 if (!decide (a1.Code = 0)) then ((Cg a0).bind fun v1 => some v1) else ((idx a0.Tasks 0).bind fun u2 => (Dl u2.Prog a0.St a1).bind fun v3 => if (!decide (v3.2 = 0)) then ((Cg a0).bind fun v4 => some v4) else ((Ed ({a0 with St := v3.1})).bind fun v5 => some v5))
set_option maxRecDepth 100000 in
theorem Nj {a0 : Ah} {a1 : Bf} {r : Ah} (h : Dz a0 a1 = some r) : Bp Tryz.prog 101 [.agg (EL.el a0), .agg (EL.el a1)] (· = .s (.agg (EL.el r))) := by
 unfold Dz at h
 refine A1 Tryz.func101 rfl (nt := 32) rfl (Nbl rfl) ?_
 intro w0 S0
 refine Aq (Ab (Jd rfl rfl (Jd rfl rfl (Bz rfl Nn (As (Aq (Aq (Ab (sv rfl (Aa Rd rfl) (sv rfl (Ae Aa1 rfl (.lp _ _ _ rfl) rfl) (sv rfl (Cd rfl rfl) (As (ccI h rfl (fun h => ?_) (fun h => ?_))))))))))))))
 ·refine Aq (Ab (sv rfl (Ao B5 rfl (.lp _ _ _ rfl) (Nbl rfl)) ?_))
  obtain ⟨v1, hv1, h⟩ := An h
  refine A2 rfl Ahj (Ac rfl Al) (Aj rfl) (Eg hv1) (Ax Ey rfl rfl rfl rfl (Nbl rfl) (Bs [.box (EL.el a0), .box (EL.el a1), .box (EL.el v1)] rfl (As (Bj (Ar ?_)))))
  obtain rfl := Option.some.inj h
  refine ⟨Or.inr rfl, _, _, _, (Ad (Bd.agg _ _ _ _ _ B5 rfl (.lp _ _ _ rfl) (Nbl rfl)) Af), (Aj rfl), ?_⟩
  rfl
 ·refine Bl (Ai (Aq (Ad2 ?_)))
  obtain ⟨u2, hu2, h⟩ := An h
  obtain ⟨v3, hv3, h⟩ := An h
  refine Kb [12, 13] [0, 1, 3, 7, 15, 0, 32, 0, 255, 511, 1023, 1023, 0, 6143, 16383] [[.box (EL.el a0), .box (EL.el a1), .box Zba, .hole], [.box (EL.el a0), .box (EL.el a1), .box Zba, .box Zbb], [.box (EL.el a0), .box (EL.el a1), .box Zba, .box (EL.el v3.1)]] (by kernel_rfl) Ma (by kernel_rfl) (by decide) rfl rfl rfl rfl ?_
  refine ev (B4 (md := [.box (EL.el a0), .box (EL.el a1), .box Zba, .dead]) ⟨⟨rfl, ⟨rfl, ⟨rfl, ⟨trivial, trivial⟩⟩⟩⟩, ⟨⟨rfl, ⟨rfl, ⟨rfl, ⟨trivial, trivial⟩⟩⟩⟩, ⟨⟨rfl, ⟨rfl, ⟨rfl, ⟨trivial, trivial⟩⟩⟩⟩, trivial⟩⟩⟩) rfl rfl (Aa Lw rfl) (ev (B4 (md := [.box (EL.el a0), .box (EL.el a1), .box Zba, .dead]) ⟨⟨rfl, ⟨rfl, ⟨rfl, ⟨trivial, trivial⟩⟩⟩⟩, ⟨⟨rfl, ⟨rfl, ⟨rfl, ⟨trivial, trivial⟩⟩⟩⟩, ⟨⟨rfl, ⟨rfl, ⟨rfl, ⟨trivial, trivial⟩⟩⟩⟩, trivial⟩⟩⟩) rfl rfl (Ae Xy rfl (.lp _ _ _ rfl) rfl) (ev (B4 (md := [.box (EL.el a0), .box (EL.el a1), .box Zba, .dead]) ⟨⟨rfl, ⟨rfl, ⟨rfl, ⟨trivial, trivial⟩⟩⟩⟩, ⟨⟨rfl, ⟨rfl, ⟨rfl, ⟨trivial, trivial⟩⟩⟩⟩, ⟨⟨rfl, ⟨rfl, ⟨rfl, ⟨trivial, trivial⟩⟩⟩⟩, trivial⟩⟩⟩) rfl rfl (Fe (f := Ay) T6 (fun _ => rfl) rfl rfl rfl rfl hu2) ?_))
  refine ev (B4 (md := [.box (EL.el a0), .box (EL.el a1), .box Zba, .dead]) ⟨⟨rfl, ⟨rfl, ⟨rfl, ⟨trivial, trivial⟩⟩⟩⟩, ⟨⟨rfl, ⟨rfl, ⟨rfl, ⟨trivial, trivial⟩⟩⟩⟩, ⟨⟨rfl, ⟨rfl, ⟨rfl, ⟨trivial, trivial⟩⟩⟩⟩, trivial⟩⟩⟩) rfl rfl (B3 Acl rfl) (ev (B4 (md := [.box (EL.el a0), .box (EL.el a1), .box Zba, .dead]) ⟨⟨rfl, ⟨rfl, ⟨rfl, ⟨trivial, trivial⟩⟩⟩⟩, ⟨⟨rfl, ⟨rfl, ⟨rfl, ⟨trivial, trivial⟩⟩⟩⟩, ⟨⟨rfl, ⟨rfl, ⟨rfl, ⟨trivial, trivial⟩⟩⟩⟩, trivial⟩⟩⟩) rfl rfl (Dd (ys := [.b u2.Prog.RO, .sl u2.Prog.Ops.length (u2.Prog.Ops.flatMap Cf)]) Amw rfl (.cp _) rfl rfl) (ev (B4 (md := [.box (EL.el a0), .box (EL.el a1), .box Zba, .dead]) ⟨⟨rfl, ⟨rfl, ⟨rfl, ⟨trivial, trivial⟩⟩⟩⟩, ⟨⟨rfl, ⟨rfl, ⟨rfl, ⟨trivial, trivial⟩⟩⟩⟩, ⟨⟨rfl, ⟨rfl, ⟨rfl, ⟨trivial, trivial⟩⟩⟩⟩, trivial⟩⟩⟩) rfl rfl (Aa Py rfl) (ev (B4 (md := [.box (EL.el a0), .box (EL.el a1), .box Zba, .dead]) ⟨⟨rfl, ⟨rfl, ⟨rfl, ⟨trivial, trivial⟩⟩⟩⟩, ⟨⟨rfl, ⟨rfl, ⟨rfl, ⟨trivial, trivial⟩⟩⟩⟩, ⟨⟨rfl, ⟨rfl, ⟨rfl, ⟨trivial, trivial⟩⟩⟩⟩, trivial⟩⟩⟩) rfl rfl (Ao Sb rfl (.lp _ _ _ rfl) (Nbl rfl)) (ev (B4 (md := [.box (EL.el a0), .box (EL.el a1), .box Zba, .dead]) ⟨⟨rfl, ⟨rfl, ⟨rfl, ⟨trivial, trivial⟩⟩⟩⟩, ⟨⟨rfl, ⟨rfl, ⟨rfl, ⟨trivial, trivial⟩⟩⟩⟩, ⟨⟨rfl, ⟨rfl, ⟨rfl, ⟨trivial, trivial⟩⟩⟩⟩, trivial⟩⟩⟩) rfl rfl (Ao Aa7 rfl (.lp _ _ _ rfl) (Nbl rfl)) (ed (B4 (md := [.box (EL.el a0), .box (EL.el a1), .box Zba, .dead]) ⟨⟨rfl, ⟨rfl, ⟨rfl, ⟨trivial, trivial⟩⟩⟩⟩, ⟨⟨rfl, ⟨rfl, ⟨rfl, ⟨trivial, trivial⟩⟩⟩⟩, ⟨⟨rfl, ⟨rfl, ⟨rfl, ⟨trivial, trivial⟩⟩⟩⟩, trivial⟩⟩⟩) rfl rfl (D2 Asg (Ac rfl (Ac rfl (Ac rfl Al))) rfl (U6 hv3)) (emv rfl rfl (fun _ => Gj rfl) ?_))))))
  refine ev (B4 (md := [.box (EL.el a0), .box (EL.el a1), .box Zba, .dead]) ⟨⟨rfl, ⟨rfl, ⟨rfl, ⟨trivial, trivial⟩⟩⟩⟩, ⟨⟨rfl, ⟨rfl, ⟨rfl, ⟨trivial, trivial⟩⟩⟩⟩, ⟨⟨rfl, ⟨rfl, ⟨rfl, ⟨trivial, trivial⟩⟩⟩⟩, trivial⟩⟩⟩) rfl rfl (Bc rfl rfl) (ev (B4 (md := [.box (EL.el a0), .box (EL.el a1), .box Zba, .dead]) ⟨⟨rfl, ⟨rfl, ⟨rfl, ⟨trivial, trivial⟩⟩⟩⟩, ⟨⟨rfl, ⟨rfl, ⟨rfl, ⟨trivial, trivial⟩⟩⟩⟩, ⟨⟨rfl, ⟨rfl, ⟨rfl, ⟨trivial, trivial⟩⟩⟩⟩, trivial⟩⟩⟩) rfl rfl (Bc rfl rfl) (ee (x := .s (.one (.lp 3 0))) 0 rfl rfl rfl rfl rfl (fun ζ => ?_) ?_))
  ·refine Nm 3 rfl Agz rfl ?_
   exact Sd
  refine ee0 1 rfl rfl rfl rfl (fun ζ => ?_) ?_
  ·refine Ax Xa rfl rfl rfl rfl (Nbl rfl) (Bs [.box (EL.el a0), .box (EL.el a1), .box Zba, .box (EL.el v3.1)] rfl ?_)
   exact Sd
  refine ev (Bh 2 rfl rfl) rfl rfl (Ak rfl) (Y1 (Ai (Aq (Aq (Ab (sv rfl (Ag rfl) (sv rfl (Cd rfl rfl) (As (ccI h rfl (fun h => ?_) (fun h => ?_))))))))))
  ·refine Aq (Ab (sv rfl (Ao B5 rfl (.lp _ _ _ rfl) (Nbl rfl)) ?_))
   obtain ⟨v4, hv4, h⟩ := An h
   refine A2 rfl Ahj (Ac rfl Al) (Aj rfl) (Eg hv4) (Ax Ey rfl rfl rfl rfl (Nbl rfl) (Bs [.box (EL.el a0), .box (EL.el a1), .box (EL.el v4), .box (EL.el v3.1)] rfl (As (Bj (Ar ?_)))))
   obtain rfl := Option.some.inj h
   refine ⟨Or.inr rfl, _, _, _, (Ad (Bd.agg _ _ _ _ _ B5 rfl (.lp _ _ _ rfl) (Nbl rfl)) Af), (Aj rfl), ?_⟩
   rfl
  ·refine Bl (Ai (Aq (Ab (sv rfl (Ao Sb rfl (.lp _ _ _ rfl) (Nbl rfl)) (sv rfl (Aa Py rfl) (Ax Xa rfl rfl rfl rfl (Nbl rfl) (Bs [.box (EL.el {a0 with St := v3.1}), .box (EL.el a1), .box Zba, .box (EL.el v3.1)] rfl (As (Aq (Ab (sv rfl (Ao B5 rfl (.lp _ _ _ rfl) (Nbl rfl)) ?_)))))))))))
   obtain ⟨v5, hv5, h⟩ := An h
   refine A2 rfl Aqa (Ac rfl Al) (Aj rfl) (Ly hv5) (Ax Ey rfl rfl rfl rfl (Nbl rfl) (Bs [.box (EL.el {a0 with St := v3.1}), .box (EL.el a1), .box (EL.el v5), .box (EL.el v3.1)] rfl (As (Bj ?_))))
   obtain rfl := Option.some.inj h
   refine ⟨Or.inr rfl, _, _, _, (Ad (Bd.agg _ _ _ _ _ B5 rfl (.lp _ _ _ rfl) (Nbl rfl)) Af), (Aj rfl), ?_⟩
   rfl
def Ll  : Option Unit :=
 (Cn 5).bind fun v1 => if (!v1) then none else (some ())
set_option maxRecDepth 100000 in
theorem Qa  {r : Unit} (h : Ll = some r) : G2 Tryz.prog 79 [] [.one (Ii6 5)] (fun y m' => y = .s (.one (.raw (.func (.func 102) #[] #[]))) ∧ m' = []) := by
 unfold Ll at h
 refine Cv Tryz.func79 rfl (nt := 11) rfl (Nbl rfl) ?_
 intro w0 S0 X0 H0
 refine Aq (Ab (sv rfl (Ak rfl) (As (Aq (Ab (sv rfl (G6 Rx S4 (Ap rfl (Ap rfl (Ap rfl (Ap rfl (Ap rfl (Ap rfl (Ap rfl Ba))))))) (Ef [.raw .nilFunc, .raw .nilFunc, .raw (.func (.func 99) #[] #[]), .raw .nilFunc, .raw .nilFunc, .raw .nilFunc, .raw .nilFunc, .raw .nilFunc, .raw .nilFunc, .raw .nilFunc] rfl rfl (Nbl rfl) rfl (Ef [.raw .nilFunc, .raw .nilFunc, .raw (.func (.func 99) #[] #[]), .raw (.func (.func 100) #[] #[]), .raw .nilFunc, .raw .nilFunc, .raw .nilFunc, .raw .nilFunc, .raw .nilFunc, .raw .nilFunc] rfl rfl (Nbl rfl) rfl (Ef [.raw .nilFunc, .raw .nilFunc, .raw (.func (.func 99) #[] #[]), .raw (.func (.func 100) #[] #[]), .raw (.func (.func 101) #[] #[]), .raw .nilFunc, .raw .nilFunc, .raw .nilFunc, .raw .nilFunc, .raw .nilFunc] rfl rfl (Nbl rfl) rfl (Ef [.raw .nilFunc, .raw .nilFunc, .raw (.func (.func 99) #[] #[]), .raw (.func (.func 100) #[] #[]), .raw (.func (.func 101) #[] #[]), .raw (.func (.func 102) #[] #[]), .raw .nilFunc, .raw .nilFunc, .raw .nilFunc, .raw .nilFunc] rfl rfl (Nbl rfl) rfl (Ef [.raw .nilFunc, .raw .nilFunc, .raw (.func (.func 99) #[] #[]), .raw (.func (.func 100) #[] #[]), .raw (.func (.func 101) #[] #[]), .raw (.func (.func 102) #[] #[]), .raw (.func (.func 103) #[] #[]), .raw .nilFunc, .raw .nilFunc, .raw .nilFunc] rfl rfl (Nbl rfl) rfl (Ef [.raw .nilFunc, .raw .nilFunc, .raw (.func (.func 99) #[] #[]), .raw (.func (.func 100) #[] #[]), .raw (.func (.func 101) #[] #[]), .raw (.func (.func 102) #[] #[]), .raw (.func (.func 103) #[] #[]), .raw (.func (.func 104) #[] #[]), .raw .nilFunc, .raw .nilFunc] rfl rfl (Nbl rfl) rfl (Ef [.raw .nilFunc, .raw .nilFunc, .raw (.func (.func 99) #[] #[]), .raw (.func (.func 100) #[] #[]), .raw (.func (.func 101) #[] #[]), .raw (.func (.func 102) #[] #[]), .raw (.func (.func 103) #[] #[]), .raw (.func (.func 104) #[] #[]), .raw .nilFunc, .raw (.func (.func 105) #[] #[])] rfl rfl (Nbl rfl) rfl (.nil _))))))))) (Bz rfl Rx (Ax Zt rfl rfl rfl rfl (Nbl rfl) (Bs [.box [.raw .nilFunc, .raw .nilFunc, .raw (.func (.func 99) #[] #[]), .raw (.func (.func 100) #[] #[]), .raw (.func (.func 101) #[] #[]), .raw (.func (.func 102) #[] #[]), .raw (.func (.func 103) #[] #[]), .raw (.func (.func 104) #[] #[]), .raw .nilFunc, .raw (.func (.func 105) #[] #[])]] rfl (As (Aq (Aq (Ab (sv rfl (Ag rfl) ?_))))))))))))))
 obtain ⟨v1, hv1, h⟩ := An h
 refine A2 rfl Aim (Ac rfl Al) (Aj rfl) (Dy hv1) (sv rfl (B9 rfl) (As (ccI h rfl (fun h => ?_) (fun h => ?_))))
 ·refine Aq (Ab ?_)
  cases h
 ·refine Bl (Ai (Aq (Ab (sv rfl (Ag rfl) ?_))))
  refine sv rfl (Oz (o := 5) S4 rfl rfl (by decide)) ?_
  refine sv rfl (Ae Acb rfl (.lp _ _ _ rfl) rfl) (sv rfl (Ak rfl) (As (Bj ?_)))
  obtain rfl := Option.some.inj h
  exact ⟨Or.inr rfl, _, [], [.one (.raw (.func (.func 102) #[] #[]))], [], (Ad (Bd.tmp _ _ rfl) Af), rfl, rfl, ⟨by decide, rfl⟩, rfl, rfl, ⟨rfl, rfl⟩⟩
def Ez (a0 : Ah) (a1 : Bf) : Option Ah :=
 if (!decide (a1.Code = 0)) then ((Df a0 a1.Code).bind fun v1 => some v1) else ((Bu a0 1 a1.N).bind fun v2 => some v2)
set_option maxRecDepth 100000 in
theorem Oh {a0 : Ah} {a1 : Bf} {r : Ah} (h : Ez a0 a1 = some r) : Bp Tryz.prog 102 [.agg (EL.el a0), .agg (EL.el a1)] (· = .s (.agg (EL.el r))) := by
 unfold Ez at h
 refine A1 Tryz.func102 rfl (nt := 16) rfl (Nbl rfl) ?_
 intro w0 S0
 refine Aq (Ab (Jd rfl rfl (Jd rfl rfl (Bz rfl Nn (As (Aq (Aq (Ab (sv rfl (Aa Rd rfl) (sv rfl (Ae Aa1 rfl (.lp _ _ _ rfl) rfl) (sv rfl (Cd rfl rfl) (As (ccI h rfl (fun h => ?_) (fun h => ?_))))))))))))))
 ·refine Aq (Ab (sv rfl (Ao B5 rfl (.lp _ _ _ rfl) (Nbl rfl)) (sv rfl (Aa Rd rfl) (sv rfl (Ae Aa1 rfl (.lp _ _ _ rfl) rfl) ?_))))
  obtain ⟨v1, hv1, h⟩ := An h
  refine A2 rfl Ao4 (Ac rfl (Ac rfl Al)) (Aj rfl) (Kg hv1) (Ax Ey rfl rfl rfl rfl (Nbl rfl) (Bs [.box (EL.el a0), .box (EL.el a1), .box (EL.el v1)] rfl (As (Bj (Ar ?_)))))
  obtain rfl := Option.some.inj h
  refine ⟨Or.inr rfl, _, _, _, (Ad (Bd.agg _ _ _ _ _ B5 rfl (.lp _ _ _ rfl) (Nbl rfl)) Af), (Aj rfl), ?_⟩
  rfl
 ·refine Bl (Ai (Aq (Ab (sv rfl (Ao B5 rfl (.lp _ _ _ rfl) (Nbl rfl)) (sv rfl (Aa Qh rfl) (sv rfl (Ae ti3 rfl (.lp _ _ _ rfl) rfl) ?_))))))
  obtain ⟨v2, hv2, h⟩ := An h
  refine A2 rfl Aal (Ac rfl (Ac rfl (Ac rfl Al))) (Aj rfl) (Cc hv2) (Ax Ey rfl rfl rfl rfl (Nbl rfl) (Bs [.box (EL.el a0), .box (EL.el a1), .box (EL.el v2)] rfl (As (Bj ?_))))
  obtain rfl := Option.some.inj h
  refine ⟨Or.inr rfl, _, _, _, (Ad (Bd.agg _ _ _ _ _ B5 rfl (.lp _ _ _ rfl) (Nbl rfl)) Af), (Aj rfl), ?_⟩
  rfl
def Lm  : Option Unit :=
 (Cn 6).bind fun v1 => if (!v1) then none else (some ())
set_option maxRecDepth 100000 in
theorem P8  {r : Unit} (h : Lm = some r) : G2 Tryz.prog 79 [] [.one (Ii6 6)] (fun y m' => y = .s (.one (.raw (.func (.func 103) #[] #[]))) ∧ m' = []) := by
 unfold Lm at h
 refine Cv Tryz.func79 rfl (nt := 11) rfl (Nbl rfl) ?_
 intro w0 S0 X0 H0
 refine Aq (Ab (sv rfl (Ak rfl) (As (Aq (Ab (sv rfl (G6 Rx S4 (Ap rfl (Ap rfl (Ap rfl (Ap rfl (Ap rfl (Ap rfl (Ap rfl Ba))))))) (Ef [.raw .nilFunc, .raw .nilFunc, .raw (.func (.func 99) #[] #[]), .raw .nilFunc, .raw .nilFunc, .raw .nilFunc, .raw .nilFunc, .raw .nilFunc, .raw .nilFunc, .raw .nilFunc] rfl rfl (Nbl rfl) rfl (Ef [.raw .nilFunc, .raw .nilFunc, .raw (.func (.func 99) #[] #[]), .raw (.func (.func 100) #[] #[]), .raw .nilFunc, .raw .nilFunc, .raw .nilFunc, .raw .nilFunc, .raw .nilFunc, .raw .nilFunc] rfl rfl (Nbl rfl) rfl (Ef [.raw .nilFunc, .raw .nilFunc, .raw (.func (.func 99) #[] #[]), .raw (.func (.func 100) #[] #[]), .raw (.func (.func 101) #[] #[]), .raw .nilFunc, .raw .nilFunc, .raw .nilFunc, .raw .nilFunc, .raw .nilFunc] rfl rfl (Nbl rfl) rfl (Ef [.raw .nilFunc, .raw .nilFunc, .raw (.func (.func 99) #[] #[]), .raw (.func (.func 100) #[] #[]), .raw (.func (.func 101) #[] #[]), .raw (.func (.func 102) #[] #[]), .raw .nilFunc, .raw .nilFunc, .raw .nilFunc, .raw .nilFunc] rfl rfl (Nbl rfl) rfl (Ef [.raw .nilFunc, .raw .nilFunc, .raw (.func (.func 99) #[] #[]), .raw (.func (.func 100) #[] #[]), .raw (.func (.func 101) #[] #[]), .raw (.func (.func 102) #[] #[]), .raw (.func (.func 103) #[] #[]), .raw .nilFunc, .raw .nilFunc, .raw .nilFunc] rfl rfl (Nbl rfl) rfl (Ef [.raw .nilFunc, .raw .nilFunc, .raw (.func (.func 99) #[] #[]), .raw (.func (.func 100) #[] #[]), .raw (.func (.func 101) #[] #[]), .raw (.func (.func 102) #[] #[]), .raw (.func (.func 103) #[] #[]), .raw (.func (.func 104) #[] #[]), .raw .nilFunc, .raw .nilFunc] rfl rfl (Nbl rfl) rfl (Ef [.raw .nilFunc, .raw .nilFunc, .raw (.func (.func 99) #[] #[]), .raw (.func (.func 100) #[] #[]), .raw (.func (.func 101) #[] #[]), .raw (.func (.func 102) #[] #[]), .raw (.func (.func 103) #[] #[]), .raw (.func (.func 104) #[] #[]), .raw .nilFunc, .raw (.func (.func 105) #[] #[])] rfl rfl (Nbl rfl) rfl (.nil _))))))))) (Bz rfl Rx (Ax Zt rfl rfl rfl rfl (Nbl rfl) (Bs [.box [.raw .nilFunc, .raw .nilFunc, .raw (.func (.func 99) #[] #[]), .raw (.func (.func 100) #[] #[]), .raw (.func (.func 101) #[] #[]), .raw (.func (.func 102) #[] #[]), .raw (.func (.func 103) #[] #[]), .raw (.func (.func 104) #[] #[]), .raw .nilFunc, .raw (.func (.func 105) #[] #[])]] rfl (As (Aq (Aq (Ab (sv rfl (Ag rfl) ?_))))))))))))))
 obtain ⟨v1, hv1, h⟩ := An h
 refine A2 rfl Aim (Ac rfl Al) (Aj rfl) (Dy hv1) (sv rfl (B9 rfl) (As (ccI h rfl (fun h => ?_) (fun h => ?_))))
 ·refine Aq (Ab ?_)
  cases h
 ·refine Bl (Ai (Aq (Ab (sv rfl (Ag rfl) ?_))))
  refine sv rfl (Oz (o := 6) S4 rfl rfl (by decide)) ?_
  refine sv rfl (Ae Acb rfl (.lp _ _ _ rfl) rfl) (sv rfl (Ak rfl) (As (Bj ?_)))
  obtain rfl := Option.some.inj h
  exact ⟨Or.inr rfl, _, [], [.one (.raw (.func (.func 103) #[] #[]))], [], (Ad (Bd.tmp _ _ rfl) Af), rfl, rfl, ⟨by decide, rfl⟩, rfl, rfl, ⟨rfl, rfl⟩⟩
def G7 (a0 : Ah) (a1 : Bf) : Option Ah :=
 (Bu a0 2 0).bind fun v1 => some v1
set_option maxRecDepth 100000 in
theorem Oo {a0 : Ah} {a1 : Bf} {r : Ah} (h : G7 a0 a1 = some r) : Bp Tryz.prog 103 [.agg (EL.el a0), .agg (EL.el a1)] (· = .s (.agg (EL.el r))) := by
 unfold G7 at h
 refine A1 Tryz.func103 rfl (nt := 7) rfl (Nbl rfl) ?_
 intro w0 S0
 refine Aq (Ab (Jd rfl rfl (Jd rfl rfl (Bz rfl Nn (As (Aq (Ab (sv rfl (Ao B5 rfl (.lp _ _ _ rfl) (Nbl rfl)) ?_))))))))
 obtain ⟨v1, hv1, h⟩ := An h
 refine A2 rfl Aal (Ac rfl (Ac rfl (Ac rfl Al))) (Aj rfl) (Cc hv1) (Ax Ey rfl rfl rfl rfl (Nbl rfl) (Bs [.box (EL.el a0), .box (EL.el a1), .box (EL.el v1)] rfl (As (Bj ?_))))
 obtain rfl := Option.some.inj h
 refine ⟨Or.inr rfl, _, _, _, (Ad (Bd.agg _ _ _ _ _ B5 rfl (.lp _ _ _ rfl) (Nbl rfl)) Af), (Aj rfl), ?_⟩
 rfl
def Li  : Option Unit :=
 (Cn 7).bind fun v1 => if (!v1) then none else (some ())
set_option maxRecDepth 100000 in
theorem Qf  {r : Unit} (h : Li = some r) : G2 Tryz.prog 79 [] [.one (Ii6 7)] (fun y m' => y = .s (.one (.raw (.func (.func 104) #[] #[]))) ∧ m' = []) := by
 unfold Li at h
 refine Cv Tryz.func79 rfl (nt := 11) rfl (Nbl rfl) ?_
 intro w0 S0 X0 H0
 refine Aq (Ab (sv rfl (Ak rfl) (As (Aq (Ab (sv rfl (G6 Rx S4 (Ap rfl (Ap rfl (Ap rfl (Ap rfl (Ap rfl (Ap rfl (Ap rfl Ba))))))) (Ef [.raw .nilFunc, .raw .nilFunc, .raw (.func (.func 99) #[] #[]), .raw .nilFunc, .raw .nilFunc, .raw .nilFunc, .raw .nilFunc, .raw .nilFunc, .raw .nilFunc, .raw .nilFunc] rfl rfl (Nbl rfl) rfl (Ef [.raw .nilFunc, .raw .nilFunc, .raw (.func (.func 99) #[] #[]), .raw (.func (.func 100) #[] #[]), .raw .nilFunc, .raw .nilFunc, .raw .nilFunc, .raw .nilFunc, .raw .nilFunc, .raw .nilFunc] rfl rfl (Nbl rfl) rfl (Ef [.raw .nilFunc, .raw .nilFunc, .raw (.func (.func 99) #[] #[]), .raw (.func (.func 100) #[] #[]), .raw (.func (.func 101) #[] #[]), .raw .nilFunc, .raw .nilFunc, .raw .nilFunc, .raw .nilFunc, .raw .nilFunc] rfl rfl (Nbl rfl) rfl (Ef [.raw .nilFunc, .raw .nilFunc, .raw (.func (.func 99) #[] #[]), .raw (.func (.func 100) #[] #[]), .raw (.func (.func 101) #[] #[]), .raw (.func (.func 102) #[] #[]), .raw .nilFunc, .raw .nilFunc, .raw .nilFunc, .raw .nilFunc] rfl rfl (Nbl rfl) rfl (Ef [.raw .nilFunc, .raw .nilFunc, .raw (.func (.func 99) #[] #[]), .raw (.func (.func 100) #[] #[]), .raw (.func (.func 101) #[] #[]), .raw (.func (.func 102) #[] #[]), .raw (.func (.func 103) #[] #[]), .raw .nilFunc, .raw .nilFunc, .raw .nilFunc] rfl rfl (Nbl rfl) rfl (Ef [.raw .nilFunc, .raw .nilFunc, .raw (.func (.func 99) #[] #[]), .raw (.func (.func 100) #[] #[]), .raw (.func (.func 101) #[] #[]), .raw (.func (.func 102) #[] #[]), .raw (.func (.func 103) #[] #[]), .raw (.func (.func 104) #[] #[]), .raw .nilFunc, .raw .nilFunc] rfl rfl (Nbl rfl) rfl (Ef [.raw .nilFunc, .raw .nilFunc, .raw (.func (.func 99) #[] #[]), .raw (.func (.func 100) #[] #[]), .raw (.func (.func 101) #[] #[]), .raw (.func (.func 102) #[] #[]), .raw (.func (.func 103) #[] #[]), .raw (.func (.func 104) #[] #[]), .raw .nilFunc, .raw (.func (.func 105) #[] #[])] rfl rfl (Nbl rfl) rfl (.nil _))))))))) (Bz rfl Rx (Ax Zt rfl rfl rfl rfl (Nbl rfl) (Bs [.box [.raw .nilFunc, .raw .nilFunc, .raw (.func (.func 99) #[] #[]), .raw (.func (.func 100) #[] #[]), .raw (.func (.func 101) #[] #[]), .raw (.func (.func 102) #[] #[]), .raw (.func (.func 103) #[] #[]), .raw (.func (.func 104) #[] #[]), .raw .nilFunc, .raw (.func (.func 105) #[] #[])]] rfl (As (Aq (Aq (Ab (sv rfl (Ag rfl) ?_))))))))))))))
 obtain ⟨v1, hv1, h⟩ := An h
 refine A2 rfl Aim (Ac rfl Al) (Aj rfl) (Dy hv1) (sv rfl (B9 rfl) (As (ccI h rfl (fun h => ?_) (fun h => ?_))))
 ·refine Aq (Ab ?_)
  cases h
 ·refine Bl (Ai (Aq (Ab (sv rfl (Ag rfl) ?_))))
  refine sv rfl (Oz (o := 7) S4 rfl rfl (by decide)) ?_
  refine sv rfl (Ae Acb rfl (.lp _ _ _ rfl) rfl) (sv rfl (Ak rfl) (As (Bj ?_)))
  obtain rfl := Option.some.inj h
  exact ⟨Or.inr rfl, _, [], [.one (.raw (.func (.func 104) #[] #[]))], [], (Ad (Bd.tmp _ _ rfl) Af), rfl, rfl, ⟨by decide, rfl⟩, rfl, rfl, ⟨rfl, rfl⟩⟩
def Fm (a0 : Ah) (a1 : Bf) : Option Ah :=
 if (!decide (a1.Code = 0)) then ((Gw a0.Cfg.Plan 0).bind fun v1 => some ({a0 with Phase := 10, Left := v1.1})) else (if (decide (0 < a1.N)) then (if a0.Risk then ((Bu a0 1 a1.N).bind fun v2 => some v2) else (if (decide (0 < a1.N)) then ((Bu a0 4 a1.N).bind fun v3 => some v3) else (if a0.St.Stopped then ((Bu a0 2 0).bind fun v4 => some v4) else ((Cg a0).bind fun v5 => some v5)))) else (if (decide (0 < a1.N)) then ((Bu a0 4 a1.N).bind fun v6 => some v6) else (if a0.St.Stopped then ((Bu a0 2 0).bind fun v7 => some v7) else ((Cg a0).bind fun v8 => some v8))))
set_option maxRecDepth 100000 in
theorem On {a0 : Ah} {a1 : Bf} {r : Ah} (h : Fm a0 a1 = some r) : Bp Tryz.prog 104 [.agg (EL.el a0), .agg (EL.el a1)] (· = .s (.agg (EL.el r))) := by
 unfold Fm at h
 refine A1 Tryz.func104 rfl (nt := 47) rfl (Nbl rfl) ?_
 intro w0 S0
 refine Aq (Ab (Jd rfl rfl (Jd rfl rfl (Bz rfl Nn (As (Aq (B7 (Aq (Ab (sv rfl (Aa Rd rfl) (sv rfl (Ae Aa1 rfl (.lp _ _ _ rfl) rfl) (sv rfl (Cd rfl rfl) (sv rfl (Ak rfl) (As (ccI h rfl (fun h => ?_) (fun h => ?_))))))))))))))))
 ·refine Aq (Ab (sv rfl (Aa G4 rfl) (Ax sz3 rfl rfl rfl rfl (Nbl rfl) (Bs [.box (EL.el {a0 with Phase := 10}), .box (EL.el a1), .box Zba] rfl (As (Aq (Ab (sv rfl (Aa Qt rfl) (sv rfl (Aa Wt rfl) (sv rfl (Ao Aj4 rfl (.lp _ _ _ rfl) (Nbl rfl)) ?_))))))))))
  obtain ⟨v1, hv1, h⟩ := An h
  refine A2 rfl Aql (Ac rfl (Ac rfl Al)) (Aj rfl) (K9 hv1) (sv rfl (Gj rfl) (sv rfl (Bc rfl rfl) (sv rfl (Bc rfl rfl) (sv rfl (Aa Ra rfl) (Ax sz3 rfl rfl rfl rfl (Nbl rfl) (Bs [.box (EL.el {a0 with Phase := 10, Left := v1.1}), .box (EL.el a1), .box Zba] rfl (As (Aq (Ab (sv rfl (Ao B5 rfl (.lp _ _ _ rfl) (Nbl rfl)) (Ax Ey rfl rfl rfl rfl (Nbl rfl) (Bs [.box (EL.el {a0 with Phase := 10, Left := v1.1}), .box (EL.el a1), .box (EL.el {a0 with Phase := 10, Left := v1.1})] rfl (As (Bj (A9 (Ar ?_))))))))))))))))
  obtain rfl := Option.some.inj h
  refine ⟨Or.inr rfl, _, _, _, (Ad (Bd.agg _ _ _ _ _ B5 rfl (.lp _ _ _ rfl) (Nbl rfl)) Af), (Aj rfl), ?_⟩
  rfl
 ·refine Aq (Ab (sv rfl (Aa Qh rfl) (sv rfl (Ae ti3 rfl (.lp _ _ _ rfl) rfl) (sv rfl (C6 rfl rfl) (sv rfl (Ag rfl) (Bo 23 rfl (fun hc => ?_) (fun hc => ?_)))))))
  ·replace h := B2 hc h
   clear hc
   refine son rfl rfl rfl (sv rfl (Aa Xo rfl) (son rfl rfl rfl (sv rfl (Ae ti4 rfl (.lp _ _ _ rfl) rfl) (sv rfl (Au rfl rfl) (sv rfl (Ak rfl) (As (ccI h rfl (fun h => ?_) (fun h => ?_))))))))
   ·refine Aq (Ab (sv rfl (Ao B5 rfl (.lp _ _ _ rfl) (Nbl rfl)) (sv rfl (Aa Qh rfl) (sv rfl (Ae ti3 rfl (.lp _ _ _ rfl) rfl) ?_))))
    obtain ⟨v2, hv2, h⟩ := An h
    refine A2 rfl Aal (Ac rfl (Ac rfl (Ac rfl Al))) (Aj rfl) (Cc hv2) (Ax Ey rfl rfl rfl rfl (Nbl rfl) (Bs [.box (EL.el a0), .box (EL.el a1), .box (EL.el v2)] rfl (As (Bj (A9 (Ar ?_))))))
    obtain rfl := Option.some.inj h
    refine ⟨Or.inr rfl, _, _, _, (Ad (Bd.agg _ _ _ _ _ B5 rfl (.lp _ _ _ rfl) (Nbl rfl)) Af), (Aj rfl), ?_⟩
    rfl
   ·refine Aq (Ab (sv rfl (Aa Qh rfl) (sv rfl (Ae ti3 rfl (.lp _ _ _ rfl) rfl) (sv rfl (C6 rfl rfl) (sv rfl (Ak rfl) (As (ccI h rfl (fun h => ?_) (fun h => ?_))))))))
    ·refine Aq (Ab (sv rfl (Ao B5 rfl (.lp _ _ _ rfl) (Nbl rfl)) (sv rfl (Aa Qh rfl) (sv rfl (Ae ti3 rfl (.lp _ _ _ rfl) rfl) ?_))))
     obtain ⟨v3, hv3, h⟩ := An h
     refine A2 rfl Aal (Ac rfl (Ac rfl (Ac rfl Al))) (Aj rfl) (Cc hv3) (Ax Ey rfl rfl rfl rfl (Nbl rfl) (Bs [.box (EL.el a0), .box (EL.el a1), .box (EL.el v3)] rfl (As (Bj (A9 (Ar ?_))))))
     obtain rfl := Option.some.inj h
     refine ⟨Or.inr rfl, _, _, _, (Ad (Bd.agg _ _ _ _ _ B5 rfl (.lp _ _ _ rfl) (Nbl rfl)) Af), (Aj rfl), ?_⟩
     rfl
    ·refine Aq (Ab (sv rfl (Aa Py rfl) (sv rfl (Aa Wq rfl) (sv rfl (Ae ti4 rfl (.lp _ _ _ rfl) rfl) (sv rfl (Ak rfl) (As (ccI h rfl (fun h => ?_) (fun h => ?_))))))))
     ·refine Aq (Ab (sv rfl (Ao B5 rfl (.lp _ _ _ rfl) (Nbl rfl)) ?_))
      obtain ⟨v4, hv4, h⟩ := An h
      refine A2 rfl Aal (Ac rfl (Ac rfl (Ac rfl Al))) (Aj rfl) (Cc hv4) (Ax Ey rfl rfl rfl rfl (Nbl rfl) (Bs [.box (EL.el a0), .box (EL.el a1), .box (EL.el v4)] rfl (As (Bj (A9 (Ar ?_))))))
      obtain rfl := Option.some.inj h
      refine ⟨Or.inr rfl, _, _, _, (Ad (Bd.agg _ _ _ _ _ B5 rfl (.lp _ _ _ rfl) (Nbl rfl)) Af), (Aj rfl), ?_⟩
      rfl
     ·refine Bl (A4 (Ai (Aq (Ab (sv rfl (Ao B5 rfl (.lp _ _ _ rfl) (Nbl rfl)) ?_)))))
      obtain ⟨v5, hv5, h⟩ := An h
      refine A2 rfl Ahj (Ac rfl Al) (Aj rfl) (Eg hv5) (Ax Ey rfl rfl rfl rfl (Nbl rfl) (Bs [.box (EL.el a0), .box (EL.el a1), .box (EL.el v5)] rfl (As (Bj ?_))))
      obtain rfl := Option.some.inj h
      refine ⟨Or.inr rfl, _, _, _, (Ad (Bd.agg _ _ _ _ _ B5 rfl (.lp _ _ _ rfl) (Nbl rfl)) Af), (Aj rfl), ?_⟩
      rfl
  ·replace h := B1 hc h
   clear hc
   refine Av rfl rfl rfl rfl (Av rfl rfl rfl rfl (sv rfl (Am rfl rfl) (sv rfl (Ak rfl) (As (G0 rfl (fun hx => Bool.noConfusion hx) (fun _ => ?_))))))
   refine Aq (Ab (sv rfl (Aa Qh rfl) (sv rfl (Ae ti3 rfl (.lp _ _ _ rfl) rfl) (sv rfl (C6 rfl rfl) (sv rfl (Ak rfl) (As (ccI h rfl (fun h => ?_) (fun h => ?_))))))))
   ·refine Aq (Ab (sv rfl (Ao B5 rfl (.lp _ _ _ rfl) (Nbl rfl)) (sv rfl (Aa Qh rfl) (sv rfl (Ae ti3 rfl (.lp _ _ _ rfl) rfl) ?_))))
    obtain ⟨v6, hv6, h⟩ := An h
    refine A2 rfl Aal (Ac rfl (Ac rfl (Ac rfl Al))) (Aj rfl) (Cc hv6) (Ax Ey rfl rfl rfl rfl (Nbl rfl) (Bs [.box (EL.el a0), .box (EL.el a1), .box (EL.el v6)] rfl (As (Bj (A9 (Ar ?_))))))
    obtain rfl := Option.some.inj h
    refine ⟨Or.inr rfl, _, _, _, (Ad (Bd.agg _ _ _ _ _ B5 rfl (.lp _ _ _ rfl) (Nbl rfl)) Af), (Aj rfl), ?_⟩
    rfl
   ·refine Aq (Ab (sv rfl (Aa Py rfl) (sv rfl (Aa Wq rfl) (sv rfl (Ae ti4 rfl (.lp _ _ _ rfl) rfl) (sv rfl (Ak rfl) (As (ccI h rfl (fun h => ?_) (fun h => ?_))))))))
    ·refine Aq (Ab (sv rfl (Ao B5 rfl (.lp _ _ _ rfl) (Nbl rfl)) ?_))
     obtain ⟨v7, hv7, h⟩ := An h
     refine A2 rfl Aal (Ac rfl (Ac rfl (Ac rfl Al))) (Aj rfl) (Cc hv7) (Ax Ey rfl rfl rfl rfl (Nbl rfl) (Bs [.box (EL.el a0), .box (EL.el a1), .box (EL.el v7)] rfl (As (Bj (A9 (Ar ?_))))))
     obtain rfl := Option.some.inj h
     refine ⟨Or.inr rfl, _, _, _, (Ad (Bd.agg _ _ _ _ _ B5 rfl (.lp _ _ _ rfl) (Nbl rfl)) Af), (Aj rfl), ?_⟩
     rfl
    ·refine Bl (A4 (Ai (Aq (Ab (sv rfl (Ao B5 rfl (.lp _ _ _ rfl) (Nbl rfl)) ?_)))))
     obtain ⟨v8, hv8, h⟩ := An h
     refine A2 rfl Ahj (Ac rfl Al) (Aj rfl) (Eg hv8) (Ax Ey rfl rfl rfl rfl (Nbl rfl) (Bs [.box (EL.el a0), .box (EL.el a1), .box (EL.el v8)] rfl (As (Bj ?_))))
     obtain rfl := Option.some.inj h
     refine ⟨Or.inr rfl, _, _, _, (Ad (Bd.agg _ _ _ _ _ B5 rfl (.lp _ _ _ rfl) (Nbl rfl)) Af), (Aj rfl), ?_⟩
     rfl
def Ls  : Option Unit :=
 (Cn 9).bind fun v1 => if (!v1) then none else (some ())
set_option maxRecDepth 100000 in
theorem Qc  {r : Unit} (h : Ls = some r) : G2 Tryz.prog 79 [] [.one (Ii6 9)] (fun y m' => y = .s (.one (.raw (.func (.func 105) #[] #[]))) ∧ m' = []) := by
 unfold Ls at h
 refine Cv Tryz.func79 rfl (nt := 11) rfl (Nbl rfl) ?_
 intro w0 S0 X0 H0
 refine Aq (Ab (sv rfl (Ak rfl) (As (Aq (Ab (sv rfl (G6 Rx S4 (Ap rfl (Ap rfl (Ap rfl (Ap rfl (Ap rfl (Ap rfl (Ap rfl Ba))))))) (Ef [.raw .nilFunc, .raw .nilFunc, .raw (.func (.func 99) #[] #[]), .raw .nilFunc, .raw .nilFunc, .raw .nilFunc, .raw .nilFunc, .raw .nilFunc, .raw .nilFunc, .raw .nilFunc] rfl rfl (Nbl rfl) rfl (Ef [.raw .nilFunc, .raw .nilFunc, .raw (.func (.func 99) #[] #[]), .raw (.func (.func 100) #[] #[]), .raw .nilFunc, .raw .nilFunc, .raw .nilFunc, .raw .nilFunc, .raw .nilFunc, .raw .nilFunc] rfl rfl (Nbl rfl) rfl (Ef [.raw .nilFunc, .raw .nilFunc, .raw (.func (.func 99) #[] #[]), .raw (.func (.func 100) #[] #[]), .raw (.func (.func 101) #[] #[]), .raw .nilFunc, .raw .nilFunc, .raw .nilFunc, .raw .nilFunc, .raw .nilFunc] rfl rfl (Nbl rfl) rfl (Ef [.raw .nilFunc, .raw .nilFunc, .raw (.func (.func 99) #[] #[]), .raw (.func (.func 100) #[] #[]), .raw (.func (.func 101) #[] #[]), .raw (.func (.func 102) #[] #[]), .raw .nilFunc, .raw .nilFunc, .raw .nilFunc, .raw .nilFunc] rfl rfl (Nbl rfl) rfl (Ef [.raw .nilFunc, .raw .nilFunc, .raw (.func (.func 99) #[] #[]), .raw (.func (.func 100) #[] #[]), .raw (.func (.func 101) #[] #[]), .raw (.func (.func 102) #[] #[]), .raw (.func (.func 103) #[] #[]), .raw .nilFunc, .raw .nilFunc, .raw .nilFunc] rfl rfl (Nbl rfl) rfl (Ef [.raw .nilFunc, .raw .nilFunc, .raw (.func (.func 99) #[] #[]), .raw (.func (.func 100) #[] #[]), .raw (.func (.func 101) #[] #[]), .raw (.func (.func 102) #[] #[]), .raw (.func (.func 103) #[] #[]), .raw (.func (.func 104) #[] #[]), .raw .nilFunc, .raw .nilFunc] rfl rfl (Nbl rfl) rfl (Ef [.raw .nilFunc, .raw .nilFunc, .raw (.func (.func 99) #[] #[]), .raw (.func (.func 100) #[] #[]), .raw (.func (.func 101) #[] #[]), .raw (.func (.func 102) #[] #[]), .raw (.func (.func 103) #[] #[]), .raw (.func (.func 104) #[] #[]), .raw .nilFunc, .raw (.func (.func 105) #[] #[])] rfl rfl (Nbl rfl) rfl (.nil _))))))))) (Bz rfl Rx (Ax Zt rfl rfl rfl rfl (Nbl rfl) (Bs [.box [.raw .nilFunc, .raw .nilFunc, .raw (.func (.func 99) #[] #[]), .raw (.func (.func 100) #[] #[]), .raw (.func (.func 101) #[] #[]), .raw (.func (.func 102) #[] #[]), .raw (.func (.func 103) #[] #[]), .raw (.func (.func 104) #[] #[]), .raw .nilFunc, .raw (.func (.func 105) #[] #[])]] rfl (As (Aq (Aq (Ab (sv rfl (Ag rfl) ?_))))))))))))))
 obtain ⟨v1, hv1, h⟩ := An h
 refine A2 rfl Aim (Ac rfl Al) (Aj rfl) (Dy hv1) (sv rfl (B9 rfl) (As (ccI h rfl (fun h => ?_) (fun h => ?_))))
 ·refine Aq (Ab ?_)
  cases h
 ·refine Bl (Ai (Aq (Ab (sv rfl (Ag rfl) ?_))))
  refine sv rfl (Oz (o := 9) S4 rfl rfl (by decide)) ?_
  refine sv rfl (Ae Acb rfl (.lp _ _ _ rfl) rfl) (sv rfl (Ak rfl) (As (Bj ?_)))
  obtain rfl := Option.some.inj h
  exact ⟨Or.inr rfl, _, [], [.one (.raw (.func (.func 105) #[] #[]))], [], (Ad (Bd.tmp _ _ rfl) Af), rfl, rfl, ⟨by decide, rfl⟩, rfl, rfl, ⟨rfl, rfl⟩⟩
def Ex (a0 : Ah) (a1 : Bf) : Option Ah :=
 (Ev a0).bind fun v1 => (Dv ({v1 with Phase := 0})).bind fun v2 => some v2
set_option maxRecDepth 100000 in
theorem Oi {a0 : Ah} {a1 : Bf} {r : Ah} (h : Ex a0 a1 = some r) : Bp Tryz.prog 105 [.agg (EL.el a0), .agg (EL.el a1)] (· = .s (.agg (EL.el r))) := by
 unfold Ex at h
 refine A1 Tryz.func105 rfl (nt := 10) rfl (Nbl rfl) ?_
 intro w0 S0
 refine Aq (Ab (Jd rfl rfl (Jd rfl rfl (Bz rfl Nn (As (Aq (Ab (sv rfl (Ao B5 rfl (.lp _ _ _ rfl) (Nbl rfl)) ?_))))))))
 obtain ⟨v1, hv1, h⟩ := An h
 refine A2 rfl At2 (Ac rfl Al) (Aj rfl) (Me hv1) (Ax Ey rfl rfl rfl rfl (Nbl rfl) (Bs [.box (EL.el v1), .box (EL.el a1), .box Zba] rfl (As (Aq (Ab (sv rfl (Aa G4 rfl) (Ax sz3 rfl rfl rfl rfl (Nbl rfl) (Bs [.box (EL.el {v1 with Phase := 0}), .box (EL.el a1), .box Zba] rfl (As (Aq (Ab (sv rfl (Ao B5 rfl (.lp _ _ _ rfl) (Nbl rfl)) ?_))))))))))))
 obtain ⟨v2, hv2, h⟩ := An h
 refine A2 rfl Asz (Ac rfl Al) (Aj rfl) (I7 hv2) (Ax Ey rfl rfl rfl rfl (Nbl rfl) (Bs [.box (EL.el {v1 with Phase := 0}), .box (EL.el a1), .box (EL.el v2)] rfl (As (Bj ?_))))
 obtain rfl := Option.some.inj h
 refine ⟨Or.inr rfl, _, _, _, (Ad (Bd.agg _ _ _ _ _ B5 rfl (.lp _ _ _ rfl) (Nbl rfl)) Af), (Aj rfl), ?_⟩
 rfl
def Ha (a0 : Int) : Option Unit :=
 (Cn a0).bind fun v1 => if (!v1) then (some ()) else none
set_option maxRecDepth 100000 in
theorem P7 {a0 : Int} {r : Unit} (h : Ha a0 = some r) : G2 Tryz.prog 79 [] [.one (Ii6 a0)] (fun y m' => y = .s (.one (.raw .nilFunc)) ∧ m' = []) := by
 unfold Ha at h
 refine Cv Tryz.func79 rfl (nt := 11) rfl (Nbl rfl) ?_
 intro w0 S0 X0 H0
 refine Aq (Ab (sv rfl (Ak rfl) (As (Aq (Ab (sv rfl (G6 Rx S4 (Ap rfl (Ap rfl (Ap rfl (Ap rfl (Ap rfl (Ap rfl (Ap rfl Ba))))))) (Ef [.raw .nilFunc, .raw .nilFunc, .raw (.func (.func 99) #[] #[]), .raw .nilFunc, .raw .nilFunc, .raw .nilFunc, .raw .nilFunc, .raw .nilFunc, .raw .nilFunc, .raw .nilFunc] rfl rfl (Nbl rfl) rfl (Ef [.raw .nilFunc, .raw .nilFunc, .raw (.func (.func 99) #[] #[]), .raw (.func (.func 100) #[] #[]), .raw .nilFunc, .raw .nilFunc, .raw .nilFunc, .raw .nilFunc, .raw .nilFunc, .raw .nilFunc] rfl rfl (Nbl rfl) rfl (Ef [.raw .nilFunc, .raw .nilFunc, .raw (.func (.func 99) #[] #[]), .raw (.func (.func 100) #[] #[]), .raw (.func (.func 101) #[] #[]), .raw .nilFunc, .raw .nilFunc, .raw .nilFunc, .raw .nilFunc, .raw .nilFunc] rfl rfl (Nbl rfl) rfl (Ef [.raw .nilFunc, .raw .nilFunc, .raw (.func (.func 99) #[] #[]), .raw (.func (.func 100) #[] #[]), .raw (.func (.func 101) #[] #[]), .raw (.func (.func 102) #[] #[]), .raw .nilFunc, .raw .nilFunc, .raw .nilFunc, .raw .nilFunc] rfl rfl (Nbl rfl) rfl (Ef [.raw .nilFunc, .raw .nilFunc, .raw (.func (.func 99) #[] #[]), .raw (.func (.func 100) #[] #[]), .raw (.func (.func 101) #[] #[]), .raw (.func (.func 102) #[] #[]), .raw (.func (.func 103) #[] #[]), .raw .nilFunc, .raw .nilFunc, .raw .nilFunc] rfl rfl (Nbl rfl) rfl (Ef [.raw .nilFunc, .raw .nilFunc, .raw (.func (.func 99) #[] #[]), .raw (.func (.func 100) #[] #[]), .raw (.func (.func 101) #[] #[]), .raw (.func (.func 102) #[] #[]), .raw (.func (.func 103) #[] #[]), .raw (.func (.func 104) #[] #[]), .raw .nilFunc, .raw .nilFunc] rfl rfl (Nbl rfl) rfl (Ef [.raw .nilFunc, .raw .nilFunc, .raw (.func (.func 99) #[] #[]), .raw (.func (.func 100) #[] #[]), .raw (.func (.func 101) #[] #[]), .raw (.func (.func 102) #[] #[]), .raw (.func (.func 103) #[] #[]), .raw (.func (.func 104) #[] #[]), .raw .nilFunc, .raw (.func (.func 105) #[] #[])] rfl rfl (Nbl rfl) rfl (.nil _))))))))) (Bz rfl Rx (Ax Zt rfl rfl rfl rfl (Nbl rfl) (Bs [.box [.raw .nilFunc, .raw .nilFunc, .raw (.func (.func 99) #[] #[]), .raw (.func (.func 100) #[] #[]), .raw (.func (.func 101) #[] #[]), .raw (.func (.func 102) #[] #[]), .raw (.func (.func 103) #[] #[]), .raw (.func (.func 104) #[] #[]), .raw .nilFunc, .raw (.func (.func 105) #[] #[])]] rfl (As (Aq (Aq (Ab (sv rfl (Ag rfl) ?_))))))))))))))
 obtain ⟨v1, hv1, h⟩ := An h
 refine A2 rfl Aim (Ac rfl Al) (Aj rfl) (Dy hv1) (sv rfl (B9 rfl) (As (ccI h rfl (fun h => ?_) (fun h => ?_))))
 ·refine Aq (Ab (sv rfl (Ak rfl) (As (Bj (Ar ?_)))))
  obtain rfl := Option.some.inj h
  exact ⟨Or.inr rfl, _, [], [.one (.raw .nilFunc)], [], (Ad (Bd.tmp _ _ rfl) Af), rfl, rfl, ⟨by decide, rfl⟩, rfl, rfl, ⟨rfl, rfl⟩⟩
 ·refine Bl (Ai (Aq (Ab (sv rfl (Ag rfl) ?_))))
  cases h
def Gq (a0 : Ah) (v1 : Bf × Int) (b5 : Unit) : Option Ah :=
 (Eh a0 v1.1).bind fun v6 => some v6
def Gr (a0 : Ah) (v1 : Bf × Int) (b9 : Unit) : Option Ah :=
 (E0 a0 v1.1).bind fun v10 => some v10
def F6 (a0 : Ah) (v1 : Bf × Int) (b13 : Unit) : Option Ah :=
 (Dz a0 v1.1).bind fun v14 => some v14
def F8 (a0 : Ah) (v1 : Bf × Int) (b17 : Unit) : Option Ah :=
 (Ez a0 v1.1).bind fun v18 => some v18
def Ga (a0 : Ah) (v1 : Bf × Int) (b21 : Unit) : Option Ah :=
 (G7 a0 v1.1).bind fun v22 => some v22
def F7 (a0 : Ah) (v1 : Bf × Int) (b25 : Unit) : Option Ah :=
 (Fm a0 v1.1).bind fun v26 => some v26
def F9 (a0 : Ah) (v1 : Bf × Int) (b29 : Unit) : Option Ah :=
 (Ex a0 v1.1).bind fun v30 => some v30
def Gd (a0 : Ah) (a1 : List UInt8) : Option Ah :=
 (Fl a1).bind fun v1 => if (!decide (v1.2 = 0)) then ((Cq a0).bind fun v2 => some v2) else (if decide (a0.Phase = 2) then ((Mc).bind fun v4 => if (!decide (v1.1.Kind = a0.Req.Kind)) then (some a0) else (if (!decide (v1.1.Seq = a0.Req.Seq)) then (some a0) else (Gq a0 v1 ()))) else (if decide (a0.Phase = 3) then ((Ln).bind fun v8 => if (!decide (v1.1.Kind = a0.Req.Kind)) then (some a0) else (if (!decide (v1.1.Seq = a0.Req.Seq)) then (some a0) else (Gr a0 v1 ()))) else (if decide (a0.Phase = 4) then ((Lr).bind fun v12 => if (!decide (v1.1.Kind = a0.Req.Kind)) then (some a0) else (if (!decide (v1.1.Seq = a0.Req.Seq)) then (some a0) else (F6 a0 v1 ()))) else (if decide (a0.Phase = 5) then ((Ll).bind fun v16 => if (!decide (v1.1.Kind = a0.Req.Kind)) then (some a0) else (if (!decide (v1.1.Seq = a0.Req.Seq)) then (some a0) else (F8 a0 v1 ()))) else (if decide (a0.Phase = 6) then ((Lm).bind fun v20 => if (!decide (v1.1.Kind = a0.Req.Kind)) then (some a0) else (if (!decide (v1.1.Seq = a0.Req.Seq)) then (some a0) else (Ga a0 v1 ()))) else (if decide (a0.Phase = 7) then ((Li).bind fun v24 => if (!decide (v1.1.Kind = a0.Req.Kind)) then (some a0) else (if (!decide (v1.1.Seq = a0.Req.Seq)) then (some a0) else (F7 a0 v1 ()))) else (if decide (a0.Phase = 9) then ((Ls).bind fun v28 => if (!decide (v1.1.Kind = a0.Req.Kind)) then (some a0) else (if (!decide (v1.1.Seq = a0.Req.Seq)) then (some a0) else (F9 a0 v1 ()))) else ((Ha a0.Phase).bind fun v31 => some (Ah.mk (Cr.mk a0.Cfg.Who (Dn.mk a0.Cfg.Plan.Wait a0.Cfg.Plan.Most a0.Cfg.Plan.Tries) a0.Cfg.Attempts a0.Cfg.Budget) a0.Tasks a0.Phase a0.Epoch a0.Seq a0.Attempt a0.Sent a0.Left a0.Resets a0.Risk (A7.mk a0.St.PC (E3.mk a0.St.Regs.R0 a0.St.Regs.R1 a0.St.Regs.R2 a0.St.Regs.R3 a0.St.Regs.R4 a0.St.Regs.R5 a0.St.Regs.R6 a0.St.Regs.R7) a0.St.Stopped) (Ca.mk a0.Req.Kind a0.Req.Seq a0.Req.Token a0.Req.Attempt a0.Req.RO a0.Req.Key a0.Req.Val (B8.mk a0.Req.Rng.Lo a0.Req.Rng.Hi a0.Req.Rng.Open)) (Bm.mk a0.In.Buf a0.In.Dead) a0.Out a0.Done a0.Tried)))))))))
set_option maxRecDepth 100000 in
theorem O9 {a0 : Ah} {a1 : List UInt8} {r : Ah} (h : Gd a0 a1 = some r) : Bp Tryz.prog 46 [.agg (EL.el a0), .one (.sl a1.length (a1.flatMap eU8))] (· = .s (.agg (EL.el r))) := by
 unfold Gd at h
 refine A1 Tryz.func46 rfl (nt := 43) rfl (Nbl rfl) ?_
 intro w0 S0
 refine Aq (Ab (Jd rfl rfl (Bz rfl Nn (As (Aq (Ab (sv rfl (Ag rfl) ?_)))))))
 obtain ⟨v1, hv1, h⟩ := An h
 refine A2 rfl Awa (Ac rfl Al) (Aj rfl) (Sv hv1) (sv rfl (Gj rfl) (sv rfl (Bc rfl rfl) (sv rfl (Bc rfl rfl) (Bz rfl Akr (Ax Anp rfl rfl rfl rfl (Nbl rfl) (Bs [.box (EL.el a0), .box Zba, .box (EL.el v1.1)] rfl (sv rfl (Ak rfl) (As (Aq (Aq (Ab (sv rfl (Ag rfl) (sv rfl (Cd rfl rfl) (As (ccI h rfl (fun h => ?_) (fun h => ?_))))))))))))))))
 ·refine Aq (Ab (sv rfl (Ao B5 rfl (.lp _ _ _ rfl) (Nbl rfl)) ?_))
  obtain ⟨v2, hv2, h⟩ := An h
  refine A2 rfl Aob (Ac rfl Al) (Aj rfl) (Fj hv2) (Ax Ey rfl rfl rfl rfl (Nbl rfl) (Bs [.box (EL.el a0), .box (EL.el v2), .box (EL.el v1.1)] rfl (As (Bj (Ar ?_)))))
  obtain rfl := Option.some.inj h
  refine ⟨Or.inr rfl, _, _, _, (Ad (Bd.agg _ _ _ _ _ B5 rfl (.lp _ _ _ rfl) (Nbl rfl)) Af), (Aj rfl), ?_⟩
  rfl
 ·refine Bl (Ai (Aq (Ab (sv rfl (Aa G4 rfl) (sv rfl (Ae ti3 rfl (.lp _ _ _ rfl) rfl) ?_)))))
  by_cases hq3 : a0.Phase = 2
  ·replace h := B2 (decide_eq_true hq3) h
   refine Va 18 (y := .s (.one (Ii6 a0.Phase))) (.s (.one (Ii6 2))) rfl (congrArg (fun n => AV.s (.one (Ii6 n))) hq3) ?_
   obtain ⟨v4, hv4, h⟩ := An h
   refine C2 (x' := .s (.one (.raw (.func (.func 99) #[] #[])))) (M' := [.box (EL.el a0), .box Zba, .box (EL.el v1.1)]) [] rfl Akp (.func _) (Ac rfl Al) (Q3 hv4) rfl rfl (by decide) rfl rfl rfl ?_
   refine sv rfl (Ak rfl) (As (Aq (Aq (Ki (Unit) (fun b5 => [(2, .s (.one (.lp 0 0))), (4, .s (.one (.lp 1 0))), (5, .s (.one (.lp 2 0))), (7, .s (.one (.raw (.func (.func 99) #[] #[]))))]) (fun b5 => [.box (EL.el a0), .box Zba, .box (EL.el v1.1)]) (fun b5 => Gq a0 v1 b5 = some r) (fun _ _ => Be rfl) (fun _ _ => A0 rfl) (fun _ _ => Nat.le_of_ble_eq_true rfl) (fun b5 h => ?_) ?_))))
   ·unfold Gq at h
    refine Aq (Ab (sv rfl (Ag rfl) (sv rfl (Ao B5 rfl (.lp _ _ _ rfl) (Nbl rfl)) (sv rfl (Ao Aa7 rfl (.lp _ _ _ rfl) (Nbl rfl)) ?_))))
    obtain ⟨v6, hv6, h⟩ := An h
    refine sd rfl (Oa Avn (.raw _ _ rfl) (Ac rfl (Ac rfl Al)) rfl (Ny hv6)) (Ax Ey rfl rfl rfl rfl (Nbl rfl) (Bs [.box (EL.el a0), .box (EL.el v6), .box (EL.el v1.1)] rfl (As (Bj ?_))))
    obtain rfl := Option.some.inj h
    refine ⟨Or.inr rfl, _, _, _, (Ad (Bd.agg _ _ _ _ _ B5 rfl (.lp _ _ _ rfl) (Nbl rfl)) Af), (Aj rfl), ?_⟩
    rfl
   ·skip
    refine Ab (sv rfl (Ag rfl) (sv rfl (Jh Tryz.underlying159 rfl) (sv rfl (Ag rfl) (son rfl rfl rfl (sv rfl (Aa P5 rfl) (son rfl rfl rfl (sv rfl (Ae ti3 rfl (.lp _ _ _ rfl) rfl) (son rfl rfl rfl (sv rfl (Aa Jq rfl) (son rfl rfl rfl (sv rfl (Aa Pz rfl) (son rfl rfl rfl (sv rfl (Ae ti3 rfl (.lp _ _ _ rfl) rfl) (son rfl rfl rfl (sv rfl (Cd rfl rfl) (sv rfl (Am rfl rfl) (sv rfl (Ag rfl) (Bo 30 rfl (fun hc => ?_) (fun hc => ?_)))))))))))))))))))
    ·replace h := B2 hc h
     clear hc
     refine Av rfl rfl rfl rfl (Av rfl rfl rfl rfl (Av rfl rfl rfl rfl (Av rfl rfl rfl rfl (Av rfl rfl rfl rfl (Av rfl rfl rfl rfl (sv rfl (Au rfl rfl) (As (G0 rfl (fun _ => ?_) (fun hx => Bool.noConfusion hx)))))))))
     refine Aq (Ab (sv rfl (Ao B5 rfl (.lp _ _ _ rfl) (Nbl rfl)) (Ax Ey rfl rfl rfl rfl (Nbl rfl) (Bs [.box (EL.el a0), .box (EL.el a0), .box (EL.el v1.1)] rfl (As (Bj (Ar ?_)))))))
     obtain rfl := Option.some.inj h
     refine ⟨Or.inr rfl, _, _, _, (Ad (Bd.agg _ _ _ _ _ B5 rfl (.lp _ _ _ rfl) (Nbl rfl)) Af), (Aj rfl), ?_⟩
     rfl
    ·replace h := B1 hc h
     clear hc
     refine son rfl rfl rfl (sv rfl (Aa Sg rfl) (son rfl rfl rfl (sv rfl (Ae ti3 rfl (.lp _ _ _ rfl) rfl) (son rfl rfl rfl (sv rfl (Aa Jq rfl) (son rfl rfl rfl (sv rfl (Aa Qp rfl) (son rfl rfl rfl (sv rfl (Ae ti3 rfl (.lp _ _ _ rfl) rfl) (son rfl rfl rfl (sv rfl (Cd rfl rfl) (sv rfl (Am rfl rfl) (As (ccI h rfl (fun h => ?_) (fun h => ?_)))))))))))))))
     ·refine Aq (Ab (sv rfl (Ao B5 rfl (.lp _ _ _ rfl) (Nbl rfl)) (Ax Ey rfl rfl rfl rfl (Nbl rfl) (Bs [.box (EL.el a0), .box (EL.el a0), .box (EL.el v1.1)] rfl (As (Bj (Ar ?_)))))))
      obtain rfl := Option.some.inj h
      refine ⟨Or.inr rfl, _, _, _, (Ad (Bd.agg _ _ _ _ _ B5 rfl (.lp _ _ _ rfl) (Nbl rfl)) Af), (Aj rfl), ?_⟩
      rfl
     ·refine Bl (Ai ?_)
      exact ⟨(), _, h, ⟨rfl, rfl, rfl, rfl, trivial⟩, rfl⟩
  replace h := B1 (decide_eq_false hq3) h
  by_cases hq7 : a0.Phase = 3
  ·replace h := B2 (decide_eq_true hq7) h
   refine Va 18 (y := .s (.one (Ii6 a0.Phase))) (.s (.one (Ii6 3))) rfl (congrArg (fun n => AV.s (.one (Ii6 n))) hq7) ?_
   obtain ⟨v8, hv8, h⟩ := An h
   refine C2 (x' := .s (.one (.raw (.func (.func 100) #[] #[])))) (M' := [.box (EL.el a0), .box Zba, .box (EL.el v1.1)]) [] rfl Akp (.func _) (Ac rfl Al) (Qb hv8) rfl rfl (by decide) rfl rfl rfl ?_
   refine sv rfl (Ak rfl) (As (Aq (Aq (Ki (Unit) (fun b9 => [(2, .s (.one (.lp 0 0))), (4, .s (.one (.lp 1 0))), (5, .s (.one (.lp 2 0))), (7, .s (.one (.raw (.func (.func 100) #[] #[]))))]) (fun b9 => [.box (EL.el a0), .box Zba, .box (EL.el v1.1)]) (fun b9 => Gr a0 v1 b9 = some r) (fun _ _ => Be rfl) (fun _ _ => A0 rfl) (fun _ _ => Nat.le_of_ble_eq_true rfl) (fun b9 h => ?_) ?_))))
   ·unfold Gr at h
    refine Aq (Ab (sv rfl (Ag rfl) (sv rfl (Ao B5 rfl (.lp _ _ _ rfl) (Nbl rfl)) (sv rfl (Ao Aa7 rfl (.lp _ _ _ rfl) (Nbl rfl)) ?_))))
    obtain ⟨v10, hv10, h⟩ := An h
    refine sd rfl (Oa Asu (.raw _ _ rfl) (Ac rfl (Ac rfl Al)) rfl (Ob hv10)) (Ax Ey rfl rfl rfl rfl (Nbl rfl) (Bs [.box (EL.el a0), .box (EL.el v10), .box (EL.el v1.1)] rfl (As (Bj ?_))))
    obtain rfl := Option.some.inj h
    refine ⟨Or.inr rfl, _, _, _, (Ad (Bd.agg _ _ _ _ _ B5 rfl (.lp _ _ _ rfl) (Nbl rfl)) Af), (Aj rfl), ?_⟩
    rfl
   ·skip
    refine Ab (sv rfl (Ag rfl) (sv rfl (Jh Tryz.underlying159 rfl) (sv rfl (Ag rfl) (son rfl rfl rfl (sv rfl (Aa P5 rfl) (son rfl rfl rfl (sv rfl (Ae ti3 rfl (.lp _ _ _ rfl) rfl) (son rfl rfl rfl (sv rfl (Aa Jq rfl) (son rfl rfl rfl (sv rfl (Aa Pz rfl) (son rfl rfl rfl (sv rfl (Ae ti3 rfl (.lp _ _ _ rfl) rfl) (son rfl rfl rfl (sv rfl (Cd rfl rfl) (sv rfl (Am rfl rfl) (sv rfl (Ag rfl) (Bo 30 rfl (fun hc => ?_) (fun hc => ?_)))))))))))))))))))
    ·replace h := B2 hc h
     clear hc
     refine Av rfl rfl rfl rfl (Av rfl rfl rfl rfl (Av rfl rfl rfl rfl (Av rfl rfl rfl rfl (Av rfl rfl rfl rfl (Av rfl rfl rfl rfl (sv rfl (Au rfl rfl) (As (G0 rfl (fun _ => ?_) (fun hx => Bool.noConfusion hx)))))))))
     refine Aq (Ab (sv rfl (Ao B5 rfl (.lp _ _ _ rfl) (Nbl rfl)) (Ax Ey rfl rfl rfl rfl (Nbl rfl) (Bs [.box (EL.el a0), .box (EL.el a0), .box (EL.el v1.1)] rfl (As (Bj (Ar ?_)))))))
     obtain rfl := Option.some.inj h
     refine ⟨Or.inr rfl, _, _, _, (Ad (Bd.agg _ _ _ _ _ B5 rfl (.lp _ _ _ rfl) (Nbl rfl)) Af), (Aj rfl), ?_⟩
     rfl
    ·replace h := B1 hc h
     clear hc
     refine son rfl rfl rfl (sv rfl (Aa Sg rfl) (son rfl rfl rfl (sv rfl (Ae ti3 rfl (.lp _ _ _ rfl) rfl) (son rfl rfl rfl (sv rfl (Aa Jq rfl) (son rfl rfl rfl (sv rfl (Aa Qp rfl) (son rfl rfl rfl (sv rfl (Ae ti3 rfl (.lp _ _ _ rfl) rfl) (son rfl rfl rfl (sv rfl (Cd rfl rfl) (sv rfl (Am rfl rfl) (As (ccI h rfl (fun h => ?_) (fun h => ?_)))))))))))))))
     ·refine Aq (Ab (sv rfl (Ao B5 rfl (.lp _ _ _ rfl) (Nbl rfl)) (Ax Ey rfl rfl rfl rfl (Nbl rfl) (Bs [.box (EL.el a0), .box (EL.el a0), .box (EL.el v1.1)] rfl (As (Bj (Ar ?_)))))))
      obtain rfl := Option.some.inj h
      refine ⟨Or.inr rfl, _, _, _, (Ad (Bd.agg _ _ _ _ _ B5 rfl (.lp _ _ _ rfl) (Nbl rfl)) Af), (Aj rfl), ?_⟩
      rfl
     ·refine Bl (Ai ?_)
      exact ⟨(), _, h, ⟨rfl, rfl, rfl, rfl, trivial⟩, rfl⟩
  replace h := B1 (decide_eq_false hq7) h
  by_cases hq11 : a0.Phase = 4
  ·replace h := B2 (decide_eq_true hq11) h
   refine Va 18 (y := .s (.one (Ii6 a0.Phase))) (.s (.one (Ii6 4))) rfl (congrArg (fun n => AV.s (.one (Ii6 n))) hq11) ?_
   obtain ⟨v12, hv12, h⟩ := An h
   refine C2 (x' := .s (.one (.raw (.func (.func 101) #[] #[])))) (M' := [.box (EL.el a0), .box Zba, .box (EL.el v1.1)]) [] rfl Akp (.func _) (Ac rfl Al) (P9 hv12) rfl rfl (by decide) rfl rfl rfl ?_
   refine sv rfl (Ak rfl) (As (Aq (Aq (Ki (Unit) (fun b13 => [(2, .s (.one (.lp 0 0))), (4, .s (.one (.lp 1 0))), (5, .s (.one (.lp 2 0))), (7, .s (.one (.raw (.func (.func 101) #[] #[]))))]) (fun b13 => [.box (EL.el a0), .box Zba, .box (EL.el v1.1)]) (fun b13 => F6 a0 v1 b13 = some r) (fun _ _ => Be rfl) (fun _ _ => A0 rfl) (fun _ _ => Nat.le_of_ble_eq_true rfl) (fun b13 h => ?_) ?_))))
   ·unfold F6 at h
    refine Aq (Ab (sv rfl (Ag rfl) (sv rfl (Ao B5 rfl (.lp _ _ _ rfl) (Nbl rfl)) (sv rfl (Ao Aa7 rfl (.lp _ _ _ rfl) (Nbl rfl)) ?_))))
    obtain ⟨v14, hv14, h⟩ := An h
    refine sd rfl (Oa As4 (.raw _ _ rfl) (Ac rfl (Ac rfl Al)) rfl (Nj hv14)) (Ax Ey rfl rfl rfl rfl (Nbl rfl) (Bs [.box (EL.el a0), .box (EL.el v14), .box (EL.el v1.1)] rfl (As (Bj ?_))))
    obtain rfl := Option.some.inj h
    refine ⟨Or.inr rfl, _, _, _, (Ad (Bd.agg _ _ _ _ _ B5 rfl (.lp _ _ _ rfl) (Nbl rfl)) Af), (Aj rfl), ?_⟩
    rfl
   ·skip
    refine Ab (sv rfl (Ag rfl) (sv rfl (Jh Tryz.underlying159 rfl) (sv rfl (Ag rfl) (son rfl rfl rfl (sv rfl (Aa P5 rfl) (son rfl rfl rfl (sv rfl (Ae ti3 rfl (.lp _ _ _ rfl) rfl) (son rfl rfl rfl (sv rfl (Aa Jq rfl) (son rfl rfl rfl (sv rfl (Aa Pz rfl) (son rfl rfl rfl (sv rfl (Ae ti3 rfl (.lp _ _ _ rfl) rfl) (son rfl rfl rfl (sv rfl (Cd rfl rfl) (sv rfl (Am rfl rfl) (sv rfl (Ag rfl) (Bo 30 rfl (fun hc => ?_) (fun hc => ?_)))))))))))))))))))
    ·replace h := B2 hc h
     clear hc
     refine Av rfl rfl rfl rfl (Av rfl rfl rfl rfl (Av rfl rfl rfl rfl (Av rfl rfl rfl rfl (Av rfl rfl rfl rfl (Av rfl rfl rfl rfl (sv rfl (Au rfl rfl) (As (G0 rfl (fun _ => ?_) (fun hx => Bool.noConfusion hx)))))))))
     refine Aq (Ab (sv rfl (Ao B5 rfl (.lp _ _ _ rfl) (Nbl rfl)) (Ax Ey rfl rfl rfl rfl (Nbl rfl) (Bs [.box (EL.el a0), .box (EL.el a0), .box (EL.el v1.1)] rfl (As (Bj (Ar ?_)))))))
     obtain rfl := Option.some.inj h
     refine ⟨Or.inr rfl, _, _, _, (Ad (Bd.agg _ _ _ _ _ B5 rfl (.lp _ _ _ rfl) (Nbl rfl)) Af), (Aj rfl), ?_⟩
     rfl
    ·replace h := B1 hc h
     clear hc
     refine son rfl rfl rfl (sv rfl (Aa Sg rfl) (son rfl rfl rfl (sv rfl (Ae ti3 rfl (.lp _ _ _ rfl) rfl) (son rfl rfl rfl (sv rfl (Aa Jq rfl) (son rfl rfl rfl (sv rfl (Aa Qp rfl) (son rfl rfl rfl (sv rfl (Ae ti3 rfl (.lp _ _ _ rfl) rfl) (son rfl rfl rfl (sv rfl (Cd rfl rfl) (sv rfl (Am rfl rfl) (As (ccI h rfl (fun h => ?_) (fun h => ?_)))))))))))))))
     ·refine Aq (Ab (sv rfl (Ao B5 rfl (.lp _ _ _ rfl) (Nbl rfl)) (Ax Ey rfl rfl rfl rfl (Nbl rfl) (Bs [.box (EL.el a0), .box (EL.el a0), .box (EL.el v1.1)] rfl (As (Bj (Ar ?_)))))))
      obtain rfl := Option.some.inj h
      refine ⟨Or.inr rfl, _, _, _, (Ad (Bd.agg _ _ _ _ _ B5 rfl (.lp _ _ _ rfl) (Nbl rfl)) Af), (Aj rfl), ?_⟩
      rfl
     ·refine Bl (Ai ?_)
      exact ⟨(), _, h, ⟨rfl, rfl, rfl, rfl, trivial⟩, rfl⟩
  replace h := B1 (decide_eq_false hq11) h
  by_cases hq15 : a0.Phase = 5
  ·replace h := B2 (decide_eq_true hq15) h
   refine Va 18 (y := .s (.one (Ii6 a0.Phase))) (.s (.one (Ii6 5))) rfl (congrArg (fun n => AV.s (.one (Ii6 n))) hq15) ?_
   obtain ⟨v16, hv16, h⟩ := An h
   refine C2 (x' := .s (.one (.raw (.func (.func 102) #[] #[])))) (M' := [.box (EL.el a0), .box Zba, .box (EL.el v1.1)]) [] rfl Akp (.func _) (Ac rfl Al) (Qa hv16) rfl rfl (by decide) rfl rfl rfl ?_
   refine sv rfl (Ak rfl) (As (Aq (Aq (Ki (Unit) (fun b17 => [(2, .s (.one (.lp 0 0))), (4, .s (.one (.lp 1 0))), (5, .s (.one (.lp 2 0))), (7, .s (.one (.raw (.func (.func 102) #[] #[]))))]) (fun b17 => [.box (EL.el a0), .box Zba, .box (EL.el v1.1)]) (fun b17 => F8 a0 v1 b17 = some r) (fun _ _ => Be rfl) (fun _ _ => A0 rfl) (fun _ _ => Nat.le_of_ble_eq_true rfl) (fun b17 h => ?_) ?_))))
   ·unfold F8 at h
    refine Aq (Ab (sv rfl (Ag rfl) (sv rfl (Ao B5 rfl (.lp _ _ _ rfl) (Nbl rfl)) (sv rfl (Ao Aa7 rfl (.lp _ _ _ rfl) (Nbl rfl)) ?_))))
    obtain ⟨v18, hv18, h⟩ := An h
    refine sd rfl (Oa Aro (.raw _ _ rfl) (Ac rfl (Ac rfl Al)) rfl (Oh hv18)) (Ax Ey rfl rfl rfl rfl (Nbl rfl) (Bs [.box (EL.el a0), .box (EL.el v18), .box (EL.el v1.1)] rfl (As (Bj ?_))))
    obtain rfl := Option.some.inj h
    refine ⟨Or.inr rfl, _, _, _, (Ad (Bd.agg _ _ _ _ _ B5 rfl (.lp _ _ _ rfl) (Nbl rfl)) Af), (Aj rfl), ?_⟩
    rfl
   ·skip
    refine Ab (sv rfl (Ag rfl) (sv rfl (Jh Tryz.underlying159 rfl) (sv rfl (Ag rfl) (son rfl rfl rfl (sv rfl (Aa P5 rfl) (son rfl rfl rfl (sv rfl (Ae ti3 rfl (.lp _ _ _ rfl) rfl) (son rfl rfl rfl (sv rfl (Aa Jq rfl) (son rfl rfl rfl (sv rfl (Aa Pz rfl) (son rfl rfl rfl (sv rfl (Ae ti3 rfl (.lp _ _ _ rfl) rfl) (son rfl rfl rfl (sv rfl (Cd rfl rfl) (sv rfl (Am rfl rfl) (sv rfl (Ag rfl) (Bo 30 rfl (fun hc => ?_) (fun hc => ?_)))))))))))))))))))
    ·replace h := B2 hc h
     clear hc
     refine Av rfl rfl rfl rfl (Av rfl rfl rfl rfl (Av rfl rfl rfl rfl (Av rfl rfl rfl rfl (Av rfl rfl rfl rfl (Av rfl rfl rfl rfl (sv rfl (Au rfl rfl) (As (G0 rfl (fun _ => ?_) (fun hx => Bool.noConfusion hx)))))))))
     refine Aq (Ab (sv rfl (Ao B5 rfl (.lp _ _ _ rfl) (Nbl rfl)) (Ax Ey rfl rfl rfl rfl (Nbl rfl) (Bs [.box (EL.el a0), .box (EL.el a0), .box (EL.el v1.1)] rfl (As (Bj (Ar ?_)))))))
     obtain rfl := Option.some.inj h
     refine ⟨Or.inr rfl, _, _, _, (Ad (Bd.agg _ _ _ _ _ B5 rfl (.lp _ _ _ rfl) (Nbl rfl)) Af), (Aj rfl), ?_⟩
     rfl
    ·replace h := B1 hc h
     clear hc
     refine son rfl rfl rfl (sv rfl (Aa Sg rfl) (son rfl rfl rfl (sv rfl (Ae ti3 rfl (.lp _ _ _ rfl) rfl) (son rfl rfl rfl (sv rfl (Aa Jq rfl) (son rfl rfl rfl (sv rfl (Aa Qp rfl) (son rfl rfl rfl (sv rfl (Ae ti3 rfl (.lp _ _ _ rfl) rfl) (son rfl rfl rfl (sv rfl (Cd rfl rfl) (sv rfl (Am rfl rfl) (As (ccI h rfl (fun h => ?_) (fun h => ?_)))))))))))))))
     ·refine Aq (Ab (sv rfl (Ao B5 rfl (.lp _ _ _ rfl) (Nbl rfl)) (Ax Ey rfl rfl rfl rfl (Nbl rfl) (Bs [.box (EL.el a0), .box (EL.el a0), .box (EL.el v1.1)] rfl (As (Bj (Ar ?_)))))))
      obtain rfl := Option.some.inj h
      refine ⟨Or.inr rfl, _, _, _, (Ad (Bd.agg _ _ _ _ _ B5 rfl (.lp _ _ _ rfl) (Nbl rfl)) Af), (Aj rfl), ?_⟩
      rfl
     ·refine Bl (Ai ?_)
      exact ⟨(), _, h, ⟨rfl, rfl, rfl, rfl, trivial⟩, rfl⟩
  replace h := B1 (decide_eq_false hq15) h
  by_cases hq19 : a0.Phase = 6
  ·replace h := B2 (decide_eq_true hq19) h
   refine Va 18 (y := .s (.one (Ii6 a0.Phase))) (.s (.one (Ii6 6))) rfl (congrArg (fun n => AV.s (.one (Ii6 n))) hq19) ?_
   obtain ⟨v20, hv20, h⟩ := An h
   refine C2 (x' := .s (.one (.raw (.func (.func 103) #[] #[])))) (M' := [.box (EL.el a0), .box Zba, .box (EL.el v1.1)]) [] rfl Akp (.func _) (Ac rfl Al) (P8 hv20) rfl rfl (by decide) rfl rfl rfl ?_
   refine sv rfl (Ak rfl) (As (Aq (Aq (Ki (Unit) (fun b21 => [(2, .s (.one (.lp 0 0))), (4, .s (.one (.lp 1 0))), (5, .s (.one (.lp 2 0))), (7, .s (.one (.raw (.func (.func 103) #[] #[]))))]) (fun b21 => [.box (EL.el a0), .box Zba, .box (EL.el v1.1)]) (fun b21 => Ga a0 v1 b21 = some r) (fun _ _ => Be rfl) (fun _ _ => A0 rfl) (fun _ _ => Nat.le_of_ble_eq_true rfl) (fun b21 h => ?_) ?_))))
   ·unfold Ga at h
    refine Aq (Ab (sv rfl (Ag rfl) (sv rfl (Ao B5 rfl (.lp _ _ _ rfl) (Nbl rfl)) (sv rfl (Ao Aa7 rfl (.lp _ _ _ rfl) (Nbl rfl)) ?_))))
    obtain ⟨v22, hv22, h⟩ := An h
    refine sd rfl (Oa Asi (.raw _ _ rfl) (Ac rfl (Ac rfl Al)) rfl (Oo hv22)) (Ax Ey rfl rfl rfl rfl (Nbl rfl) (Bs [.box (EL.el a0), .box (EL.el v22), .box (EL.el v1.1)] rfl (As (Bj ?_))))
    obtain rfl := Option.some.inj h
    refine ⟨Or.inr rfl, _, _, _, (Ad (Bd.agg _ _ _ _ _ B5 rfl (.lp _ _ _ rfl) (Nbl rfl)) Af), (Aj rfl), ?_⟩
    rfl
   ·skip
    refine Ab (sv rfl (Ag rfl) (sv rfl (Jh Tryz.underlying159 rfl) (sv rfl (Ag rfl) (son rfl rfl rfl (sv rfl (Aa P5 rfl) (son rfl rfl rfl (sv rfl (Ae ti3 rfl (.lp _ _ _ rfl) rfl) (son rfl rfl rfl (sv rfl (Aa Jq rfl) (son rfl rfl rfl (sv rfl (Aa Pz rfl) (son rfl rfl rfl (sv rfl (Ae ti3 rfl (.lp _ _ _ rfl) rfl) (son rfl rfl rfl (sv rfl (Cd rfl rfl) (sv rfl (Am rfl rfl) (sv rfl (Ag rfl) (Bo 30 rfl (fun hc => ?_) (fun hc => ?_)))))))))))))))))))
    ·replace h := B2 hc h
     clear hc
     refine Av rfl rfl rfl rfl (Av rfl rfl rfl rfl (Av rfl rfl rfl rfl (Av rfl rfl rfl rfl (Av rfl rfl rfl rfl (Av rfl rfl rfl rfl (sv rfl (Au rfl rfl) (As (G0 rfl (fun _ => ?_) (fun hx => Bool.noConfusion hx)))))))))
     refine Aq (Ab (sv rfl (Ao B5 rfl (.lp _ _ _ rfl) (Nbl rfl)) (Ax Ey rfl rfl rfl rfl (Nbl rfl) (Bs [.box (EL.el a0), .box (EL.el a0), .box (EL.el v1.1)] rfl (As (Bj (Ar ?_)))))))
     obtain rfl := Option.some.inj h
     refine ⟨Or.inr rfl, _, _, _, (Ad (Bd.agg _ _ _ _ _ B5 rfl (.lp _ _ _ rfl) (Nbl rfl)) Af), (Aj rfl), ?_⟩
     rfl
    ·replace h := B1 hc h
     clear hc
     refine son rfl rfl rfl (sv rfl (Aa Sg rfl) (son rfl rfl rfl (sv rfl (Ae ti3 rfl (.lp _ _ _ rfl) rfl) (son rfl rfl rfl (sv rfl (Aa Jq rfl) (son rfl rfl rfl (sv rfl (Aa Qp rfl) (son rfl rfl rfl (sv rfl (Ae ti3 rfl (.lp _ _ _ rfl) rfl) (son rfl rfl rfl (sv rfl (Cd rfl rfl) (sv rfl (Am rfl rfl) (As (ccI h rfl (fun h => ?_) (fun h => ?_)))))))))))))))
     ·refine Aq (Ab (sv rfl (Ao B5 rfl (.lp _ _ _ rfl) (Nbl rfl)) (Ax Ey rfl rfl rfl rfl (Nbl rfl) (Bs [.box (EL.el a0), .box (EL.el a0), .box (EL.el v1.1)] rfl (As (Bj (Ar ?_)))))))
      obtain rfl := Option.some.inj h
      refine ⟨Or.inr rfl, _, _, _, (Ad (Bd.agg _ _ _ _ _ B5 rfl (.lp _ _ _ rfl) (Nbl rfl)) Af), (Aj rfl), ?_⟩
      rfl
     ·refine Bl (Ai ?_)
      exact ⟨(), _, h, ⟨rfl, rfl, rfl, rfl, trivial⟩, rfl⟩
  replace h := B1 (decide_eq_false hq19) h
  by_cases hq23 : a0.Phase = 7
  ·replace h := B2 (decide_eq_true hq23) h
   refine Va 18 (y := .s (.one (Ii6 a0.Phase))) (.s (.one (Ii6 7))) rfl (congrArg (fun n => AV.s (.one (Ii6 n))) hq23) ?_
   obtain ⟨v24, hv24, h⟩ := An h
   refine C2 (x' := .s (.one (.raw (.func (.func 104) #[] #[])))) (M' := [.box (EL.el a0), .box Zba, .box (EL.el v1.1)]) [] rfl Akp (.func _) (Ac rfl Al) (Qf hv24) rfl rfl (by decide) rfl rfl rfl ?_
   refine sv rfl (Ak rfl) (As (Aq (Aq (Ki (Unit) (fun b25 => [(2, .s (.one (.lp 0 0))), (4, .s (.one (.lp 1 0))), (5, .s (.one (.lp 2 0))), (7, .s (.one (.raw (.func (.func 104) #[] #[]))))]) (fun b25 => [.box (EL.el a0), .box Zba, .box (EL.el v1.1)]) (fun b25 => F7 a0 v1 b25 = some r) (fun _ _ => Be rfl) (fun _ _ => A0 rfl) (fun _ _ => Nat.le_of_ble_eq_true rfl) (fun b25 h => ?_) ?_))))
   ·unfold F7 at h
    refine Aq (Ab (sv rfl (Ag rfl) (sv rfl (Ao B5 rfl (.lp _ _ _ rfl) (Nbl rfl)) (sv rfl (Ao Aa7 rfl (.lp _ _ _ rfl) (Nbl rfl)) ?_))))
    obtain ⟨v26, hv26, h⟩ := An h
    refine sd rfl (Oa Are (.raw _ _ rfl) (Ac rfl (Ac rfl Al)) rfl (On hv26)) (Ax Ey rfl rfl rfl rfl (Nbl rfl) (Bs [.box (EL.el a0), .box (EL.el v26), .box (EL.el v1.1)] rfl (As (Bj ?_))))
    obtain rfl := Option.some.inj h
    refine ⟨Or.inr rfl, _, _, _, (Ad (Bd.agg _ _ _ _ _ B5 rfl (.lp _ _ _ rfl) (Nbl rfl)) Af), (Aj rfl), ?_⟩
    rfl
   ·skip
    refine Ab (sv rfl (Ag rfl) (sv rfl (Jh Tryz.underlying159 rfl) (sv rfl (Ag rfl) (son rfl rfl rfl (sv rfl (Aa P5 rfl) (son rfl rfl rfl (sv rfl (Ae ti3 rfl (.lp _ _ _ rfl) rfl) (son rfl rfl rfl (sv rfl (Aa Jq rfl) (son rfl rfl rfl (sv rfl (Aa Pz rfl) (son rfl rfl rfl (sv rfl (Ae ti3 rfl (.lp _ _ _ rfl) rfl) (son rfl rfl rfl (sv rfl (Cd rfl rfl) (sv rfl (Am rfl rfl) (sv rfl (Ag rfl) (Bo 30 rfl (fun hc => ?_) (fun hc => ?_)))))))))))))))))))
    ·replace h := B2 hc h
     clear hc
     refine Av rfl rfl rfl rfl (Av rfl rfl rfl rfl (Av rfl rfl rfl rfl (Av rfl rfl rfl rfl (Av rfl rfl rfl rfl (Av rfl rfl rfl rfl (sv rfl (Au rfl rfl) (As (G0 rfl (fun _ => ?_) (fun hx => Bool.noConfusion hx)))))))))
     refine Aq (Ab (sv rfl (Ao B5 rfl (.lp _ _ _ rfl) (Nbl rfl)) (Ax Ey rfl rfl rfl rfl (Nbl rfl) (Bs [.box (EL.el a0), .box (EL.el a0), .box (EL.el v1.1)] rfl (As (Bj (Ar ?_)))))))
     obtain rfl := Option.some.inj h
     refine ⟨Or.inr rfl, _, _, _, (Ad (Bd.agg _ _ _ _ _ B5 rfl (.lp _ _ _ rfl) (Nbl rfl)) Af), (Aj rfl), ?_⟩
     rfl
    ·replace h := B1 hc h
     clear hc
     refine son rfl rfl rfl (sv rfl (Aa Sg rfl) (son rfl rfl rfl (sv rfl (Ae ti3 rfl (.lp _ _ _ rfl) rfl) (son rfl rfl rfl (sv rfl (Aa Jq rfl) (son rfl rfl rfl (sv rfl (Aa Qp rfl) (son rfl rfl rfl (sv rfl (Ae ti3 rfl (.lp _ _ _ rfl) rfl) (son rfl rfl rfl (sv rfl (Cd rfl rfl) (sv rfl (Am rfl rfl) (As (ccI h rfl (fun h => ?_) (fun h => ?_)))))))))))))))
     ·refine Aq (Ab (sv rfl (Ao B5 rfl (.lp _ _ _ rfl) (Nbl rfl)) (Ax Ey rfl rfl rfl rfl (Nbl rfl) (Bs [.box (EL.el a0), .box (EL.el a0), .box (EL.el v1.1)] rfl (As (Bj (Ar ?_)))))))
      obtain rfl := Option.some.inj h
      refine ⟨Or.inr rfl, _, _, _, (Ad (Bd.agg _ _ _ _ _ B5 rfl (.lp _ _ _ rfl) (Nbl rfl)) Af), (Aj rfl), ?_⟩
      rfl
     ·refine Bl (Ai ?_)
      exact ⟨(), _, h, ⟨rfl, rfl, rfl, rfl, trivial⟩, rfl⟩
  replace h := B1 (decide_eq_false hq23) h
  by_cases hq27 : a0.Phase = 9
  ·replace h := B2 (decide_eq_true hq27) h
   refine Va 18 (y := .s (.one (Ii6 a0.Phase))) (.s (.one (Ii6 9))) rfl (congrArg (fun n => AV.s (.one (Ii6 n))) hq27) ?_
   obtain ⟨v28, hv28, h⟩ := An h
   refine C2 (x' := .s (.one (.raw (.func (.func 105) #[] #[])))) (M' := [.box (EL.el a0), .box Zba, .box (EL.el v1.1)]) [] rfl Akp (.func _) (Ac rfl Al) (Qc hv28) rfl rfl (by decide) rfl rfl rfl ?_
   refine sv rfl (Ak rfl) (As (Aq (Aq (Ki (Unit) (fun b29 => [(2, .s (.one (.lp 0 0))), (4, .s (.one (.lp 1 0))), (5, .s (.one (.lp 2 0))), (7, .s (.one (.raw (.func (.func 105) #[] #[]))))]) (fun b29 => [.box (EL.el a0), .box Zba, .box (EL.el v1.1)]) (fun b29 => F9 a0 v1 b29 = some r) (fun _ _ => Be rfl) (fun _ _ => A0 rfl) (fun _ _ => Nat.le_of_ble_eq_true rfl) (fun b29 h => ?_) ?_))))
   ·unfold F9 at h
    refine Aq (Ab (sv rfl (Ag rfl) (sv rfl (Ao B5 rfl (.lp _ _ _ rfl) (Nbl rfl)) (sv rfl (Ao Aa7 rfl (.lp _ _ _ rfl) (Nbl rfl)) ?_))))
    obtain ⟨v30, hv30, h⟩ := An h
    refine sd rfl (Oa Arv (.raw _ _ rfl) (Ac rfl (Ac rfl Al)) rfl (Oi hv30)) (Ax Ey rfl rfl rfl rfl (Nbl rfl) (Bs [.box (EL.el a0), .box (EL.el v30), .box (EL.el v1.1)] rfl (As (Bj ?_))))
    obtain rfl := Option.some.inj h
    refine ⟨Or.inr rfl, _, _, _, (Ad (Bd.agg _ _ _ _ _ B5 rfl (.lp _ _ _ rfl) (Nbl rfl)) Af), (Aj rfl), ?_⟩
    rfl
   ·skip
    refine Ab (sv rfl (Ag rfl) (sv rfl (Jh Tryz.underlying159 rfl) (sv rfl (Ag rfl) (son rfl rfl rfl (sv rfl (Aa P5 rfl) (son rfl rfl rfl (sv rfl (Ae ti3 rfl (.lp _ _ _ rfl) rfl) (son rfl rfl rfl (sv rfl (Aa Jq rfl) (son rfl rfl rfl (sv rfl (Aa Pz rfl) (son rfl rfl rfl (sv rfl (Ae ti3 rfl (.lp _ _ _ rfl) rfl) (son rfl rfl rfl (sv rfl (Cd rfl rfl) (sv rfl (Am rfl rfl) (sv rfl (Ag rfl) (Bo 30 rfl (fun hc => ?_) (fun hc => ?_)))))))))))))))))))
    ·replace h := B2 hc h
     clear hc
     refine Av rfl rfl rfl rfl (Av rfl rfl rfl rfl (Av rfl rfl rfl rfl (Av rfl rfl rfl rfl (Av rfl rfl rfl rfl (Av rfl rfl rfl rfl (sv rfl (Au rfl rfl) (As (G0 rfl (fun _ => ?_) (fun hx => Bool.noConfusion hx)))))))))
     refine Aq (Ab (sv rfl (Ao B5 rfl (.lp _ _ _ rfl) (Nbl rfl)) (Ax Ey rfl rfl rfl rfl (Nbl rfl) (Bs [.box (EL.el a0), .box (EL.el a0), .box (EL.el v1.1)] rfl (As (Bj (Ar ?_)))))))
     obtain rfl := Option.some.inj h
     refine ⟨Or.inr rfl, _, _, _, (Ad (Bd.agg _ _ _ _ _ B5 rfl (.lp _ _ _ rfl) (Nbl rfl)) Af), (Aj rfl), ?_⟩
     rfl
    ·replace h := B1 hc h
     clear hc
     refine son rfl rfl rfl (sv rfl (Aa Sg rfl) (son rfl rfl rfl (sv rfl (Ae ti3 rfl (.lp _ _ _ rfl) rfl) (son rfl rfl rfl (sv rfl (Aa Jq rfl) (son rfl rfl rfl (sv rfl (Aa Qp rfl) (son rfl rfl rfl (sv rfl (Ae ti3 rfl (.lp _ _ _ rfl) rfl) (son rfl rfl rfl (sv rfl (Cd rfl rfl) (sv rfl (Am rfl rfl) (As (ccI h rfl (fun h => ?_) (fun h => ?_)))))))))))))))
     ·refine Aq (Ab (sv rfl (Ao B5 rfl (.lp _ _ _ rfl) (Nbl rfl)) (Ax Ey rfl rfl rfl rfl (Nbl rfl) (Bs [.box (EL.el a0), .box (EL.el a0), .box (EL.el v1.1)] rfl (As (Bj (Ar ?_)))))))
      obtain rfl := Option.some.inj h
      refine ⟨Or.inr rfl, _, _, _, (Ad (Bd.agg _ _ _ _ _ B5 rfl (.lp _ _ _ rfl) (Nbl rfl)) Af), (Aj rfl), ?_⟩
      rfl
     ·refine Bl (Ai ?_)
      exact ⟨(), _, h, ⟨rfl, rfl, rfl, rfl, trivial⟩, rfl⟩
  replace h := B1 (decide_eq_false hq27) h
  obtain ⟨v31, hv31, h⟩ := An h
  refine C2 (x' := .s (.one (.raw .nilFunc))) (M' := [.box (EL.el a0), .box Zba, .box (EL.el v1.1)]) [] rfl Akp (.func _) (Ac rfl Al) (P7 hv31) rfl rfl (by decide) rfl rfl rfl ?_
  refine sv rfl (Ak rfl) (As (Aq (Aq (Ab (sv rfl (Ag rfl) (sv rfl (Ace Tryz.underlying159 rfl) (sv rfl (Ag rfl) (Av rfl rfl rfl rfl (Av rfl rfl rfl rfl (Av rfl rfl rfl rfl (Av rfl rfl rfl rfl (Av rfl rfl rfl rfl (Av rfl rfl rfl rfl (sv rfl (Au rfl rfl) (sv rfl (Ag rfl) (Av rfl rfl rfl rfl (Av rfl rfl rfl rfl (Av rfl rfl rfl rfl (Av rfl rfl rfl rfl (Av rfl rfl rfl rfl (Av rfl rfl rfl rfl (sv rfl (Au rfl rfl) (As (G0 rfl (fun _ => ?_) (fun hx => Bool.noConfusion hx)))))))))))))))))))))))))
  refine Aq (Ab (sv rfl (Ao B5 rfl (.lp _ _ _ rfl) (Nbl rfl)) (Ax Ey rfl rfl rfl rfl (Nbl rfl) (Bs [.box (EL.el a0), .box (EL.el a0), .box (EL.el v1.1)] rfl (As (Bj (Ar ?_)))))))
  obtain rfl := Option.some.inj h
  refine ⟨Or.inr rfl, _, _, _, (Ad (Bd.agg _ _ _ _ _ B5 rfl (.lp _ _ _ rfl) (Nbl rfl)) Af), (Aj rfl), ?_⟩
  rfl
def Kf (v3 : Bm × (List (List UInt8)) × Int) (b4 : Ah) : Option Ah :=
 if (!decide (v3.2.2 = 0)) then ((Fu b4.Phase).bind fun v5 => if (!v5) then ((Cq b4).bind fun v6 => some v6) else (some b4)) else (some b4)
def Ep (v3 : Bm × (List (List UInt8)) × Int) (s7 : Int × Ah) : Option (LB (Int × Ah) (Ah)) :=
 if (decide (s7.1 < (v3.2.1.length : Int))) then ((idx v3.2.1 s7.1).bind fun u8 => (Fu s7.2.Phase).bind fun v9 => if (!v9) then ((Gd s7.2 u8).bind fun v10 => some (.cont ((wI (s7.1 + 1)), v10))) else (some (.cont ((wI (s7.1 + 1)), s7.2)))) else (some (.brk s7.2))
def Ht (a0 : Ah) (a1 : List UInt8) : Option Ah :=
 (D6 a0).bind fun v1 => if (!v1) then (some C0) else ((Fu a0.Phase).bind fun v2 => if v2 then (some a0) else ((D7 a0.In a1).bind fun v3 => (E4 (Ep v3) Di (0, {a0 with In := v3.1})).bind fun e11 => Kf v3 e11))
set_option maxRecDepth 100000 in
theorem M1 {a0 : Ah} {a1 : List UInt8} {r : Ah} (h : Ht a0 a1 = some r) : Bp Tryz.prog 18 [.agg (EL.el a0), .one (.sl a1.length (a1.flatMap eU8))] (· = .s (.agg (EL.el r))) := by
 unfold Ht at h
 refine A1 Tryz.func18 rfl (nt := 53) rfl (Nbl rfl) ?_
 intro w0 S0
 refine Aq (Ab (Jd rfl rfl (Bz rfl Nn (As (Aq (Aq (Ab (sv rfl (Ao B5 rfl (.lp _ _ _ rfl) (Nbl rfl)) ?_))))))))
 obtain ⟨v1, hv1, h⟩ := An h
 refine A2 rfl Ali (Ac rfl Al) (Aj rfl) (Gm hv1) (sv rfl (B9 rfl) (As (ccI h rfl (fun h => ?_) (fun h => ?_))))
 ·refine Aq (Ab (sv rfl (Bk Nn Ac4 Ba (.nil _)) (Ax Ey rfl rfl rfl rfl (Nbl rfl) (Bs [.box (EL.el a0), .box Zba] rfl (As (Bj (Ar ?_)))))))
  obtain rfl := Option.some.inj h
  refine ⟨Or.inr rfl, _, _, _, (Ad (Bd.agg _ _ _ _ _ B5 rfl (.lp _ _ _ rfl) (Nbl rfl)) Af), (Np rfl), ?_⟩
  rfl
 ·refine Bl (Ai (Aq (Aq (Ab (sv rfl (Aa G4 rfl) (sv rfl (Ae ti3 rfl (.lp _ _ _ rfl) rfl) ?_))))))
  obtain ⟨v2, hv2, h⟩ := An h
  refine A2 rfl Ap0 (Ac rfl Al) (Aj rfl) (I2 hv2) (As (ccI h rfl (fun h => ?_) (fun h => ?_)))
  ·refine Aq (Ab (sv rfl (Ao B5 rfl (.lp _ _ _ rfl) (Nbl rfl)) (Ax Ey rfl rfl rfl rfl (Nbl rfl) (Bs [.box (EL.el a0), .box (EL.el a0)] rfl (As (Bj (Ar ?_)))))))
   obtain rfl := Option.some.inj h
   refine ⟨Or.inr rfl, _, _, _, (Ad (Bd.agg _ _ _ _ _ B5 rfl (.lp _ _ _ rfl) (Nbl rfl)) Af), (Aj rfl), ?_⟩
   rfl
  ·refine Bl (Ai (Aq (Ab (sv rfl (Aa Wv rfl) (sv rfl (Ao Ah2 rfl (.lp _ _ _ rfl) (Nbl rfl)) (sv rfl (Ag rfl) ?_))))))
   obtain ⟨v3, hv3, h⟩ := An h
   refine A2 rfl Av4 (Ac rfl (Ac rfl Al)) (Aj rfl) (Um hv3) (sv rfl (Gj rfl) (sv rfl (Bc rfl rfl) (sv rfl (Bc rfl rfl) (sv rfl (Bc rfl rfl) (Bz rfl Anx (Ax Ank rfl rfl rfl rfl (Nbl rfl) (Bs [.box (EL.el a0), .box Zba, .box (EL.el v3.1)] rfl (sv rfl (Ak rfl) (sv rfl (Ak rfl) (As (Aq (Ab (sv rfl (Ao Ah2 rfl (.lp _ _ _ rfl) (Nbl rfl)) (sv rfl (Aa Wv rfl) (Ax Ank rfl rfl rfl rfl (Nbl rfl) (Bs [.box (EL.el {a0 with In := v3.1}), .box Zba, .box (EL.el v3.1)] rfl (As (Aq (Aq (Ab (sv rfl (Ag rfl) (sv rfl (Az Aef rfl) (sv rfl (Ag rfl) (As (G5 (Ah) (fun b4 => [(2, .s (.one (.lp 0 0))), (4, .s (.one (.lp 1 0))), (7, .s (.one (Ii6 v3.2.2)))]) (fun b4 => [.box (EL.el b4), .box Zba, .box (EL.el v3.1)]) (fun b4 => Kf v3 b4 = some r) (fun _ _ => Be rfl) (fun _ _ => A0 rfl) (fun _ _ => Nat.le_of_ble_eq_true rfl) (fun b4 h => ?_) ?_)))))))))))))))))))))))))
   ·unfold Kf at h
    refine Aq (Aq (Ab (sv rfl (Ag rfl) (sv rfl (Cd rfl rfl) (sv rfl (Ag rfl) (Bo 44 rfl (fun hc => ?_) (fun hc => ?_)))))))
    ·replace h := B2 hc h
     clear hc
     refine son rfl rfl rfl (sv rfl (Aa G4 rfl) (son rfl rfl rfl (sv rfl (Ae ti3 rfl (.lp _ _ _ rfl) rfl) (son rfl rfl rfl ?_))))
     obtain ⟨v5, hv5, h⟩ := An h
     refine A2 rfl Ap0 (Ac rfl Al) (Aj rfl) (I2 hv5) (son rfl rfl rfl (sv rfl (B9 rfl) (sv rfl (Au rfl rfl) (As (ccI h rfl (fun h => ?_) (fun h => ?_))))))
     ·refine Ab (sv rfl (Ao B5 rfl (.lp _ _ _ rfl) (Nbl rfl)) ?_)
      obtain ⟨v6, hv6, h⟩ := An h
      refine A2 rfl Aob (Ac rfl Al) (Aj rfl) (Fj hv6) (Ax Ey rfl rfl rfl rfl (Nbl rfl) (Bs [.box (EL.el v6), .box Zba, .box (EL.el v3.1)] rfl (As (Aq (Ab (sv rfl (Ao B5 rfl (.lp _ _ _ rfl) (Nbl rfl)) (Ax Ey rfl rfl rfl rfl (Nbl rfl) (Bs [.box (EL.el v6), .box (EL.el v6), .box (EL.el v3.1)] rfl (As (Bj ?_))))))))))
      obtain rfl := Option.some.inj h
      refine ⟨Or.inr rfl, _, _, _, (Ad (Bd.agg _ _ _ _ _ B5 rfl (.lp _ _ _ rfl) (Nbl rfl)) Af), (Aj rfl), ?_⟩
      rfl
     ·refine Bl (Ai (Aq (Ab (sv rfl (Ao B5 rfl (.lp _ _ _ rfl) (Nbl rfl)) (Ax Ey rfl rfl rfl rfl (Nbl rfl) (Bs [.box (EL.el b4), .box (EL.el b4), .box (EL.el v3.1)] rfl (As (Bj ?_))))))))
      obtain rfl := Option.some.inj h
      refine ⟨Or.inr rfl, _, _, _, (Ad (Bd.agg _ _ _ _ _ B5 rfl (.lp _ _ _ rfl) (Nbl rfl)) Af), (Aj rfl), ?_⟩
      rfl
    ·replace h := B1 hc h
     clear hc
     refine Av rfl rfl rfl rfl (Av rfl rfl rfl rfl (Av rfl rfl rfl rfl (Av rfl rfl rfl rfl (sv rfl (Am rfl rfl) (As (G0 rfl (fun hx => Bool.noConfusion hx) (fun _ => ?_)))))))
     refine Bl (Ai (Aq (Ab (sv rfl (Ao B5 rfl (.lp _ _ _ rfl) (Nbl rfl)) (Ax Ey rfl rfl rfl rfl (Nbl rfl) (Bs [.box (EL.el b4), .box (EL.el b4), .box (EL.el v3.1)] rfl (As (Bj ?_))))))))
     obtain rfl := Option.some.inj h
     refine ⟨Or.inr rfl, _, _, _, (Ad (Bd.agg _ _ _ _ _ B5 rfl (.lp _ _ _ rfl) (Nbl rfl)) Af), (Aj rfl), ?_⟩
     rfl
   ·skip
    refine B7 ?_
    obtain ⟨x7, hx7, ho7⟩ := An h
    refine Da (G := Nat × (Int × Ah)) (fun g => [(2, .s (.one (.lp 0 0))), (4, .s (.one (.lp 1 0))), (7, .s (.one (Ii6 v3.2.2))), (28, .s (.one (.sl v3.2.1.length (v3.2.1.flatMap (eL eU8))))), (29, .s (.one (Ii6 (v3.2.1.length : Int)))), (30, .s (.one (Ii6 g.2.1)))]) (fun g => [.box (EL.el g.2.2), .box Zba, .box (EL.el v3.1)]) (fun g => E4 (Ep v3) g.1 g.2 = some x7) (fun g => g.1) (Di, (0, {a0 with In := v3.1})) hx7 ⟨rfl, rfl, rfl, rfl, rfl, rfl, trivial⟩ [] rfl (fun _ _ => Be rfl) (fun _ _ => A0 rfl) (fun _ _ => Nat.le_of_ble_eq_true rfl) ?_
    clear hx7 h
    rintro ⟨n7, s7⟩ h
    obtain ⟨n7, y7, rfl, h, hk7⟩ := Gs h
    unfold Ep at h
    refine Aq (Ab (sv rfl (Cp rfl rfl) (As (Aq (ccI h rfl (fun h => ?_) (fun h => ?_))))))
    ·refine Bl (Ai (Aq (B7 (Aq (Ab ?_)))))
     obtain ⟨u8, hu8, h⟩ := An h
     refine sv rfl (Fe (f := (eL eU8)) Aef (fun _ => rfl) rfl rfl rfl rfl hu8) ?_
     refine sv rfl (Ae L4 rfl (.cp _) rfl) (sv rfl (Ak rfl) (As (Aq (Ab (sv rfl (Aa G4 rfl) (sv rfl (Ae ti3 rfl (.lp _ _ _ rfl) rfl) ?_))))))
     obtain ⟨v9, hv9, h⟩ := An h
     refine A2 rfl Ap0 (Ac rfl Al) (Aj rfl) (I2 hv9) (sv rfl (B9 rfl) (As (ccI h rfl (fun h => ?_) (fun h => ?_))))
     ·refine Ab (sv rfl (Ao B5 rfl (.lp _ _ _ rfl) (Nbl rfl)) (sv rfl (Ag rfl) ?_))
      obtain ⟨v10, hv10, h⟩ := An h
      refine A2 rfl Ave (Ac rfl (Ac rfl Al)) (Aj rfl) (O9 hv10) (Ax Ey rfl rfl rfl rfl (Nbl rfl) (Bs [.box (EL.el v10), .box Zba, .box (EL.el v3.1)] rfl (Lz (A4 (Ai (Ab (sv rfl (B0 rfl rfl) (sv rfl (Ag rfl) (As ?_)))))))))
      obtain rfl := Option.some.inj h
      exact ⟨(n7, ((wI (s7.1 + 1)), v10)), _, hk7, ⟨rfl, rfl, rfl, rfl, rfl, rfl, trivial⟩, rfl, Nat.lt_succ_self _⟩
     ·refine Bl (A4 (Ai (Ab (sv rfl (B0 rfl rfl) (sv rfl (Ag rfl) (As ?_))))))
      obtain rfl := Option.some.inj h
      exact ⟨(n7, ((wI (s7.1 + 1)), s7.2)), _, hk7, ⟨rfl, rfl, rfl, rfl, rfl, rfl, trivial⟩, rfl, Nat.lt_succ_self _⟩
    ·refine Lj (Bi (Bi (Ck (Ai ?_))))
     obtain rfl := Option.some.inj h
     obtain rfl : _ = x7 := hk7
     exact ⟨s7.2, _, ho7, ⟨rfl, rfl, rfl, trivial⟩, rfl⟩
def N9 (v2 : Ah × Int) (v3 : Ah × Int) (v4 : Ah × Int) (b5 : Ah) : Option Bool :=
 if (decide (v2.2 = 0)) then (if (decide (v3.2 = 0)) then (if (decide (v4.2 = 0)) then (if (decide ((b5.Done.length : Int) = 1)) then ((idx b5.Done 0).bind fun u6 => if (decide (u6.Code = 1)) then ((idx b5.Done 0).bind fun u7 => if (decide (u7.Ts = 5)) then (if (decide (b5.Phase = 9)) then (some (decide ((b5.Tried.length : Int) = 1))) else (some false)) else (some false)) else (some false)) else (some false)) else (some false)) else (some false)) else (some false)
def Od (s8 : Int × Ah) : Option (LB (Int × Ah) (Ah)) :=
 if (decide (s8.1 < 4)) then ((F2 s8.2 (Hu.mk 0 0 0 5 false ([] : List UInt8) ([] : List Db))).bind fun v9 => (Ht s8.2 v9).bind fun v10 => some (.cont ((wI (s8.1 + 1)), v10))) else (some (.brk s8.2))
def Ou  : Option Bool :=
 (Ng).bind fun v1 => (Kz v1).bind fun v2 => (En v2.1).bind fun v3 => (Dk v3.1 (Aw.mk 9 (Co.mk false [(B6.mk 2 0 0 0 [(UInt8.ofBitVec (107#8))] Bt)]))).bind fun v4 => (E4 Od Di (0, v4.1)).bind fun e11 => N9 v2 v3 v4 e11
set_option maxRecDepth 100000 in
theorem Xb  {r : Bool} (h : Ou = some r) : Bp Tryz.prog 7 [] (· = .s (.one (.b r))) := by
 unfold Ou at h
 refine A1 Tryz.func7 rfl (nt := 79) rfl (Nbl rfl) ?_
 intro w0 S0
 refine Aq (Ab (sv rfl (Ak rfl) (As (Aq (Ab ?_)))))
 obtain ⟨v1, hv1, h⟩ := An h
 refine A2 rfl Atm Al (Aj rfl) (Se hv1) ?_
 obtain ⟨v2, hv2, h⟩ := An h
 refine A2 rfl fn9 (Ac rfl Al) (Aj rfl) (Ql hv2) (sv rfl (Gj rfl) (sv rfl (Bc rfl rfl) (sv rfl (Bc rfl rfl) (Bz rfl Nn (Ax Ey rfl rfl rfl rfl (Nbl rfl) (Bs [.box (EL.el v2.1)] rfl (sv rfl (Ak rfl) (As (Aq (Ab (sv rfl (Ao B5 rfl (.lp _ _ _ rfl) (Nbl rfl)) ?_)))))))))))
 obtain ⟨v3, hv3, h⟩ := An h
 refine A2 rfl At8 (Ac rfl Al) (Aj rfl) (My hv3) (sv rfl (Gj rfl) (sv rfl (Bc rfl rfl) (sv rfl (Bc rfl rfl) (Ax Ey rfl rfl rfl rfl (Nbl rfl) (Bs [.box (EL.el v3.1)] rfl (sv rfl (Ak rfl) (As (Aq (Ab (sv rfl (Ao B5 rfl (.lp _ _ _ rfl) (Nbl rfl)) ?_))))))))))
 refine Qw rfl Tryz.underlying33 ei5 rfl rfl (List.all_eq_true.1 rfl) (by decide) ?_
 refine Bs [.box (EL.el v3.1), .arr 5 1 0 ([(UInt8.ofBitVec (107#8))].flatMap eU8)] rfl ?_
 refine Ajm rfl Tryz.underlying33 Tryz.underlying5 rfl rfl (Bg (f := eU8) (fun _ => rfl) [(UInt8.ofBitVec (107#8))]).symm (by decide) ?_
 refine sv rfl (Bk Ap9 At5 (Ap rfl (Ap rfl Ba)) (.cons _ _ _ _ _ _ _ rfl rfl (Nbl rfl) (.cons _ _ _ _ _ _ _ rfl rfl (Nbl rfl) (.nil _)))) ?_
 refine Aai 20 rfl (by (repeat' first | exact J5.nil _ | apply J5.cons | apply Jz.one | apply Jz.agg | exact E6.nil | exact E6.id _ rfl | exact D1.nil _ | apply D1.cons)) ?_
 refine Qw rfl Tryz.underlying90 As6 rfl rfl (List.all_eq_true.1 rfl) (by decide) ?_
 refine Bs [.box (EL.el v3.1), .dead, .arr 89 8 0 ([(B6.mk 2 0 0 0 [(UInt8.ofBitVec (107#8))] Bt)].flatMap Cf)] rfl (sv rfl (Bk Aqo Aub (Ap rfl Ba) (.cons _ _ _ _ _ _ _ rfl rfl (Nbl rfl) (.nil _))) (sv rfl (Bk Anv Att (Ap rfl (Ap rfl Ba)) (.cons _ _ _ _ _ _ _ rfl rfl (Nbl rfl) (.cons _ _ _ _ _ _ _ rfl rfl (Nbl rfl) (.nil _)))) ?_))
 refine Aai 23 rfl (by (repeat' first | exact J5.nil _ | apply J5.cons | apply Jz.one | apply Jz.agg | exact E6.nil | exact E6.ls _ _ _ _ _ _ rfl (Bg (f := Cf) (fun _ => rfl) ([(B6.mk 2 0 0 0 [(UInt8.ofBitVec (107#8))] Bt)] : List B6)).symm | exact E6.ls _ _ _ _ _ _ rfl (Bg (f := Cf) (fun _ => rfl) _).symm | exact E6.id _ rfl | exact D1.nil _ | apply D1.cons)) ?_
 obtain ⟨v4, hv4, h⟩ := An h
 refine A2 rfl Atu (Ac rfl (Ac rfl Al)) (Aj rfl) (Om hv4) (sv rfl (Gj rfl) (sv rfl (Bc rfl rfl) (sv rfl (Bc rfl rfl) (Ax Ey rfl rfl rfl rfl (Nbl rfl) (Bs [.box (EL.el v4.1), .dead, .arr 89 8 ([(B6.mk 2 0 0 0 [(UInt8.ofBitVec (107#8))] Bt)].flatMap Cf).length ([(B6.mk 2 0 0 0 [(UInt8.ofBitVec (107#8))] Bt)].flatMap Cf)] rfl (sv rfl (Ak rfl) (As (Aq (Aq (Ab (sv rfl (Ak rfl) (As (G5 (Ah) (fun b5 => [(1, .s (.one (.lp 0 0))), (2, .s (.one (Ii6 v2.2))), (3, .s (.one (Ii6 v3.2))), (4, .s (.one (Ii6 v4.2)))]) (fun b5 => [.box (EL.el b5), .dead, .arr 89 8 ([(B6.mk 2 0 0 0 [(UInt8.ofBitVec (107#8))] Bt)].flatMap Cf).length ([(B6.mk 2 0 0 0 [(UInt8.ofBitVec (107#8))] Bt)].flatMap Cf)]) (fun b5 => N9 v2 v3 v4 b5 = some r) (fun _ _ => Be rfl) (fun _ _ => A0 rfl) (fun _ _ => Nat.le_of_ble_eq_true rfl) (fun b5 h => ?_) ?_)))))))))))))
 ·unfold N9 at h
  refine Aq (Ab (sv rfl (Ag rfl) (sv rfl (Bq rfl rfl) (sv rfl (Ag rfl) (Bo 38 rfl (fun hc => ?_) (fun hc => ?_))))))
  ·replace h := B2 hc h
   clear hc
   refine son rfl rfl rfl (sv rfl (Ag rfl) (son rfl rfl rfl (sv rfl (Bq rfl rfl) (sv rfl (Au rfl rfl) (sv rfl (Ag rfl) (Bo 42 rfl (fun hc => ?_) (fun hc => ?_)))))))
   ·replace h := B2 hc h
    clear hc
    refine son rfl rfl rfl (sv rfl (Ag rfl) (son rfl rfl rfl (sv rfl (Bq rfl rfl) (sv rfl (Au rfl rfl) (sv rfl (Ag rfl) (Bo 46 rfl (fun hc => ?_) (fun hc => ?_)))))))
    ·replace h := B2 hc h
     clear hc
     refine son rfl rfl rfl (sv rfl (Aa Ol rfl) (son rfl rfl rfl (sv rfl (Ae Aet rfl (.lp _ _ _ rfl) rfl) (son rfl rfl rfl (sv rfl (Az Zf rfl) (son rfl rfl rfl (sv rfl (Bq rfl rfl) (sv rfl (Au rfl rfl) (sv rfl (Ag rfl) (Bo 52 rfl (fun hc => ?_) (fun hc => ?_)))))))))))
     ·replace h := B2 hc h
      clear hc
      refine son rfl rfl rfl (sv rfl (Aa Ol rfl) (son rfl rfl rfl (sv rfl (Ae Aet rfl (.lp _ _ _ rfl) rfl) (son rfl rfl rfl ?_))))
      obtain ⟨u6, hu6, h⟩ := An h
      refine sv rfl (Fe (f := A6) Zf (fun _ => rfl) rfl rfl rfl rfl hu6) ?_
      refine son rfl rfl rfl (sv rfl (B3 Ac3 rfl) (son rfl rfl rfl (sv rfl (Ae ti3 rfl (.cp _) rfl) (son rfl rfl rfl (sv rfl (Bq rfl rfl) (sv rfl (Au rfl rfl) (sv rfl (Ag rfl) (Bo 60 rfl (fun hc => ?_) (fun hc => ?_)))))))))
      ·replace h := B2 hc h
       clear hc
       refine son rfl rfl rfl (sv rfl (Aa Ol rfl) (son rfl rfl rfl (sv rfl (Ae Aet rfl (.lp _ _ _ rfl) rfl) (son rfl rfl rfl ?_))))
       obtain ⟨u7, hu7, h⟩ := An h
       refine sv rfl (Fe (f := A6) Zf (fun _ => rfl) rfl rfl rfl rfl hu7) ?_
       refine son rfl rfl rfl (sv rfl (B3 Akv rfl) (son rfl rfl rfl (sv rfl (Ae ti3 rfl (.cp _) rfl) (son rfl rfl rfl (sv rfl (Bq rfl rfl) (sv rfl (Au rfl rfl) (sv rfl (Ag rfl) (Bo 68 rfl (fun hc => ?_) (fun hc => ?_)))))))))
       ·replace h := B2 hc h
        clear hc
        refine son rfl rfl rfl (sv rfl (Aa G4 rfl) (son rfl rfl rfl (sv rfl (Ae ti3 rfl (.lp _ _ _ rfl) rfl) (son rfl rfl rfl (sv rfl (Bq rfl rfl) (sv rfl (Au rfl rfl) (sv rfl (Ag rfl) (Bo 73 rfl (fun hc => ?_) (fun hc => ?_)))))))))
        ·replace h := B2 hc h
         clear hc
         refine son rfl rfl rfl (sv rfl (Aa Abr rfl) (son rfl rfl rfl (sv rfl (Ae Aqj rfl (.lp _ _ _ rfl) rfl) (son rfl rfl rfl (sv rfl (Az Ak0 rfl) (son rfl rfl rfl (sv rfl (Bq rfl rfl) (sv rfl (Au rfl rfl) (sv rfl (Ak rfl) (As (Bj ?_)))))))))))
         obtain rfl := Option.some.inj h
         refine ⟨Or.inr rfl, _, _, _, (Ad (Bd.tmp _ _ rfl) Af), (Aj rfl), ?_⟩
         rfl
        ·replace h := B1 hc h
         clear hc
         refine Av rfl rfl rfl rfl (Av rfl rfl rfl rfl (Av rfl rfl rfl rfl (Av rfl rfl rfl rfl (sv rfl (Am rfl rfl) (sv rfl (Ak rfl) (As (Bj ?_)))))))
         obtain rfl := Option.some.inj h
         refine ⟨Or.inr rfl, _, _, _, (Ad (Bd.tmp _ _ rfl) Af), (Aj rfl), ?_⟩
         rfl
       ·replace h := B1 hc h
        clear hc
        refine Av rfl rfl rfl rfl (Av rfl rfl rfl rfl (Av rfl rfl rfl rfl (sv rfl (Am rfl rfl) (sv rfl (Ag rfl) (Av rfl rfl rfl rfl (Av rfl rfl rfl rfl (Av rfl rfl rfl rfl (Av rfl rfl rfl rfl (sv rfl (Am rfl rfl) (sv rfl (Ak rfl) (As (Bj ?_))))))))))))
        obtain rfl := Option.some.inj h
        refine ⟨Or.inr rfl, _, _, _, (Ad (Bd.tmp _ _ rfl) Af), (Aj rfl), ?_⟩
        rfl
      ·replace h := B1 hc h
       clear hc
       refine Av rfl rfl rfl rfl (Av rfl rfl rfl rfl (Av rfl rfl rfl rfl (Av rfl rfl rfl rfl (Av rfl rfl rfl rfl (Av rfl rfl rfl rfl (sv rfl (Am rfl rfl) (sv rfl (Ag rfl) (Av rfl rfl rfl rfl (Av rfl rfl rfl rfl (Av rfl rfl rfl rfl (sv rfl (Am rfl rfl) (sv rfl (Ag rfl) (Av rfl rfl rfl rfl (Av rfl rfl rfl rfl (Av rfl rfl rfl rfl (Av rfl rfl rfl rfl (sv rfl (Am rfl rfl) (sv rfl (Ak rfl) (As (Bj ?_))))))))))))))))))))
       obtain rfl := Option.some.inj h
       refine ⟨Or.inr rfl, _, _, _, (Ad (Bd.tmp _ _ rfl) Af), (Aj rfl), ?_⟩
       rfl
     ·replace h := B1 hc h
      clear hc
      refine Av rfl rfl rfl rfl (Av rfl rfl rfl rfl (Av rfl rfl rfl rfl (Av rfl rfl rfl rfl (Av rfl rfl rfl rfl (Av rfl rfl rfl rfl (sv rfl (Am rfl rfl) (sv rfl (Ag rfl) (Av rfl rfl rfl rfl (Av rfl rfl rfl rfl (Av rfl rfl rfl rfl (Av rfl rfl rfl rfl (Av rfl rfl rfl rfl (Av rfl rfl rfl rfl (sv rfl (Am rfl rfl) (sv rfl (Ag rfl) (Av rfl rfl rfl rfl (Av rfl rfl rfl rfl (Av rfl rfl rfl rfl (sv rfl (Am rfl rfl) (sv rfl (Ag rfl) (Av rfl rfl rfl rfl (Av rfl rfl rfl rfl (Av rfl rfl rfl rfl (Av rfl rfl rfl rfl (sv rfl (Am rfl rfl) (sv rfl (Ak rfl) (As (Bj ?_))))))))))))))))))))))))))))
      obtain rfl := Option.some.inj h
      refine ⟨Or.inr rfl, _, _, _, (Ad (Bd.tmp _ _ rfl) Af), (Aj rfl), ?_⟩
      rfl
    ·replace h := B1 hc h
     clear hc
     refine Av rfl rfl rfl rfl (Av rfl rfl rfl rfl (Av rfl rfl rfl rfl (Av rfl rfl rfl rfl (sv rfl (Am rfl rfl) (sv rfl (Ag rfl) (Av rfl rfl rfl rfl (Av rfl rfl rfl rfl (Av rfl rfl rfl rfl (Av rfl rfl rfl rfl (Av rfl rfl rfl rfl (Av rfl rfl rfl rfl (sv rfl (Am rfl rfl) (sv rfl (Ag rfl) (Av rfl rfl rfl rfl (Av rfl rfl rfl rfl (Av rfl rfl rfl rfl (Av rfl rfl rfl rfl (Av rfl rfl rfl rfl (Av rfl rfl rfl rfl (sv rfl (Am rfl rfl) (sv rfl (Ag rfl) (Av rfl rfl rfl rfl (Av rfl rfl rfl rfl (Av rfl rfl rfl rfl (sv rfl (Am rfl rfl) (sv rfl (Ag rfl) (Av rfl rfl rfl rfl (Av rfl rfl rfl rfl (Av rfl rfl rfl rfl (Av rfl rfl rfl rfl (sv rfl (Am rfl rfl) (sv rfl (Ak rfl) (As (Bj ?_))))))))))))))))))))))))))))))))))
     obtain rfl := Option.some.inj h
     refine ⟨Or.inr rfl, _, _, _, (Ad (Bd.tmp _ _ rfl) Af), (Aj rfl), ?_⟩
     rfl
   ·replace h := B1 hc h
    clear hc
    refine Av rfl rfl rfl rfl (Av rfl rfl rfl rfl (sv rfl (Am rfl rfl) (sv rfl (Ag rfl) (Av rfl rfl rfl rfl (Av rfl rfl rfl rfl (Av rfl rfl rfl rfl (Av rfl rfl rfl rfl (sv rfl (Am rfl rfl) (sv rfl (Ag rfl) (Av rfl rfl rfl rfl (Av rfl rfl rfl rfl (Av rfl rfl rfl rfl (Av rfl rfl rfl rfl (Av rfl rfl rfl rfl (Av rfl rfl rfl rfl (sv rfl (Am rfl rfl) (sv rfl (Ag rfl) (Av rfl rfl rfl rfl (Av rfl rfl rfl rfl (Av rfl rfl rfl rfl (Av rfl rfl rfl rfl (Av rfl rfl rfl rfl (Av rfl rfl rfl rfl (sv rfl (Am rfl rfl) (sv rfl (Ag rfl) (Av rfl rfl rfl rfl (Av rfl rfl rfl rfl (Av rfl rfl rfl rfl (sv rfl (Am rfl rfl) (sv rfl (Ag rfl) (Av rfl rfl rfl rfl (Av rfl rfl rfl rfl (Av rfl rfl rfl rfl (Av rfl rfl rfl rfl (sv rfl (Am rfl rfl) (sv rfl (Ak rfl) (As (Bj ?_))))))))))))))))))))))))))))))))))))))
    obtain rfl := Option.some.inj h
    refine ⟨Or.inr rfl, _, _, _, (Ad (Bd.tmp _ _ rfl) Af), (Aj rfl), ?_⟩
    rfl
  ·replace h := B1 hc h
   clear hc
   refine Av rfl rfl rfl rfl (Av rfl rfl rfl rfl (sv rfl (Am rfl rfl) (sv rfl (Ag rfl) (Av rfl rfl rfl rfl (Av rfl rfl rfl rfl (sv rfl (Am rfl rfl) (sv rfl (Ag rfl) (Av rfl rfl rfl rfl (Av rfl rfl rfl rfl (Av rfl rfl rfl rfl (Av rfl rfl rfl rfl (sv rfl (Am rfl rfl) (sv rfl (Ag rfl) (Av rfl rfl rfl rfl (Av rfl rfl rfl rfl (Av rfl rfl rfl rfl (Av rfl rfl rfl rfl (Av rfl rfl rfl rfl (Av rfl rfl rfl rfl (sv rfl (Am rfl rfl) (sv rfl (Ag rfl) (Av rfl rfl rfl rfl (Av rfl rfl rfl rfl (Av rfl rfl rfl rfl (Av rfl rfl rfl rfl (Av rfl rfl rfl rfl (Av rfl rfl rfl rfl (sv rfl (Am rfl rfl) (sv rfl (Ag rfl) (Av rfl rfl rfl rfl (Av rfl rfl rfl rfl (Av rfl rfl rfl rfl (sv rfl (Am rfl rfl) (sv rfl (Ag rfl) (Av rfl rfl rfl rfl (Av rfl rfl rfl rfl (Av rfl rfl rfl rfl (Av rfl rfl rfl rfl (sv rfl (Am rfl rfl) (sv rfl (Ak rfl) (As (Bj ?_))))))))))))))))))))))))))))))))))))))))))
   obtain rfl := Option.some.inj h
   refine ⟨Or.inr rfl, _, _, _, (Ad (Bd.tmp _ _ rfl) Af), (Aj rfl), ?_⟩
   rfl
 ·skip
  refine B7 ?_
  obtain ⟨x8, hx8, ho8⟩ := An h
  refine Da (G := Nat × (Int × Ah)) (fun g => [(1, .s (.one (.lp 0 0))), (2, .s (.one (Ii6 v2.2))), (3, .s (.one (Ii6 v3.2))), (4, .s (.one (Ii6 v4.2))), (5, .s (.one (Ii6 g.2.1)))]) (fun g => [.box (EL.el g.2.2), .dead, .arr 89 8 ([(B6.mk 2 0 0 0 [(UInt8.ofBitVec (107#8))] Bt)].flatMap Cf).length ([(B6.mk 2 0 0 0 [(UInt8.ofBitVec (107#8))] Bt)].flatMap Cf)]) (fun g => E4 Od g.1 g.2 = some x8) (fun g => g.1) (Di, (0, v4.1)) hx8 ⟨rfl, rfl, rfl, rfl, rfl, trivial⟩ [] rfl (fun _ _ => Be rfl) (fun _ _ => A0 rfl) (fun _ _ => Nat.le_of_ble_eq_true rfl) ?_
  clear hx8 h
  rintro ⟨n8, s8⟩ h
  obtain ⟨n8, y8, rfl, h, hk8⟩ := Gs h
  unfold Od at h
  refine Aq (Aq (Ab (sv rfl (Ag rfl) (sv rfl (Cp rfl rfl) (As (ccI h rfl (fun h => ?_) (fun h => ?_)))))))
  ·refine Bl (Ai (Aq (B7 ?_)))
   obtain ⟨v9, hv9, h⟩ := An h
   obtain ⟨v10, hv10, h⟩ := An h
   refine Kb [5] [0, 0, 0, 6, 15, 31] [[.box (EL.el s8.2), .dead, .arr 89 8 ([(B6.mk 2 0 0 0 [(UInt8.ofBitVec (107#8))] Bt)].flatMap Cf).length ([(B6.mk 2 0 0 0 [(UInt8.ofBitVec (107#8))] Bt)].flatMap Cf)], [.box (EL.el v10), .dead, .arr 89 8 ([(B6.mk 2 0 0 0 [(UInt8.ofBitVec (107#8))] Bt)].flatMap Cf).length ([(B6.mk 2 0 0 0 [(UInt8.ofBitVec (107#8))] Bt)].flatMap Cf)]] (by kernel_rfl) Ma (by kernel_rfl) (by decide) rfl rfl rfl rfl ?_
   refine ev (Bh 0 rfl rfl) rfl rfl (Ao B5 rfl (.lp _ _ _ rfl) (Nbl rfl)) (ev (Bh 0 rfl rfl) rfl rfl (Ao B5 rfl (.lp _ _ _ rfl) (Nbl rfl)) (ev (Bh 0 rfl rfl) rfl rfl (Bk Av6 Avr (Ap rfl Ba) (.cons _ _ _ _ _ _ _ rfl rfl (Nbl rfl) (.nil _))) (ed (Bh 0 rfl rfl) rfl rfl (Tr Aui (Ac rfl (Ac rfl Al)) rfl (Ov hv9)) (ed (Bh 0 rfl rfl) rfl rfl (D2 Arm (Ac rfl (Ac rfl Al)) rfl (M1 hv10)) (ee0 0 rfl rfl rfl rfl (fun ζ => ?_) ?_)))))
   ·refine Ax Ey rfl rfl rfl rfl (Nbl rfl) (Bs [.box (EL.el v10), .dead, .arr 89 8 ([(B6.mk 2 0 0 0 [(UInt8.ofBitVec (107#8))] Bt)].flatMap Cf).length ([(B6.mk 2 0 0 0 [(UInt8.ofBitVec (107#8))] Bt)].flatMap Cf)] rfl ?_)
    exact Sd
   refine Y1 (A4 (Ai (Ab (sv rfl (Ag rfl) (sv rfl (B0 rfl rfl) (sv rfl (Ak rfl) (As ?_)))))))
   obtain rfl := Option.some.inj h
   exact ⟨(n8, ((wI (s8.1 + 1)), v10)), _, hk8, ⟨rfl, rfl, rfl, rfl, rfl, trivial⟩, rfl, Nat.lt_succ_self _⟩
  ·refine Lj (Bi (Bi (Ck (Ai ?_))))
   obtain rfl := Option.some.inj h
   obtain rfl : _ = x8 := hk8
   exact ⟨s8.2, _, ho8, ⟨rfl, rfl, rfl, rfl, trivial⟩, rfl⟩
def Jp (a0 : B8) : Option Bool :=
 if (decide ((a0.Lo.length : Int) ≤ 100)) then (some (decide ((a0.Hi.length : Int) ≤ 100))) else (some false)
set_option maxRecDepth 100000 in
theorem Wb {a0 : B8} {r : Bool} (h : Jp a0 = some r) : Bp Tryz.prog 57 [.agg (EL.el a0)] (· = .s (.one (.b r))) := by
 unfold Jp at h
 refine A1 Tryz.func57 rfl (nt := 13) rfl (Nbl rfl) ?_
 intro w0 S0
 refine Aq (Ab (Jd rfl rfl (sv rfl (Ak rfl) (As (Aq (Ab (sv rfl (Aa T2 rfl) (sv rfl (Ae L4 rfl (.lp _ _ _ rfl) rfl) (sv rfl (Az Lh rfl) (sv rfl (Fv rfl rfl) (sv rfl (Ag rfl) (Bo 7 rfl (fun hc => ?_) (fun hc => ?_)))))))))))))
 ·replace h := B2 hc h
  clear hc
  refine son rfl rfl rfl (sv rfl (Aa Qv rfl) (son rfl rfl rfl (sv rfl (Ae L4 rfl (.lp _ _ _ rfl) rfl) (son rfl rfl rfl (sv rfl (Az Lh rfl) (son rfl rfl rfl (sv rfl (Fv rfl rfl) (sv rfl (Au rfl rfl) (sv rfl (Ak rfl) (As (Bj ?_)))))))))))
  obtain rfl := Option.some.inj h
  refine ⟨Or.inr rfl, _, _, _, (Ad (Bd.tmp _ _ rfl) Af), (Aj rfl), ?_⟩
  rfl
 ·replace h := B1 hc h
  clear hc
  refine Av rfl rfl rfl rfl (Av rfl rfl rfl rfl (Av rfl rfl rfl rfl (Av rfl rfl rfl rfl (sv rfl (Am rfl rfl) (sv rfl (Ak rfl) (As (Bj ?_)))))))
  obtain rfl := Option.some.inj h
  refine ⟨Or.inr rfl, _, _, _, (Ad (Bd.tmp _ _ rfl) Af), (Aj rfl), ?_⟩
  rfl
def O4 (b1 : Unit) : Option Bool :=
 some true
def J6 (a0 : Iq) (s2 : Int) : Option (LR (Int) (Unit) (Bool)) :=
 if (decide (s2 < (a0.Ops.length : Int))) then ((idx a0.Ops s2).bind fun u3 => if (decide (50 < (u3.Key.length : Int))) then (some (.ret false)) else ((idx a0.Ops s2).bind fun u4 => (Jp u4.Rng).bind fun v5 => if (!v5) then (some (.ret false)) else (some (.cont (wI (s2 + 1)))))) else (some (.brk ()))
def Md (a0 : Iq) : Option Bool :=
 if (decide (40 < (a0.Ops.length : Int))) then (some false) else ((Qg (J6 a0) Di 0).bind fun x => match x with | .inl r => some r | .inr e6 => O4 e6)
set_option maxRecDepth 100000 in
theorem Y0 {a0 : Iq} {r : Bool} (h : Md a0 = some r) : Bp Tryz.prog 23 [.agg (EL.el a0)] (· = .s (.one (.b r))) := by
 unfold Md at h
 refine A1 Tryz.func23 rfl (nt := 33) rfl (Nbl rfl) ?_
 intro w0 S0
 refine Aq (Ab (Jd rfl rfl (sv rfl (Ak rfl) (As (Aq (Aq (Ab (sv rfl (Aa Xp rfl) (sv rfl (Ae Anu rfl (.lp _ _ _ rfl) rfl) (sv rfl (Az Ano rfl) (sv rfl (C6 rfl rfl) (As (ccI h rfl (fun h => ?_) (fun h => ?_))))))))))))))
 ·refine Aq (Ab (sv rfl (Ak rfl) (As (Bj (Ar ?_)))))
  obtain rfl := Option.some.inj h
  refine ⟨Or.inr rfl, _, _, _, (Ad (Bd.tmp _ _ rfl) Af), (Aj rfl), ?_⟩
  rfl
 ·refine Bl (Ai (Aq (Aq (Ab (sv rfl (Ak rfl) (As (G5 (Unit) (fun b1 => []) (fun b1 => [.box (EL.el a0)]) (fun b1 => O4 b1 = some r) (fun _ _ => Be rfl) (fun _ _ => A0 rfl) (fun _ _ => Nat.le_of_ble_eq_true rfl) (fun b1 h => ?_) ?_)))))))
  ·unfold O4 at h
   refine Aq (Ab (sv rfl (Ak rfl) (As (Bj ?_))))
   obtain rfl := Option.some.inj h
   refine ⟨Or.inr rfl, _, _, _, (Ad (Bd.tmp _ _ rfl) Af), (Aj rfl), ?_⟩
   rfl
  ·skip
   refine B7 ?_
   obtain ⟨x2, hx2, ho2⟩ := An h
   refine Da (G := Nat × (Int)) (fun g => [(1, .s (.one (.lp 0 0))), (3, .s (.one (Ii6 g.2)))]) (fun g => [.box (EL.el a0)]) (fun g => Qg (J6 a0) g.1 g.2 = some x2) (fun g => g.1) (Di, 0) hx2 ⟨rfl, rfl, trivial⟩ [] rfl (fun _ _ => Be rfl) (fun _ _ => A0 rfl) (fun _ _ => Nat.le_of_ble_eq_true rfl) ?_
   clear hx2 h
   rintro ⟨n2, s2⟩ h
   obtain ⟨n2, y2, rfl, h, hk2⟩ := Oc h
   unfold J6 at h
   refine Aq (Aq (Ab (sv rfl (Ag rfl) (sv rfl (Aa Xp rfl) (sv rfl (Ae Anu rfl (.lp _ _ _ rfl) rfl) (sv rfl (Az Ano rfl) (sv rfl (Cp rfl rfl) (As (ccI h rfl (fun h => ?_) (fun h => ?_))))))))))
   ·refine Bl (Ai (Aq (B7 (Aq (Ab (sv rfl (Aa Xp rfl) (sv rfl (Ae Anu rfl (.lp _ _ _ rfl) rfl) (sv rfl (Ag rfl) ?_))))))))
    obtain ⟨u3, hu3, h⟩ := An h
    refine sv rfl (Fe (f := O5) Ano (fun _ => rfl) rfl rfl rfl rfl hu3) ?_
    refine sv rfl (B3 Aez rfl) (sv rfl (Ae L4 rfl (.cp _) rfl) (sv rfl (Az Lh rfl) (sv rfl (C6 rfl rfl) (sv rfl (Ag rfl) (Bo 23 rfl (fun hc => ?_) (fun hc => ?_))))))
    ·replace h := B2 hc h
     clear hc
     refine Av rfl rfl rfl rfl (Av rfl rfl rfl rfl (Av rfl rfl rfl rfl (Av rfl rfl rfl rfl (Av rfl rfl rfl rfl (Av rfl rfl rfl rfl (Av rfl rfl rfl rfl (Av rfl rfl rfl rfl (sv rfl (Au rfl rfl) (As (G0 rfl (fun _ => ?_) (fun hx => Bool.noConfusion hx)))))))))))
     refine Aq (Ab (sv rfl (Ak rfl) (As (Bj (A9 (Ar (Ar (A9 (Ar ?_)))))))))
     obtain rfl := Option.some.inj h
     obtain rfl : Sum.inl _ = x2 := hk2
     replace ho2 : some _ = some _ := ho2
     obtain rfl := Option.some.inj ho2
     refine ⟨Or.inr rfl, _, _, _, (Ad (Bd.tmp _ _ rfl) Af), (Aj rfl), ?_⟩
     rfl
    ·replace h := B1 hc h
     clear hc
     refine son rfl rfl rfl (sv rfl (Aa Xp rfl) (son rfl rfl rfl (sv rfl (Ae Anu rfl (.lp _ _ _ rfl) rfl) (son rfl rfl rfl (sv rfl (Ag rfl) (son rfl rfl rfl ?_))))))
     obtain ⟨u4, hu4, h⟩ := An h
     refine sv rfl (Fe (f := O5) Ano (fun _ => rfl) rfl rfl rfl rfl hu4) ?_
     refine son rfl rfl rfl (sv rfl (B3 Ahg rfl) (son rfl rfl rfl (sv rfl (Dd (ys := [.sl u4.Rng.Lo.length (u4.Rng.Lo.flatMap eU8), .sl u4.Rng.Hi.length (u4.Rng.Hi.flatMap eU8), .b u4.Rng.Open]) Ajk rfl (.cp _) rfl rfl) (son rfl rfl rfl ?_))))
     obtain ⟨v5, hv5, h⟩ := An h
     refine A2 rfl Av8 (Ac rfl Al) (Aj rfl) (Wb hv5) (son rfl rfl rfl (sv rfl (B9 rfl) (sv rfl (Am rfl rfl) (As (ccI h rfl (fun h => ?_) (fun h => ?_))))))
     ·refine Aq (Ab (sv rfl (Ak rfl) (As (Bj (A9 (Ar (Ar (A9 (Ar ?_)))))))))
      obtain rfl := Option.some.inj h
      obtain rfl : Sum.inl _ = x2 := hk2
      replace ho2 : some _ = some _ := ho2
      obtain rfl := Option.some.inj ho2
      refine ⟨Or.inr rfl, _, _, _, (Ad (Bd.tmp _ _ rfl) Af), (Aj rfl), ?_⟩
      rfl
     ·refine Bl (A4 (Ai (Ab (sv rfl (Ag rfl) (sv rfl (B0 rfl rfl) (sv rfl (Ak rfl) (As ?_)))))))
      obtain rfl := Option.some.inj h
      exact ⟨(n2, (wI (s2 + 1))), _, hk2, ⟨rfl, rfl, trivial⟩, rfl, Nat.lt_succ_self _⟩
   ·refine Lj (Bi (Bi (Ck (Ai ?_))))
    obtain rfl := Option.some.inj h
    obtain rfl : _ = x2 := hk2
    exact ⟨(), _, ho2, trivial, rfl⟩
def Mb (b2 : Unit) : Option Bool :=
 some true
def Gi (a0 : Hu) (s3 : Int) : Option (LR (Int) (Unit) (Bool)) :=
 if (decide (s3 < (a0.List.length : Int))) then ((idx a0.List s3).bind fun u4 => if (decide (100 < (u4.Key.length : Int))) then (some (.ret false)) else ((idx a0.List s3).bind fun u5 => if (decide (100 < (u5.Val.length : Int))) then (some (.ret false)) else (some (.cont (wI (s3 + 1)))))) else (some (.brk ()))
def Jj (a0 : Hu) (b1 : Unit) : Option Bool :=
 (Qg (Gi a0) Di 0).bind fun x => match x with | .inl r => some r | .inr e6 => Mb e6
def G8 (a0 : Hu) : Option Bool :=
 if (decide (100 < (a0.Val.length : Int))) then (some false) else (if (decide (20 < (a0.List.length : Int))) then (some false) else (Jj a0 ()))
set_option maxRecDepth 100000 in
theorem Th {a0 : Hu} {r : Bool} (h : G8 a0 = some r) : Bp Tryz.prog 24 [.agg (EL.el a0)] (· = .s (.one (.b r))) := by
 unfold G8 at h
 refine A1 Tryz.func24 rfl (nt := 39) rfl (Nbl rfl) ?_
 intro w0 S0
 refine Aq (Ab (Jd rfl rfl (sv rfl (Ak rfl) (As (Aq (Aq (Ki (Unit) (fun b1 => [(1, .s (.one (.lp 0 0)))]) (fun b1 => [.box (EL.el a0)]) (fun b1 => Jj a0 b1 = some r) (fun _ _ => Be rfl) (fun _ _ => A0 rfl) (fun _ _ => Nat.le_of_ble_eq_true rfl) (fun b1 h => ?_) ?_)))))))
 ·unfold Jj at h
  refine Aq (Aq (Ab (sv rfl (Ak rfl) (As (G5 (Unit) (fun b2 => []) (fun b2 => [.box (EL.el a0)]) (fun b2 => Mb b2 = some r) (fun _ _ => Be rfl) (fun _ _ => A0 rfl) (fun _ _ => Nat.le_of_ble_eq_true rfl) (fun b2 h => ?_) ?_)))))
  ·unfold Mb at h
   refine Aq (Ab (sv rfl (Ak rfl) (As (Bj ?_))))
   obtain rfl := Option.some.inj h
   refine ⟨Or.inr rfl, _, _, _, (Ad (Bd.tmp _ _ rfl) Af), (Aj rfl), ?_⟩
   rfl
  ·skip
   refine B7 ?_
   obtain ⟨x3, hx3, ho3⟩ := An h
   refine Da (G := Nat × (Int)) (fun g => [(1, .s (.one (.lp 0 0))), (3, .s (.one (Ii6 g.2)))]) (fun g => [.box (EL.el a0)]) (fun g => Qg (Gi a0) g.1 g.2 = some x3) (fun g => g.1) (Di, 0) hx3 ⟨rfl, rfl, trivial⟩ [] rfl (fun _ _ => Be rfl) (fun _ _ => A0 rfl) (fun _ _ => Nat.le_of_ble_eq_true rfl) ?_
   clear hx3 h
   rintro ⟨n3, s3⟩ h
   obtain ⟨n3, y3, rfl, h, hk3⟩ := Oc h
   unfold Gi at h
   refine Aq (Aq (Ab (sv rfl (Ag rfl) (sv rfl (Aa Aaq rfl) (sv rfl (Ae Aes rfl (.lp _ _ _ rfl) rfl) (sv rfl (Az Adj rfl) (sv rfl (Cp rfl rfl) (As (ccI h rfl (fun h => ?_) (fun h => ?_))))))))))
   ·refine Bl (Ai (Aq (B7 (Aq (Ab (sv rfl (Aa Aaq rfl) (sv rfl (Ae Aes rfl (.lp _ _ _ rfl) rfl) (sv rfl (Ag rfl) ?_))))))))
    obtain ⟨u4, hu4, h⟩ := An h
    refine sv rfl (Fe (f := Dw) Adj (fun _ => rfl) rfl rfl rfl rfl hu4) ?_
    refine sv rfl (B3 Aby rfl) (sv rfl (Ae L4 rfl (.cp _) rfl) (sv rfl (Az Lh rfl) (sv rfl (C6 rfl rfl) (sv rfl (Ag rfl) (Bo 29 rfl (fun hc => ?_) (fun hc => ?_))))))
    ·replace h := B2 hc h
     clear hc
     refine Av rfl rfl rfl rfl (Av rfl rfl rfl rfl (Av rfl rfl rfl rfl (Av rfl rfl rfl rfl (Av rfl rfl rfl rfl (Av rfl rfl rfl rfl (Av rfl rfl rfl rfl (Av rfl rfl rfl rfl (sv rfl (Au rfl rfl) (As (G0 rfl (fun _ => ?_) (fun hx => Bool.noConfusion hx)))))))))))
     refine Aq (Ab (sv rfl (Ak rfl) (As (Bj (A9 (Ar (Ar (A9 (Ar ?_)))))))))
     obtain rfl := Option.some.inj h
     obtain rfl : Sum.inl _ = x3 := hk3
     replace ho3 : some _ = some _ := ho3
     obtain rfl := Option.some.inj ho3
     refine ⟨Or.inr rfl, _, _, _, (Ad (Bd.tmp _ _ rfl) Af), (Aj rfl), ?_⟩
     rfl
    ·replace h := B1 hc h
     clear hc
     refine son rfl rfl rfl (sv rfl (Aa Aaq rfl) (son rfl rfl rfl (sv rfl (Ae Aes rfl (.lp _ _ _ rfl) rfl) (son rfl rfl rfl (sv rfl (Ag rfl) (son rfl rfl rfl ?_))))))
     obtain ⟨u5, hu5, h⟩ := An h
     refine sv rfl (Fe (f := Dw) Adj (fun _ => rfl) rfl rfl rfl rfl hu5) ?_
     refine son rfl rfl rfl (sv rfl (B3 Yn rfl) (son rfl rfl rfl (sv rfl (Ae L4 rfl (.cp _) rfl) (son rfl rfl rfl (sv rfl (Az Lh rfl) (son rfl rfl rfl (sv rfl (C6 rfl rfl) (sv rfl (Am rfl rfl) (As (ccI h rfl (fun h => ?_) (fun h => ?_)))))))))))
     ·refine Aq (Ab (sv rfl (Ak rfl) (As (Bj (A9 (Ar (Ar (A9 (Ar ?_)))))))))
      obtain rfl := Option.some.inj h
      obtain rfl : Sum.inl _ = x3 := hk3
      replace ho3 : some _ = some _ := ho3
      obtain rfl := Option.some.inj ho3
      refine ⟨Or.inr rfl, _, _, _, (Ad (Bd.tmp _ _ rfl) Af), (Aj rfl), ?_⟩
      rfl
     ·refine Bl (A4 (Ai (Ab (sv rfl (Ag rfl) (sv rfl (B0 rfl rfl) (sv rfl (Ak rfl) (As ?_)))))))
      obtain rfl := Option.some.inj h
      exact ⟨(n3, (wI (s3 + 1))), _, hk3, ⟨rfl, rfl, trivial⟩, rfl, Nat.lt_succ_self _⟩
   ·refine Lj (Bi (Bi (Ck (Ai ?_))))
    obtain rfl := Option.some.inj h
    obtain rfl : _ = x3 := hk3
    exact ⟨(), _, ho3, trivial, rfl⟩
 ·skip
  refine Ab (sv rfl (Aa Ak2 rfl) (sv rfl (Ae L4 rfl (.lp _ _ _ rfl) rfl) (sv rfl (Az Lh rfl) (sv rfl (C6 rfl rfl) (sv rfl (Ag rfl) (Bo 8 rfl (fun hc => ?_) (fun hc => ?_)))))))
  ·replace h := B2 hc h
   clear hc
   refine Av rfl rfl rfl rfl (Av rfl rfl rfl rfl (Av rfl rfl rfl rfl (Av rfl rfl rfl rfl (sv rfl (Au rfl rfl) (As (G0 rfl (fun _ => ?_) (fun hx => Bool.noConfusion hx)))))))
   refine Aq (Ab (sv rfl (Ak rfl) (As (Bj (Ar ?_)))))
   obtain rfl := Option.some.inj h
   refine ⟨Or.inr rfl, _, _, _, (Ad (Bd.tmp _ _ rfl) Af), (Aj rfl), ?_⟩
   rfl
  ·replace h := B1 hc h
   clear hc
   refine son rfl rfl rfl (sv rfl (Aa Aaq rfl) (son rfl rfl rfl (sv rfl (Ae Aes rfl (.lp _ _ _ rfl) rfl) (son rfl rfl rfl (sv rfl (Az Adj rfl) (son rfl rfl rfl (sv rfl (C6 rfl rfl) (sv rfl (Am rfl rfl) (As (ccI h rfl (fun h => ?_) (fun h => ?_)))))))))))
   ·refine Aq (Ab (sv rfl (Ak rfl) (As (Bj (Ar ?_)))))
    obtain rfl := Option.some.inj h
    refine ⟨Or.inr rfl, _, _, _, (Ad (Bd.tmp _ _ rfl) Af), (Aj rfl), ?_⟩
    rfl
   ·refine Bl (Ai ?_)
    exact ⟨(), _, h, ⟨rfl, trivial⟩, rfl⟩
def N4 (b1 : Unit) : Option Bool :=
 some true
def I0 (a0 : List I9) (s2 : Int) : Option (LR (Int) (Unit) (Bool)) :=
 if (decide (s2 < (a0.length : Int))) then ((idx a0 s2).bind fun u3 => (Md u3.Task.Prog).bind fun v4 => if (!v4) then (some (.ret false)) else ((idx a0 s2).bind fun u5 => (G8 u5.Reply).bind fun v6 => if (!v6) then (some (.ret false)) else ((idx a0 s2).bind fun u7 => if (decide (300 < (u7.Bytes.length : Int))) then (some (.ret false)) else (some (.cont (wI (s2 + 1))))))) else (some (.brk ()))
def Nh (a0 : List I9) : Option Bool :=
 if (decide (80 < (a0.length : Int))) then (some false) else ((Qg (I0 a0) Di 0).bind fun x => match x with | .inl r => some r | .inr e8 => N4 e8)
set_option maxRecDepth 100000 in
theorem Xd {a0 : List I9} {r : Bool} (h : Nh a0 = some r) : Bp Tryz.prog 8 [.one (.sl a0.length (a0.flatMap Jg))] (· = .s (.one (.b r))) := by
 unfold Nh at h
 refine A1 Tryz.func8 rfl (nt := 39) rfl (Nbl rfl) ?_
 intro w0 S0
 refine Aq (Ab (sv rfl (Ak rfl) (As (Aq (Aq (Ab (sv rfl (Ag rfl) (sv rfl (Az Alo rfl) (sv rfl (C6 rfl rfl) (As (ccI h rfl (fun h => ?_) (fun h => ?_))))))))))))
 ·refine Aq (Ab (sv rfl (Ak rfl) (As (Bj (Ar ?_)))))
  obtain rfl := Option.some.inj h
  refine ⟨Or.inr rfl, _, _, _, (Ad (Bd.tmp _ _ rfl) Af), (Aj rfl), ?_⟩
  rfl
 ·refine Bl (Ai (Aq (Aq (Ab (sv rfl (Ak rfl) (As (G5 (Unit) (fun b1 => []) (fun b1 => []) (fun b1 => N4 b1 = some r) (fun _ _ => Be rfl) (fun _ _ => A0 rfl) (fun _ _ => Nat.le_of_ble_eq_true rfl) (fun b1 h => ?_) ?_)))))))
  ·unfold N4 at h
   refine Aq (Ab (sv rfl (Ak rfl) (As (Bj ?_))))
   obtain rfl := Option.some.inj h
   refine ⟨Or.inr rfl, _, _, _, (Ad (Bd.tmp _ _ rfl) Af), (Aj rfl), ?_⟩
   rfl
  ·skip
   refine B7 ?_
   obtain ⟨x2, hx2, ho2⟩ := An h
   refine Da (G := Nat × (Int)) (fun g => [(0, .s (.one (.sl a0.length (a0.flatMap Jg)))), (3, .s (.one (Ii6 g.2)))]) (fun g => []) (fun g => Qg (I0 a0) g.1 g.2 = some x2) (fun g => g.1) (Di, 0) hx2 ⟨rfl, rfl, trivial⟩ [] rfl (fun _ _ => Be rfl) (fun _ _ => A0 rfl) (fun _ _ => Nat.le_of_ble_eq_true rfl) ?_
   clear hx2 h
   rintro ⟨n2, s2⟩ h
   obtain ⟨n2, y2, rfl, h, hk2⟩ := Oc h
   unfold I0 at h
   refine Aq (Aq (Ab (sv rfl (Ag rfl) (sv rfl (Ag rfl) (sv rfl (Az Alo rfl) (sv rfl (Cp rfl rfl) (As (ccI h rfl (fun h => ?_) (fun h => ?_)))))))))
   ·refine Bl (Ai (Aq (B7 (Aq (Ab (sv rfl (Ag rfl) (sv rfl (Ag rfl) ?_)))))))
    obtain ⟨u3, hu3, h⟩ := An h
    refine sv rfl (Fe (f := Jg) Alo (fun _ => rfl) rfl rfl rfl rfl hu3) ?_
    refine sv rfl (B3 Acr rfl) (sv rfl (B3 Aj9 rfl) (sv rfl (Dd (ys := [.b u3.Task.Prog.RO, .sl u3.Task.Prog.Ops.length (u3.Task.Prog.Ops.flatMap O5)]) At1 rfl (.cp _) rfl rfl) ?_))
    obtain ⟨v4, hv4, h⟩ := An h
    refine A2 rfl Avt (Ac rfl Al) (Aj rfl) (Y0 hv4) (sv rfl (B9 rfl) (sv rfl (Ag rfl) (Bo 21 rfl (fun hc => ?_) (fun hc => ?_))))
    ·replace h := B2 hc h
     clear hc
     refine Av rfl rfl rfl rfl (Av rfl rfl rfl rfl (Av rfl rfl rfl rfl (Av rfl rfl rfl rfl (Av rfl rfl rfl rfl (Av rfl rfl rfl rfl (Av rfl rfl rfl rfl (sv rfl (Au rfl rfl) (sv rfl (Ag rfl) (Av rfl rfl rfl rfl (Av rfl rfl rfl rfl (Av rfl rfl rfl rfl (Av rfl rfl rfl rfl (Av rfl rfl rfl rfl (Av rfl rfl rfl rfl (Av rfl rfl rfl rfl (sv rfl (Au rfl rfl) (As (G0 rfl (fun _ => ?_) (fun hx => Bool.noConfusion hx)))))))))))))))))))
     refine Aq (Ab (sv rfl (Ak rfl) (As (Bj (A9 (Ar (Ar (A9 (Ar ?_)))))))))
     obtain rfl := Option.some.inj h
     obtain rfl : Sum.inl _ = x2 := hk2
     replace ho2 : some _ = some _ := ho2
     obtain rfl := Option.some.inj ho2
     refine ⟨Or.inr rfl, _, _, _, (Ad (Bd.tmp _ _ rfl) Af), (Aj rfl), ?_⟩
     rfl
    ·replace h := B1 hc h
     clear hc
     refine son rfl rfl rfl (sv rfl (Ag rfl) (son rfl rfl rfl (sv rfl (Ag rfl) (son rfl rfl rfl ?_))))
     obtain ⟨u5, hu5, h⟩ := An h
     refine sv rfl (Fe (f := Jg) Alo (fun _ => rfl) rfl rfl rfl rfl hu5) ?_
     refine son rfl rfl rfl (sv rfl (B3 Aj7 rfl) (son rfl rfl rfl (sv rfl (Dd (ys := [Ii6 u5.Reply.Kind, Ii6 u5.Reply.Seq, Ii6 u5.Reply.Code, Ii6 u5.Reply.N, .b u5.Reply.Found, .sl u5.Reply.Val.length (u5.Reply.Val.flatMap eU8), .sl u5.Reply.List.length (u5.Reply.List.flatMap Dw)]) Atq rfl (.cp _) rfl rfl) (son rfl rfl rfl ?_))))
     obtain ⟨v6, hv6, h⟩ := An h
     refine A2 rfl Avg (Ac rfl Al) (Aj rfl) (Th hv6) (son rfl rfl rfl (sv rfl (B9 rfl) (sv rfl (Am rfl rfl) (sv rfl (Ag rfl) (Bo 30 rfl (fun hc => ?_) (fun hc => ?_))))))
     ·replace h := B2 hc h
      clear hc
      refine Av rfl rfl rfl rfl (Av rfl rfl rfl rfl (Av rfl rfl rfl rfl (Av rfl rfl rfl rfl (Av rfl rfl rfl rfl (Av rfl rfl rfl rfl (Av rfl rfl rfl rfl (sv rfl (Au rfl rfl) (As (G0 rfl (fun _ => ?_) (fun hx => Bool.noConfusion hx))))))))))
      refine Aq (Ab (sv rfl (Ak rfl) (As (Bj (A9 (Ar (Ar (A9 (Ar ?_)))))))))
      obtain rfl := Option.some.inj h
      obtain rfl : Sum.inl _ = x2 := hk2
      replace ho2 : some _ = some _ := ho2
      obtain rfl := Option.some.inj ho2
      refine ⟨Or.inr rfl, _, _, _, (Ad (Bd.tmp _ _ rfl) Af), (Aj rfl), ?_⟩
      rfl
     ·replace h := B1 hc h
      clear hc
      refine son rfl rfl rfl (sv rfl (Ag rfl) (son rfl rfl rfl (sv rfl (Ag rfl) (son rfl rfl rfl ?_))))
      obtain ⟨u7, hu7, h⟩ := An h
      refine sv rfl (Fe (f := Jg) Alo (fun _ => rfl) rfl rfl rfl rfl hu7) ?_
      refine son rfl rfl rfl (sv rfl (B3 Ak3 rfl) (son rfl rfl rfl (sv rfl (Ae L4 rfl (.cp _) rfl) (son rfl rfl rfl (sv rfl (Az Lh rfl) (son rfl rfl rfl (sv rfl (C6 rfl rfl) (sv rfl (Am rfl rfl) (As (ccI h rfl (fun h => ?_) (fun h => ?_)))))))))))
      ·refine Aq (Ab (sv rfl (Ak rfl) (As (Bj (A9 (Ar (Ar (A9 (Ar ?_)))))))))
       obtain rfl := Option.some.inj h
       obtain rfl : Sum.inl _ = x2 := hk2
       replace ho2 : some _ = some _ := ho2
       obtain rfl := Option.some.inj ho2
       refine ⟨Or.inr rfl, _, _, _, (Ad (Bd.tmp _ _ rfl) Af), (Aj rfl), ?_⟩
       rfl
      ·refine Bl (A4 (Ai (Ab (sv rfl (Ag rfl) (sv rfl (B0 rfl rfl) (sv rfl (Ak rfl) (As ?_)))))))
       obtain rfl := Option.some.inj h
       exact ⟨(n2, (wI (s2 + 1))), _, hk2, ⟨rfl, rfl, trivial⟩, rfl, Nat.lt_succ_self _⟩
   ·refine Lj (Bi (Bi (Ck (Ai ?_))))
    obtain rfl := Option.some.inj h
    obtain rfl : _ = x2 := hk2
    exact ⟨(), _, ho2, trivial, rfl⟩
def Mv (a0 : Iq) (b1 : (List B6)) : Option Co :=
 some (Co.mk a0.RO b1)
def Ib (a0 : Iq) (s2 : Int × (List B6)) : Option (LB (Int × (List B6)) ((List B6))) :=
 if (decide (s2.1 < (a0.Ops.length : Int))) then ((idx a0.Ops s2.1).bind fun u3 => if (s2.2.length + [(B6.mk u3.What u3.A u3.B u3.N u3.Key u3.Rng)].length) * 112 ≤ 140737488355328 then (some (.cont ((wI (s2.1 + 1)), (s2.2 ++ [(B6.mk u3.What u3.A u3.B u3.N u3.Key u3.Rng)])))) else none) else (some (.brk s2.2))
def Kw (a0 : Iq) : Option Co :=
 (E4 (Ib a0) Di (0, ([] : List B6))).bind fun e5 => Mv a0 e5
set_option maxRecDepth 100000 in
theorem Ua {a0 : Iq} {r : Co} (h : Kw a0 = some r) : Bp Tryz.prog 26 [.agg (EL.el a0)] (· = .s (.agg (EL.el r))) := by
 unfold Kw at h
 refine A1 Tryz.func26 rfl (nt := 40) rfl (Nbl rfl) ?_
 intro w0 S0
 refine Aq (Ab (Jd rfl rfl (Bz rfl Aqo (As (Aq (Ab (sv rfl (Aa Aoo rfl) (sv rfl (Ae ti4 rfl (.lp _ _ _ rfl) rfl) (sv rfl (Bk Aqo Aub (Ap rfl Ba) (.cons _ _ _ _ _ _ _ rfl rfl (Nbl rfl) (.nil _))) (Bz rfl Aqo (Ax Atv rfl rfl rfl rfl (Nbl rfl) (Bs [.box (EL.el a0), .box [.b false, Znl], .box [.b a0.RO, Znl]] rfl (As (Aq (Aq (Ab (sv rfl (Ak rfl) (As ?_))))))))))))))))))
 refine Aae 89 8 2 1 (by decide) rfl rfl ?_
 refine G5 ((List B6)) (fun b1 => [(2, .s (.one (.lp 1 0))), (3, .s (.one (.lp 2 0)))]) (fun b1 => [.box (EL.el a0), .box [.b false, Znl], .box [.b a0.RO, .ls 3 b1.length], .arr 89 8 0 (b1.flatMap Cf)]) (fun b1 => Mv a0 b1 = some r) (fun _ _ => Be rfl) (fun _ _ => A0 rfl) (fun _ _ => Nat.le_of_ble_eq_true rfl) (fun b1 h => ?_) ?_
 ·unfold Mv at h
  refine Aq (Ab (sv rfl (Ao Amw rfl (.lp _ _ _ rfl) (Nbl rfl)) (Ax Atv rfl rfl rfl rfl (Nbl rfl) (Bs [.box (EL.el a0), .box [.b a0.RO, .ls 3 b1.length], .box [.b a0.RO, .ls 3 b1.length], .arr 89 8 0 (b1.flatMap Cf)] rfl (As (Bj ?_))))))
  obtain rfl := Option.some.inj h
  refine ⟨Or.inr rfl, _, _, _, (Ad (Bd.agg _ _ _ _ _ Amw rfl (.lp _ _ _ rfl) (Nbl rfl)) Af), (by (repeat' first | exact J5.nil _ | apply J5.cons | apply Jz.one | apply Jz.agg | exact E6.nil | exact E6.ls _ _ _ _ _ _ rfl (Bg (f := Cf) (fun _ => rfl) _).symm | exact E6.id _ rfl | exact D1.nil _ | apply D1.cons)), ?_⟩
  rfl
 ·skip
  refine B7 ?_
  obtain ⟨x2, hx2, ho2⟩ := An h
  refine Da (G := Nat × (Int × (List B6))) (fun g => [(1, .s (.one (.lp 0 0))), (2, .s (.one (.lp 1 0))), (3, .s (.one (.lp 2 0))), (4, .s (.one (Ii6 g.2.1)))]) (fun g => [.box (EL.el a0), .box [.b false, Znl], .box [.b a0.RO, .ls 3 g.2.2.length], .arr 89 8 0 (g.2.2.flatMap Cf)]) (fun g => E4 (Ib a0) g.1 g.2 = some x2) (fun g => g.1) (Di, (0, ([] : List B6))) hx2 ⟨rfl, rfl, rfl, rfl, trivial⟩ [] rfl (fun _ _ => Be rfl) (fun _ _ => A0 rfl) (fun _ _ => Nat.le_of_ble_eq_true rfl) ?_
  clear hx2 h
  rintro ⟨n2, s2⟩ h
  obtain ⟨n2, y2, rfl, h, hk2⟩ := Gs h
  unfold Ib at h
  refine Aq (Aq (Ab (sv rfl (Ag rfl) (sv rfl (Aa Xp rfl) (sv rfl (Ae Anu rfl (.lp _ _ _ rfl) rfl) (sv rfl (Az Ano rfl) (sv rfl (Cp rfl rfl) (As (ccI h rfl (fun h => ?_) (fun h => ?_))))))))))
  ·refine Bl (Ai (Aq (B7 (Aq (Ab (sv rfl (Aa Xp rfl) (sv rfl (Ae Anu rfl (.lp _ _ _ rfl) rfl) (sv rfl (Ag rfl) ?_))))))))
   obtain ⟨u3, hu3, h⟩ := An h
   refine sv rfl (Fe (f := O5) Ano (fun _ => rfl) rfl rfl rfl rfl hu3) ?_
   refine sv rfl (Dd (ys := [Ii6 u3.What, Ii6 u3.A, Ii6 u3.B, Ii6 u3.N, .sl u3.Key.length (u3.Key.flatMap eU8), .sl u3.Rng.Lo.length (u3.Rng.Lo.flatMap eU8), .sl u3.Rng.Hi.length (u3.Rng.Hi.flatMap eU8), .b u3.Rng.Open]) Aq3 rfl (.cp _) rfl rfl) (Bz rfl Ath (Ax As9 rfl rfl rfl rfl (Nbl rfl) (Bs [.box (EL.el a0), .box [.b false, Znl], .box [.b a0.RO, .ls 3 s2.2.length], .arr 89 8 0 (s2.2.flatMap Cf), .box (EL.el u3)] rfl (As (Ab (sv rfl (Aa R9 rfl) (sv rfl (Ae Aix rfl (.lp _ _ _ rfl) rfl) (sv rfl (Aa Ane rfl) (sv rfl (Ae ti3 rfl (.lp _ _ _ rfl) rfl) (sv rfl (Aa Al9 rfl) (sv rfl (Ae ti3 rfl (.lp _ _ _ rfl) rfl) (sv rfl (Aa Amc rfl) (sv rfl (Ae ti3 rfl (.lp _ _ _ rfl) rfl) (sv rfl (Aa Ald rfl) (sv rfl (Ae ti3 rfl (.lp _ _ _ rfl) rfl) (sv rfl (Aa Aez rfl) (sv rfl (Ae L4 rfl (.lp _ _ _ rfl) rfl) (sv rfl (Aa Ahg rfl) (sv rfl (Ao Ajk rfl (.lp _ _ _ rfl) (Nbl rfl)) (sv rfl (Bk Ap9 At5 (Ap rfl (Ap rfl (Ap rfl (Ap rfl (Ap rfl (Ap rfl Ba)))))) (Ef [Ii6 u3.What, Ii6 0, Ii6 0, Ii6 0, Znl, Znl, Znl, .b false] rfl rfl (Nbl rfl) rfl (Ef [Ii6 u3.What, Ii6 u3.A, Ii6 0, Ii6 0, Znl, Znl, Znl, .b false] rfl rfl (Nbl rfl) rfl (Ef [Ii6 u3.What, Ii6 u3.A, Ii6 u3.B, Ii6 0, Znl, Znl, Znl, .b false] rfl rfl (Nbl rfl) rfl (Ef [Ii6 u3.What, Ii6 u3.A, Ii6 u3.B, Ii6 u3.N, Znl, Znl, Znl, .b false] rfl rfl (Nbl rfl) rfl (Ef [Ii6 u3.What, Ii6 u3.A, Ii6 u3.B, Ii6 u3.N, .sl u3.Key.length (u3.Key.flatMap eU8), Znl, Znl, .b false] rfl rfl (Nbl rfl) rfl (Ef [Ii6 u3.What, Ii6 u3.A, Ii6 u3.B, Ii6 u3.N, .sl u3.Key.length (u3.Key.flatMap eU8), .sl u3.Rng.Lo.length (u3.Rng.Lo.flatMap eU8), .sl u3.Rng.Hi.length (u3.Rng.Hi.flatMap eU8), .b u3.Rng.Open] rfl rfl (Nbl rfl) rfl (.nil _)))))))) ?_))))))))))))))))))))
   refine Qw rfl Tryz.underlying90 As6 rfl rfl (List.all_eq_true.1 rfl) (by decide) ?_
   refine Bs [.box (EL.el a0), .box [.b false, Znl], .box [.b a0.RO, .ls 3 s2.2.length], .arr 89 8 0 (s2.2.flatMap Cf), .box (EL.el u3), .arr 89 8 0 ([(B6.mk u3.What u3.A u3.B u3.N u3.Key u3.Rng)].flatMap Cf)] rfl ?_
   obtain ⟨hb4, h⟩ := D9 h
   refine Ahz (f := Cf) (xs := s2.2) (us := [(B6.mk u3.What u3.A u3.B u3.N u3.Key u3.Rng)]) rfl Tryz.underlying90 As6 Avf (fun _ => rfl) rfl rfl (.one _ _ _ _ (.ls _ _ _ _ _ _ rfl (Bg (f := Cf) (fun _ => rfl) [(B6.mk u3.What u3.A u3.B u3.N u3.Key u3.Rng)]).symm)) rfl rfl rfl (.sl _ _ _ (Bg (f := Cf) (fun _ => rfl) _)) rfl rfl hb4 (by decide) ?_
   refine sv rfl (Aa R9 rfl) (Ax Avu rfl rfl rfl rfl (Nbl rfl) (Bs [.box (EL.el a0), .box [.b false, Znl], .box [.b a0.RO, .ls 3 (s2.2 ++ [(B6.mk u3.What u3.A u3.B u3.N u3.Key u3.Rng)]).length], .arr 89 8 0 ((s2.2 ++ [(B6.mk u3.What u3.A u3.B u3.N u3.Key u3.Rng)]).flatMap Cf), .box (EL.el u3), .arr 89 8 ([(B6.mk u3.What u3.A u3.B u3.N u3.Key u3.Rng)].flatMap Cf).length ([(B6.mk u3.What u3.A u3.B u3.N u3.Key u3.Rng)].flatMap Cf)] rfl (Lz (A4 (Ai (Ab (sv rfl (Ag rfl) (sv rfl (B0 rfl rfl) (sv rfl (Ak rfl) (As ?_))))))))))
   obtain rfl := Option.some.inj h
   exact ⟨(n2, ((wI (s2.1 + 1)), (s2.2 ++ [(B6.mk u3.What u3.A u3.B u3.N u3.Key u3.Rng)]))), _, hk2, ⟨rfl, rfl, rfl, rfl, trivial⟩, rfl, Nat.lt_succ_self _⟩
  ·refine Lj (Bi (Bi (Ck (Ai ?_))))
   obtain rfl := Option.some.inj h
   obtain rfl : _ = x2 := hk2
   exact ⟨s2.2, _, ho2, ⟨rfl, rfl, trivial⟩, rfl⟩
def Kq (a0 : Ah) : Option Ah :=
 (D6 a0).bind fun v1 => if (!v1) then (some C0) else ((Fu a0.Phase).bind fun v2 => if v2 then (some a0) else ((Cq a0).bind fun v3 => some v3))
set_option maxRecDepth 100000 in
theorem Ue {a0 : Ah} {r : Ah} (h : Kq a0 = some r) : Bp Tryz.prog 27 [.agg (EL.el a0)] (· = .s (.agg (EL.el r))) := by
 unfold Kq at h
 refine A1 Tryz.func27 rfl (nt := 13) rfl (Nbl rfl) ?_
 intro w0 S0
 refine Aq (Ab (Jd rfl rfl (Bz rfl Nn (As (Aq (Aq (Ab (sv rfl (Ao B5 rfl (.lp _ _ _ rfl) (Nbl rfl)) ?_))))))))
 obtain ⟨v1, hv1, h⟩ := An h
 refine A2 rfl Ali (Ac rfl Al) (Aj rfl) (Gm hv1) (sv rfl (B9 rfl) (As (ccI h rfl (fun h => ?_) (fun h => ?_))))
 ·refine Aq (Ab (sv rfl (Bk Nn Ac4 Ba (.nil _)) (Ax Ey rfl rfl rfl rfl (Nbl rfl) (Bs [.box (EL.el a0), .box Zba] rfl (As (Bj (Ar ?_)))))))
  obtain rfl := Option.some.inj h
  refine ⟨Or.inr rfl, _, _, _, (Ad (Bd.agg _ _ _ _ _ B5 rfl (.lp _ _ _ rfl) (Nbl rfl)) Af), (Np rfl), ?_⟩
  rfl
 ·refine Bl (Ai (Aq (Aq (Ab (sv rfl (Aa G4 rfl) (sv rfl (Ae ti3 rfl (.lp _ _ _ rfl) rfl) ?_))))))
  obtain ⟨v2, hv2, h⟩ := An h
  refine A2 rfl Ap0 (Ac rfl Al) (Aj rfl) (I2 hv2) (As (ccI h rfl (fun h => ?_) (fun h => ?_)))
  ·refine Aq (Ab (sv rfl (Ao B5 rfl (.lp _ _ _ rfl) (Nbl rfl)) (Ax Ey rfl rfl rfl rfl (Nbl rfl) (Bs [.box (EL.el a0), .box (EL.el a0)] rfl (As (Bj (Ar ?_)))))))
   obtain rfl := Option.some.inj h
   refine ⟨Or.inr rfl, _, _, _, (Ad (Bd.agg _ _ _ _ _ B5 rfl (.lp _ _ _ rfl) (Nbl rfl)) Af), (Aj rfl), ?_⟩
   rfl
  ·refine Bl (Ai (Aq (Ab (sv rfl (Ao B5 rfl (.lp _ _ _ rfl) (Nbl rfl)) ?_))))
   obtain ⟨v3, hv3, h⟩ := An h
   refine A2 rfl Aob (Ac rfl Al) (Aj rfl) (Fj hv3) (Ax Ey rfl rfl rfl rfl (Nbl rfl) (Bs [.box (EL.el a0), .box (EL.el v3)] rfl (As (Bj ?_))))
   obtain rfl := Option.some.inj h
   refine ⟨Or.inr rfl, _, _, _, (Ad (Bd.agg _ _ _ _ _ B5 rfl (.lp _ _ _ rfl) (Nbl rfl)) Af), (Aj rfl), ?_⟩
   rfl
def D4 (a0 : Ah) : Option Ah :=
 (Gw a0.Cfg.Plan (wI (a0.Sent + 1))).bind fun v1 => if (!v1.2) then ((Cq a0).bind fun v2 => some v2) else ((Et a0).bind fun v3 => if v3 then ((Ce a0).bind fun v4 => some v4) else ((Fh ({a0 with Sent := (wI (a0.Sent + 1)), Left := v1.1})).bind fun v5 => some v5))
set_option maxRecDepth 100000 in
theorem Nu {a0 : Ah} {r : Ah} (h : D4 a0 = some r) : Bp Tryz.prog 73 [.agg (EL.el a0)] (· = .s (.agg (EL.el r))) := by
 unfold D4 at h
 refine A1 Tryz.func73 rfl (nt := 33) rfl (Nbl rfl) ?_
 intro w0 S0
 refine Aq (Ab (Jd rfl rfl (Bz rfl Nn (As (Aq (Ab (sv rfl (Aa Qt rfl) (sv rfl (Aa Wt rfl) (sv rfl (Ao Aj4 rfl (.lp _ _ _ rfl) (Nbl rfl)) (sv rfl (Aa Aan rfl) (sv rfl (Ae ti3 rfl (.lp _ _ _ rfl) rfl) (sv rfl (B0 rfl rfl) ?_))))))))))))
 obtain ⟨v1, hv1, h⟩ := An h
 refine A2 rfl Aql (Ac rfl (Ac rfl Al)) (Aj rfl) (K9 hv1) (sv rfl (Gj rfl) (sv rfl (Bc rfl rfl) (sv rfl (Bc rfl rfl) (sv rfl (Ak rfl) (sv rfl (Ak rfl) (As (Aq (B7 (Aq (Ab (sv rfl (Ag rfl) (sv rfl (B9 rfl) (sv rfl (Ak rfl) (As (ccI h rfl (fun h => ?_) (fun h => ?_))))))))))))))))
 ·refine Aq (Ab (sv rfl (Ao B5 rfl (.lp _ _ _ rfl) (Nbl rfl)) ?_))
  obtain ⟨v2, hv2, h⟩ := An h
  refine A2 rfl Aob (Ac rfl Al) (Aj rfl) (Fj hv2) (Ax Ey rfl rfl rfl rfl (Nbl rfl) (Bs [.box (EL.el a0), .box (EL.el v2)] rfl (As (Bj (A9 (Ar ?_))))))
  obtain rfl := Option.some.inj h
  refine ⟨Or.inr rfl, _, _, _, (Ad (Bd.agg _ _ _ _ _ B5 rfl (.lp _ _ _ rfl) (Nbl rfl)) Af), (Aj rfl), ?_⟩
  rfl
 ·refine Aq (Ab (sv rfl (Ao B5 rfl (.lp _ _ _ rfl) (Nbl rfl)) ?_))
  obtain ⟨v3, hv3, h⟩ := An h
  refine A2 rfl Auk (Ac rfl Al) (Aj rfl) (Mh hv3) (sv rfl (Ak rfl) (As (ccI h rfl (fun h => ?_) (fun h => ?_))))
  ·refine Aq (Ab (sv rfl (Ao B5 rfl (.lp _ _ _ rfl) (Nbl rfl)) ?_))
   obtain ⟨v4, hv4, h⟩ := An h
   refine A2 rfl Al5 (Ac rfl Al) (Aj rfl) (Dg hv4) (Ax Ey rfl rfl rfl rfl (Nbl rfl) (Bs [.box (EL.el a0), .box (EL.el v4)] rfl (As (Bj (A9 (Ar ?_))))))
   obtain rfl := Option.some.inj h
   refine ⟨Or.inr rfl, _, _, _, (Ad (Bd.agg _ _ _ _ _ B5 rfl (.lp _ _ _ rfl) (Nbl rfl)) Af), (Aj rfl), ?_⟩
   rfl
  ·refine Bl (A4 (Ai (Aq (Ab (sv rfl (Aa Aan rfl) (sv rfl (Ae ti3 rfl (.lp _ _ _ rfl) rfl) (sv rfl (B0 rfl rfl) (sv rfl (Aa Aan rfl) (Ax sz3 rfl rfl rfl rfl (Nbl rfl) (Bs [.box (EL.el {a0 with Sent := wI (a0.Sent + 1)}), .box Zba] rfl (As (Aq (Ab (sv rfl (Ag rfl) (sv rfl (Aa Ra rfl) (Ax sz3 rfl rfl rfl rfl (Nbl rfl) (Bs [.box (EL.el {a0 with Sent := wI (a0.Sent + 1), Left := v1.1}), .box Zba] rfl (As (Aq (Ab (sv rfl (Ao B5 rfl (.lp _ _ _ rfl) (Nbl rfl)) ?_)))))))))))))))))))))
   obtain ⟨v5, hv5, h⟩ := An h
   refine A2 rfl At4 (Ac rfl Al) (Aj rfl) (Mx hv5) (Ax Ey rfl rfl rfl rfl (Nbl rfl) (Bs [.box (EL.el {a0 with Sent := wI (a0.Sent + 1), Left := v1.1}), .box (EL.el v5)] rfl (As (Bj ?_))))
   obtain rfl := Option.some.inj h
   refine ⟨Or.inr rfl, _, _, _, (Ad (Bd.agg _ _ _ _ _ B5 rfl (.lp _ _ _ rfl) (Nbl rfl)) Af), (Aj rfl), ?_⟩
   rfl
def Gy (a0 : Ah) : Option Ah :=
 if (decide (a0.Phase = 8)) then ((Ee a0).bind fun v1 => some v1) else (if (decide (a0.Phase = 10)) then ((D5 a0).bind fun v2 => some v2) else ((D4 a0).bind fun v3 => some v3))
set_option maxRecDepth 100000 in
theorem Pv {a0 : Ah} {r : Ah} (h : Gy a0 = some r) : Bp Tryz.prog 38 [.agg (EL.el a0)] (· = .s (.agg (EL.el r))) := by
 unfold Gy at h
 refine A1 Tryz.func38 rfl (nt := 15) rfl (Nbl rfl) ?_
 intro w0 S0
 refine Aq (Ab (Jd rfl rfl (Bz rfl Nn (As (Aq (Aq (Ab (sv rfl (Aa G4 rfl) (sv rfl (Ae ti3 rfl (.lp _ _ _ rfl) rfl) (As (B7 (Aq (Ab (sv rfl (Bq rfl rfl) (sv rfl (Ak rfl) (As (ccI h rfl (fun h => ?_) (fun h => ?_))))))))))))))))))
 ·refine Aq (Ab (sv rfl (Ao B5 rfl (.lp _ _ _ rfl) (Nbl rfl)) ?_))
  obtain ⟨v1, hv1, h⟩ := An h
  refine A2 rfl Auo (Ac rfl Al) (Aj rfl) (L3 hv1) (Ax Ey rfl rfl rfl rfl (Nbl rfl) (Bs [.box (EL.el a0), .box (EL.el v1)] rfl (As (Bj (A9 (Ar ?_))))))
  obtain rfl := Option.some.inj h
  refine ⟨Or.inr rfl, _, _, _, (Ad (Bd.agg _ _ _ _ _ B5 rfl (.lp _ _ _ rfl) (Nbl rfl)) Af), (Aj rfl), ?_⟩
  rfl
 ·refine Aq (Ab (sv rfl (Bq rfl rfl) (sv rfl (Ak rfl) (As (ccI h rfl (fun h => ?_) (fun h => ?_))))))
  ·refine Aq (Ab (sv rfl (Ao B5 rfl (.lp _ _ _ rfl) (Nbl rfl)) ?_))
   obtain ⟨v2, hv2, h⟩ := An h
   refine A2 rfl Asm (Ac rfl Al) (Aj rfl) (Jn hv2) (Ax Ey rfl rfl rfl rfl (Nbl rfl) (Bs [.box (EL.el a0), .box (EL.el v2)] rfl (As (Bj (A9 (Ar ?_))))))
   obtain rfl := Option.some.inj h
   refine ⟨Or.inr rfl, _, _, _, (Ad (Bd.agg _ _ _ _ _ B5 rfl (.lp _ _ _ rfl) (Nbl rfl)) Af), (Aj rfl), ?_⟩
   rfl
  ·refine Bl (A4 (Ai (Aq (Ab (sv rfl (Ao B5 rfl (.lp _ _ _ rfl) (Nbl rfl)) ?_)))))
   obtain ⟨v3, hv3, h⟩ := An h
   refine A2 rfl Av2 (Ac rfl Al) (Aj rfl) (Nu hv3) (Ax Ey rfl rfl rfl rfl (Nbl rfl) (Bs [.box (EL.el a0), .box (EL.el v3)] rfl (As (Bj ?_))))
   obtain rfl := Option.some.inj h
   refine ⟨Or.inr rfl, _, _, _, (Ad (Bd.agg _ _ _ _ _ B5 rfl (.lp _ _ _ rfl) (Nbl rfl)) Af), (Aj rfl), ?_⟩
   rfl
def Kh (b3 : Ah) : Option (Ah × Int) :=
 some (b3, 0)
def Ke (a0 : Ah) (a1 : Int) (b2 : Unit) : Option (Ah × Int) :=
 if (decide (a0.Left ≤ a1)) then ((Gy ({a0 with Left := (if (wI (a0.Left - a1)) > 0 then (wI (a0.Left - a1)) else 0)})).bind fun v4 => Kh v4) else (Kh ({a0 with Left := (if (wI (a0.Left - a1)) > 0 then (wI (a0.Left - a1)) else 0)}))
def Kj (a0 : Ah) (a1 : Int) (b1 : Unit) : Option (Ah × Int) :=
 if (decide (a0.Phase = 0)) then (some (a0, 0)) else ((Fu a0.Phase).bind fun v5 => if v5 then (some (a0, 0)) else (Ke a0 a1 ()))
def Kk (a0 : Ah) (a1 : Int) : Option (Ah × Int) :=
 (D6 a0).bind fun v6 => if (!v6) then (some (C0, 1)) else ((Bx a1 0 1073741824).bind fun v7 => if (!v7) then (some (C0, 1)) else (Kj a0 a1 ()))
set_option maxRecDepth 100000 in
theorem Uh {a0 : Ah} {a1 : Int} {r : Ah × Int} (h : Kk a0 a1 = some r) : Bp Tryz.prog 15 [.agg (EL.el a0), .one (Ii6 a1)] (· = .tup [.agg (EL.el r.1), .one (Ii6 r.2)]) := by
 unfold Kk at h
 refine A1 Tryz.func15 rfl (nt := 39) rfl (Nbl rfl) ?_
 intro w0 S0
 refine Aq (Ab (Jd rfl rfl (Bz rfl Nn (sv rfl (Ak rfl) (As (Aq (Aq (Ki (Unit) (fun b1 => [(1, .s (.one (Ii6 a1))), (2, .s (.one (.lp 0 0))), (4, .s (.one (.lp 1 0)))]) (fun b1 => [.box (EL.el a0), .box Zba]) (fun b1 => Kj a0 a1 b1 = some r) (fun _ _ => Be rfl) (fun _ _ => A0 rfl) (fun _ _ => Nat.le_of_ble_eq_true rfl) (fun b1 h => ?_) ?_))))))))
 ·unfold Kj at h
  refine Aq (Aq (Ki (Unit) (fun b2 => [(1, .s (.one (Ii6 a1))), (2, .s (.one (.lp 0 0))), (4, .s (.one (.lp 1 0)))]) (fun b2 => [.box (EL.el a0), .box Zba]) (fun b2 => Ke a0 a1 b2 = some r) (fun _ _ => Be rfl) (fun _ _ => A0 rfl) (fun _ _ => Nat.le_of_ble_eq_true rfl) (fun b2 h => ?_) ?_))
  ·unfold Ke at h
   refine Aq (Ab (sv rfl (Aa Ra rfl) (sv rfl (Ae ti3 rfl (.lp _ _ _ rfl) rfl) (sv rfl (Ag rfl) (sv rfl (Fv rfl rfl) (sv rfl (Ak rfl) (As (Aq (Ab (sv rfl (Aa Ra rfl) (sv rfl (Ae ti3 rfl (.lp _ _ _ rfl) rfl) (sv rfl (Ag rfl) (sv rfl (Mq rfl rfl) (sv rfl (Afe rfl rfl) (sv rfl (Aa Ra rfl) (Ax sz3 rfl rfl rfl rfl (Nbl rfl) (Bs [.box (EL.el {a0 with Left := if (wI (a0.Left - a1)) > 0 then (wI (a0.Left - a1)) else 0}), .box Zba] rfl (As (Aq (Aq (Ab (sv rfl (Ag rfl) (As (G5 (Ah) (fun b3 => [(2, .s (.one (.lp 0 0))), (4, .s (.one (.lp 1 0)))]) (fun b3 => [.box (EL.el b3), .box Zba]) (fun b3 => Kh b3 = some r) (fun _ _ => Be rfl) (fun _ _ => A0 rfl) (fun _ _ => Nat.le_of_ble_eq_true rfl) (fun b3 h => ?_) ?_))))))))))))))))))))))))
   ·unfold Kh at h
    refine Aq (Ab (sv rfl (Ao B5 rfl (.lp _ _ _ rfl) (Nbl rfl)) (Ax Ey rfl rfl rfl rfl (Nbl rfl) (Bs [.box (EL.el b3), .box (EL.el b3)] rfl (sv rfl (Ak rfl) (As (Bj ?_)))))))
    obtain rfl := Option.some.inj h
    refine ⟨Or.inr rfl, _, _, _, (Ad (Bd.agg _ _ _ _ _ B5 rfl (.lp _ _ _ rfl) (Nbl rfl)) (Ad (Bd.tmp _ _ rfl) Af)), (Aj rfl), ?_⟩
    rfl
   ·skip
    refine ccI h rfl (fun h => ?_) (fun h => ?_)
    ·refine Ab (sv rfl (Ao B5 rfl (.lp _ _ _ rfl) (Nbl rfl)) ?_)
     obtain ⟨v4, hv4, h⟩ := An h
     refine A2 rfl Awc (Ac rfl Al) (Aj rfl) (Pv hv4) (Ax Ey rfl rfl rfl rfl (Nbl rfl) (Bs [.box (EL.el v4), .box Zba] rfl (As ?_)))
     exact ⟨v4, _, h, ⟨rfl, rfl, trivial⟩, rfl⟩
    ·refine Bl (Ai ?_)
     exact ⟨{a0 with Left := (if (wI (a0.Left - a1)) > 0 then (wI (a0.Left - a1)) else 0)}, _, h, ⟨rfl, rfl, trivial⟩, rfl⟩
  ·skip
   refine Ab (sv rfl (Aa G4 rfl) (sv rfl (Ae ti3 rfl (.lp _ _ _ rfl) rfl) (sv rfl (Bq rfl rfl) (sv rfl (Ag rfl) (Bo 19 rfl (fun hc => ?_) (fun hc => ?_))))))
   ·replace h := B2 hc h
    clear hc
    refine Av rfl rfl rfl rfl (Av rfl rfl rfl rfl (Av rfl rfl rfl rfl (sv rfl (Au rfl rfl) (As (G0 rfl (fun _ => ?_) (fun hx => Bool.noConfusion hx))))))
    refine Aq (Ab (sv rfl (Ao B5 rfl (.lp _ _ _ rfl) (Nbl rfl)) (Ax Ey rfl rfl rfl rfl (Nbl rfl) (Bs [.box (EL.el a0), .box (EL.el a0)] rfl (sv rfl (Ak rfl) (As (Bj (Ar ?_))))))))
    obtain rfl := Option.some.inj h
    refine ⟨Or.inr rfl, _, _, _, (Ad (Bd.agg _ _ _ _ _ B5 rfl (.lp _ _ _ rfl) (Nbl rfl)) (Ad (Bd.tmp _ _ rfl) Af)), (Aj rfl), ?_⟩
    rfl
   ·replace h := B1 hc h
    clear hc
    refine son rfl rfl rfl (sv rfl (Aa G4 rfl) (son rfl rfl rfl (sv rfl (Ae ti3 rfl (.lp _ _ _ rfl) rfl) (son rfl rfl rfl ?_))))
    obtain ⟨v5, hv5, h⟩ := An h
    refine A2 rfl Ap0 (Ac rfl Al) (Aj rfl) (I2 hv5) (sv rfl (Am rfl rfl) (As (ccI h rfl (fun h => ?_) (fun h => ?_))))
    ·refine Aq (Ab (sv rfl (Ao B5 rfl (.lp _ _ _ rfl) (Nbl rfl)) (Ax Ey rfl rfl rfl rfl (Nbl rfl) (Bs [.box (EL.el a0), .box (EL.el a0)] rfl (sv rfl (Ak rfl) (As (Bj (Ar ?_))))))))
     obtain rfl := Option.some.inj h
     refine ⟨Or.inr rfl, _, _, _, (Ad (Bd.agg _ _ _ _ _ B5 rfl (.lp _ _ _ rfl) (Nbl rfl)) (Ad (Bd.tmp _ _ rfl) Af)), (Aj rfl), ?_⟩
     rfl
    ·refine Bl (Ai ?_)
     exact ⟨(), _, h, ⟨rfl, rfl, rfl, trivial⟩, rfl⟩
 ·skip
  refine Ab (sv rfl (Ao B5 rfl (.lp _ _ _ rfl) (Nbl rfl)) ?_)
  obtain ⟨v6, hv6, h⟩ := An h
  refine A2 rfl Ali (Ac rfl Al) (Aj rfl) (Gm hv6) (sv rfl (B9 rfl) (sv rfl (Ag rfl) (Bo 10 rfl (fun hc => ?_) (fun hc => ?_))))
  ·replace h := B2 hc h
   clear hc
   refine Av rfl rfl rfl rfl (Av rfl rfl rfl rfl (Av rfl rfl rfl rfl (sv rfl (Au rfl rfl) (As (G0 rfl (fun _ => ?_) (fun hx => Bool.noConfusion hx))))))
   refine Aq (Ab (sv rfl (Bk Nn Ac4 Ba (.nil _)) (Ax Ey rfl rfl rfl rfl (Nbl rfl) (Bs [.box (EL.el a0), .box Zba] rfl (sv rfl (Ak rfl) (As (Bj (Ar ?_))))))))
   obtain rfl := Option.some.inj h
   refine ⟨Or.inr rfl, _, _, _, (Ad (Bd.agg _ _ _ _ _ B5 rfl (.lp _ _ _ rfl) (Nbl rfl)) (Ad (Bd.tmp _ _ rfl) Af)), (Np rfl), ?_⟩
   rfl
  ·replace h := B1 hc h
   clear hc
   refine son rfl rfl rfl (sv rfl (Ag rfl) (son rfl rfl rfl ?_))
   obtain ⟨v7, hv7, h⟩ := An h
   refine A2 rfl Aer (Ac rfl (Ac rfl (Ac rfl Al))) (Aj rfl) (Ci hv7) (son rfl rfl rfl (sv rfl (B9 rfl) (sv rfl (Am rfl rfl) (As (ccI h rfl (fun h => ?_) (fun h => ?_))))))
   ·refine Aq (Ab (sv rfl (Bk Nn Ac4 Ba (.nil _)) (Ax Ey rfl rfl rfl rfl (Nbl rfl) (Bs [.box (EL.el a0), .box Zba] rfl (sv rfl (Ak rfl) (As (Bj (Ar ?_))))))))
    obtain rfl := Option.some.inj h
    refine ⟨Or.inr rfl, _, _, _, (Ad (Bd.agg _ _ _ _ _ B5 rfl (.lp _ _ _ rfl) (Nbl rfl)) (Ad (Bd.tmp _ _ rfl) Af)), (Np rfl), ?_⟩
    rfl
   ·refine Bl (Ai ?_)
    exact ⟨(), _, h, ⟨rfl, rfl, rfl, trivial⟩, rfl⟩
def Jy (a0 : Ah) : Option (Ah × (List UInt8)) :=
 (D6 a0).bind fun v1 => if (!v1) then (some (C0, ([] : List UInt8))) else (some ({a0 with Out := ([] : List UInt8)}, a0.Out))
set_option maxRecDepth 100000 in
theorem T1 {a0 : Ah} {r : Ah × (List UInt8)} (h : Jy a0 = some r) : Bp Tryz.prog 28 [.agg (EL.el a0)] (· = .tup [.agg (EL.el r.1), .one (.sl r.2.length (r.2.flatMap eU8))]) := by
 unfold Jy at h
 refine A1 Tryz.func28 rfl (nt := 14) rfl (Nbl rfl) ?_
 intro w0 S0
 refine Aq (Ab (Jd rfl rfl (Bz rfl Nn (sv rfl (Ak rfl) (As (Aq (Aq (Ab (sv rfl (Ao B5 rfl (.lp _ _ _ rfl) (Nbl rfl)) ?_)))))))))
 obtain ⟨v1, hv1, h⟩ := An h
 refine A2 rfl Ali (Ac rfl Al) (Aj rfl) (Gm hv1) (sv rfl (B9 rfl) (As (ccI h rfl (fun h => ?_) (fun h => ?_))))
 ·refine Aq (Ab (sv rfl (Bk Nn Ac4 Ba (.nil _)) (Ax Ey rfl rfl rfl rfl (Nbl rfl) (Bs [.box (EL.el a0), .box Zba] rfl (sv rfl (Ak rfl) (As (Bj (Ar ?_))))))))
  obtain rfl := Option.some.inj h
  refine ⟨Or.inr rfl, _, _, _, (Ad (Bd.agg _ _ _ _ _ B5 rfl (.lp _ _ _ rfl) (Nbl rfl)) (Ad (Bd.tmp _ _ rfl) Af)), (Np rfl), ?_⟩
  rfl
 ·refine Bl (Ai (Aq (Ab (sv rfl (Aa Qi rfl) (sv rfl (Ae L4 rfl (.lp _ _ _ rfl) rfl) (sv rfl (Ak rfl) (As (Aq (Ab (sv rfl (Aa Qi rfl) (Ax Aot rfl rfl rfl rfl (Nbl rfl) (Bs [.box ((EL.el a0).set 37 (Znl)), .box Zba] rfl (As (Aq (Ab (sv rfl (Ao B5 rfl (.lp _ _ _ rfl) (Nbl rfl)) (sv rfl (Ag rfl) (Ax Ey rfl rfl rfl rfl (Nbl rfl) (Bs [.box ((EL.el a0).set 37 (Znl)), .box ((EL.el a0).set 37 (Znl))] rfl (sv rfl (Ak rfl) (As (Bj ?_))))))))))))))))))))))
  obtain rfl := Option.some.inj h
  refine ⟨Or.inr rfl, _, _, _, (Ad (Bd.agg _ _ _ _ _ B5 rfl (.lp _ _ _ rfl) (Nbl rfl)) (Ad (Bd.tmp _ _ rfl) Af)), (Np rfl), ?_⟩
  rfl
def Ni (a0 : Ah) (a1 : I9) : Option Ah :=
 if (decide (a1.What ≤ 1)) then ((Kw a1.Task.Prog).bind fun v1 => (Dk a0 (Aw.mk a1.Task.Token v1)).bind fun v2 => if (decide (v2.2 = 0)) then (some v2.1) else (some a0)) else (if (decide (a1.What = 2)) then ((En a0).bind fun v3 => if (decide (v3.2 = 0)) then (some v3.1) else (some a0)) else (if (decide (a1.What = 3)) then ((Kq a0).bind fun v4 => some v4) else (if (decide (a1.What ≤ 8)) then ((F2 a0 a1.Reply).bind fun v5 => (Ht a0 v5).bind fun v6 => some v6) else (if (decide (a1.What = 9)) then ((Ht a0 a1.Bytes).bind fun v7 => some v7) else (if (decide (a1.What ≤ 11)) then ((Kk a0 a1.N).bind fun v8 => if (decide (v8.2 = 0)) then (some v8.1) else (some a0)) else ((Jy a0).bind fun v9 => some v9.1))))))
set_option maxRecDepth 100000 in
theorem W7 {a0 : Ah} {a1 : I9} {r : Ah} (h : Ni a0 a1 = some r) : Bp Tryz.prog 11 [.agg (EL.el a0), .agg (EL.el a1)] (· = .s (.agg (EL.el r))) := by
 unfold Ni at h
 refine A1 Tryz.func11 rfl (nt := 92) rfl (Nbl rfl) ?_
 intro w0 S0
 refine Aq (Ab (Jd rfl rfl (Jd rfl rfl (Bz rfl Nn (As (Aq (B7 (Aq (Ab (sv rfl (Aa V7 rfl) (sv rfl (Ae ti3 rfl (.lp _ _ _ rfl) rfl) (sv rfl (Fv rfl rfl) (sv rfl (Ak rfl) (As (ccI h rfl (fun h => ?_) (fun h => ?_))))))))))))))))
 ·refine Aq (Ad2 ?_)
  obtain ⟨v1, hv1, h⟩ := An h
  obtain ⟨v2, hv2, h⟩ := An h
  refine Kb [13, 14] [0, 0, 2, 6, 0, 16, 48, 112, 254, 511, 1023, 2047, 2047, 0, 12287, 32767] [[.box (EL.el a0), .box (EL.el a1), .box Zba, .hole], [.box (EL.el a0), .box (EL.el a1), .box Zba, .box Zba], [.box (EL.el a0), .box (EL.el a1), .box Zba, .box (EL.el v2.1)]] (by kernel_rfl) Ma (by kernel_rfl) (by decide) rfl rfl rfl rfl ?_
  refine ev (B4 (md := [.box (EL.el a0), .box (EL.el a1), .box Zba, .dead]) ⟨⟨rfl, ⟨rfl, ⟨rfl, ⟨trivial, trivial⟩⟩⟩⟩, ⟨⟨rfl, ⟨rfl, ⟨rfl, ⟨trivial, trivial⟩⟩⟩⟩, ⟨⟨rfl, ⟨rfl, ⟨rfl, ⟨trivial, trivial⟩⟩⟩⟩, trivial⟩⟩⟩) rfl rfl (Ao B5 rfl (.lp _ _ _ rfl) (Nbl rfl)) (ev (B4 (md := [.box (EL.el a0), .box (EL.el a1), .box Zba, .dead]) ⟨⟨rfl, ⟨rfl, ⟨rfl, ⟨trivial, trivial⟩⟩⟩⟩, ⟨⟨rfl, ⟨rfl, ⟨rfl, ⟨trivial, trivial⟩⟩⟩⟩, ⟨⟨rfl, ⟨rfl, ⟨rfl, ⟨trivial, trivial⟩⟩⟩⟩, trivial⟩⟩⟩) rfl rfl (Aa Acr rfl) (ev (B4 (md := [.box (EL.el a0), .box (EL.el a1), .box Zba, .dead]) ⟨⟨rfl, ⟨rfl, ⟨rfl, ⟨trivial, trivial⟩⟩⟩⟩, ⟨⟨rfl, ⟨rfl, ⟨rfl, ⟨trivial, trivial⟩⟩⟩⟩, ⟨⟨rfl, ⟨rfl, ⟨rfl, ⟨trivial, trivial⟩⟩⟩⟩, trivial⟩⟩⟩) rfl rfl (Aa Ak5 rfl) (ev (B4 (md := [.box (EL.el a0), .box (EL.el a1), .box Zba, .dead]) ⟨⟨rfl, ⟨rfl, ⟨rfl, ⟨trivial, trivial⟩⟩⟩⟩, ⟨⟨rfl, ⟨rfl, ⟨rfl, ⟨trivial, trivial⟩⟩⟩⟩, ⟨⟨rfl, ⟨rfl, ⟨rfl, ⟨trivial, trivial⟩⟩⟩⟩, trivial⟩⟩⟩) rfl rfl (Ae ti3 rfl (.lp _ _ _ rfl) rfl) (ev (B4 (md := [.box (EL.el a0), .box (EL.el a1), .box Zba, .dead]) ⟨⟨rfl, ⟨rfl, ⟨rfl, ⟨trivial, trivial⟩⟩⟩⟩, ⟨⟨rfl, ⟨rfl, ⟨rfl, ⟨trivial, trivial⟩⟩⟩⟩, ⟨⟨rfl, ⟨rfl, ⟨rfl, ⟨trivial, trivial⟩⟩⟩⟩, trivial⟩⟩⟩) rfl rfl (Aa Acr rfl) (ev (B4 (md := [.box (EL.el a0), .box (EL.el a1), .box Zba, .dead]) ⟨⟨rfl, ⟨rfl, ⟨rfl, ⟨trivial, trivial⟩⟩⟩⟩, ⟨⟨rfl, ⟨rfl, ⟨rfl, ⟨trivial, trivial⟩⟩⟩⟩, ⟨⟨rfl, ⟨rfl, ⟨rfl, ⟨trivial, trivial⟩⟩⟩⟩, trivial⟩⟩⟩) rfl rfl (Aa Aj9 rfl) (ev (B4 (md := [.box (EL.el a0), .box (EL.el a1), .box Zba, .dead]) ⟨⟨rfl, ⟨rfl, ⟨rfl, ⟨trivial, trivial⟩⟩⟩⟩, ⟨⟨rfl, ⟨rfl, ⟨rfl, ⟨trivial, trivial⟩⟩⟩⟩, ⟨⟨rfl, ⟨rfl, ⟨rfl, ⟨trivial, trivial⟩⟩⟩⟩, trivial⟩⟩⟩) rfl rfl (Ao At1 rfl (.lp _ _ _ rfl) (Nbl rfl)) (ed (B4 (md := [.box (EL.el a0), .box (EL.el a1), .box Zba, .dead]) ⟨⟨rfl, ⟨rfl, ⟨rfl, ⟨trivial, trivial⟩⟩⟩⟩, ⟨⟨rfl, ⟨rfl, ⟨rfl, ⟨trivial, trivial⟩⟩⟩⟩, ⟨⟨rfl, ⟨rfl, ⟨rfl, ⟨trivial, trivial⟩⟩⟩⟩, trivial⟩⟩⟩) rfl rfl (D2 Aux (Ac rfl Al) rfl (Ua hv1)) (ev (B4 (md := [.box (EL.el a0), .box (EL.el a1), .box Zba, .dead]) ⟨⟨rfl, ⟨rfl, ⟨rfl, ⟨trivial, trivial⟩⟩⟩⟩, ⟨⟨rfl, ⟨rfl, ⟨rfl, ⟨trivial, trivial⟩⟩⟩⟩, ⟨⟨rfl, ⟨rfl, ⟨rfl, ⟨trivial, trivial⟩⟩⟩⟩, trivial⟩⟩⟩) rfl rfl (Bk Anv Att (Ap rfl (Ap rfl Ba)) (.cons _ _ _ _ _ _ _ rfl rfl (Nbl rfl) (.cons _ _ _ _ _ _ _ rfl rfl (Nbl rfl) (.nil _)))) (ed (B4 (md := [.box (EL.el a0), .box (EL.el a1), .box Zba, .dead]) ⟨⟨rfl, ⟨rfl, ⟨rfl, ⟨trivial, trivial⟩⟩⟩⟩, ⟨⟨rfl, ⟨rfl, ⟨rfl, ⟨trivial, trivial⟩⟩⟩⟩, ⟨⟨rfl, ⟨rfl, ⟨rfl, ⟨trivial, trivial⟩⟩⟩⟩, trivial⟩⟩⟩) rfl rfl (D2 Atu (Ac rfl (Ac rfl Al)) rfl (Om hv2)) (emv rfl rfl (fun _ => Gj rfl) ?_))))))))))
  refine ev (B4 (md := [.box (EL.el a0), .box (EL.el a1), .box Zba, .dead]) ⟨⟨rfl, ⟨rfl, ⟨rfl, ⟨trivial, trivial⟩⟩⟩⟩, ⟨⟨rfl, ⟨rfl, ⟨rfl, ⟨trivial, trivial⟩⟩⟩⟩, ⟨⟨rfl, ⟨rfl, ⟨rfl, ⟨trivial, trivial⟩⟩⟩⟩, trivial⟩⟩⟩) rfl rfl (Bc rfl rfl) (ev (B4 (md := [.box (EL.el a0), .box (EL.el a1), .box Zba, .dead]) ⟨⟨rfl, ⟨rfl, ⟨rfl, ⟨trivial, trivial⟩⟩⟩⟩, ⟨⟨rfl, ⟨rfl, ⟨rfl, ⟨trivial, trivial⟩⟩⟩⟩, ⟨⟨rfl, ⟨rfl, ⟨rfl, ⟨trivial, trivial⟩⟩⟩⟩, trivial⟩⟩⟩) rfl rfl (Bc rfl rfl) (ee (x := .s (.one (.lp 3 0))) 0 rfl rfl rfl rfl rfl (fun ζ => ?_) ?_))
  ·refine Nm 3 rfl Nn rfl ?_
   exact Sd
  refine ee0 1 rfl rfl rfl rfl (fun ζ => ?_) ?_
  ·refine Ax Ey rfl rfl rfl rfl (Nbl rfl) (Bs [.box (EL.el a0), .box (EL.el a1), .box Zba, .box (EL.el v2.1)] rfl ?_)
   exact Sd
  refine ev (Bh 2 rfl rfl) rfl rfl (Ak rfl) (Y1 (Ai (Aq (Aq (Ab (sv rfl (Ag rfl) (sv rfl (Bq rfl rfl) (As (ccI h rfl (fun h => ?_) (fun h => ?_))))))))))
  ·refine Aq (Ab (sv rfl (Ao B5 rfl (.lp _ _ _ rfl) (Nbl rfl)) (Ax Ey rfl rfl rfl rfl (Nbl rfl) (Bs [.box (EL.el a0), .box (EL.el a1), .box (EL.el v2.1), .box (EL.el v2.1)] rfl (As (Bj (Ar (A9 (Ar ?_)))))))))
   obtain rfl := Option.some.inj h
   refine ⟨Or.inr rfl, _, _, _, (Ad (Bd.agg _ _ _ _ _ B5 rfl (.lp _ _ _ rfl) (Nbl rfl)) Af), (Aj rfl), ?_⟩
   rfl
  ·refine Bl (Ai (Aq (Ab (sv rfl (Ao B5 rfl (.lp _ _ _ rfl) (Nbl rfl)) (Ax Ey rfl rfl rfl rfl (Nbl rfl) (Bs [.box (EL.el a0), .box (EL.el a1), .box (EL.el a0), .box (EL.el v2.1)] rfl (As (Bj (A9 (Ar ?_))))))))))
   obtain rfl := Option.some.inj h
   refine ⟨Or.inr rfl, _, _, _, (Ad (Bd.agg _ _ _ _ _ B5 rfl (.lp _ _ _ rfl) (Nbl rfl)) Af), (Aj rfl), ?_⟩
   rfl
 ·refine Aq (Ab (sv rfl (Aa V7 rfl) (sv rfl (Ae ti3 rfl (.lp _ _ _ rfl) rfl) (sv rfl (Bq rfl rfl) (sv rfl (Ak rfl) (As (ccI h rfl (fun h => ?_) (fun h => ?_))))))))
  ·refine Aq (Ab (sv rfl (Ao B5 rfl (.lp _ _ _ rfl) (Nbl rfl)) ?_))
   obtain ⟨v3, hv3, h⟩ := An h
   refine A2 rfl At8 (Ac rfl Al) (Aj rfl) (My hv3) (sv rfl (Gj rfl) (sv rfl (Bc rfl rfl) (sv rfl (Bc rfl rfl) (Bz rfl Nn (Ax Ey rfl rfl rfl rfl (Nbl rfl) (Bs [.box (EL.el a0), .box (EL.el a1), .box Zba, .box (EL.el v3.1)] rfl (sv rfl (Ak rfl) (As (Aq (Aq (Ab (sv rfl (Ag rfl) (sv rfl (Bq rfl rfl) (As (ccI h rfl (fun h => ?_) (fun h => ?_))))))))))))))))
   ·refine Aq (Ab (sv rfl (Ao B5 rfl (.lp _ _ _ rfl) (Nbl rfl)) (Ax Ey rfl rfl rfl rfl (Nbl rfl) (Bs [.box (EL.el a0), .box (EL.el a1), .box (EL.el v3.1), .box (EL.el v3.1)] rfl (As (Bj (Ar (A9 (Ar ?_)))))))))
    obtain rfl := Option.some.inj h
    refine ⟨Or.inr rfl, _, _, _, (Ad (Bd.agg _ _ _ _ _ B5 rfl (.lp _ _ _ rfl) (Nbl rfl)) Af), (Aj rfl), ?_⟩
    rfl
   ·refine Bl (Ai (Aq (Ab (sv rfl (Ao B5 rfl (.lp _ _ _ rfl) (Nbl rfl)) (Ax Ey rfl rfl rfl rfl (Nbl rfl) (Bs [.box (EL.el a0), .box (EL.el a1), .box (EL.el a0), .box (EL.el v3.1)] rfl (As (Bj (A9 (Ar ?_))))))))))
    obtain rfl := Option.some.inj h
    refine ⟨Or.inr rfl, _, _, _, (Ad (Bd.agg _ _ _ _ _ B5 rfl (.lp _ _ _ rfl) (Nbl rfl)) Af), (Aj rfl), ?_⟩
    rfl
  ·refine Aq (Ab (sv rfl (Aa V7 rfl) (sv rfl (Ae ti3 rfl (.lp _ _ _ rfl) rfl) (sv rfl (Bq rfl rfl) (sv rfl (Ak rfl) (As (ccI h rfl (fun h => ?_) (fun h => ?_))))))))
   ·refine Aq (Ab (sv rfl (Ao B5 rfl (.lp _ _ _ rfl) (Nbl rfl)) ?_))
    obtain ⟨v4, hv4, h⟩ := An h
    refine A2 rfl Avc (Ac rfl Al) (Aj rfl) (Ue hv4) (Ax Ey rfl rfl rfl rfl (Nbl rfl) (Bs [.box (EL.el a0), .box (EL.el a1), .box (EL.el v4)] rfl (As (Bj (A9 (Ar ?_))))))
    obtain rfl := Option.some.inj h
    refine ⟨Or.inr rfl, _, _, _, (Ad (Bd.agg _ _ _ _ _ B5 rfl (.lp _ _ _ rfl) (Nbl rfl)) Af), (Aj rfl), ?_⟩
    rfl
   ·refine Aq (Ab (sv rfl (Aa V7 rfl) (sv rfl (Ae ti3 rfl (.lp _ _ _ rfl) rfl) (sv rfl (Fv rfl rfl) (sv rfl (Ak rfl) (As (ccI h rfl (fun h => ?_) (fun h => ?_))))))))
    ·refine Aq ?_
     obtain ⟨v5, hv5, h⟩ := An h
     obtain ⟨v6, hv6, h⟩ := An h
     refine Kb [6] [0, 0, 0, 4, 14, 31, 63] [[.box (EL.el a0), .box (EL.el a1), .box Zba], [.box (EL.el a0), .box (EL.el a1), .box (EL.el v6)]] (by kernel_rfl) Ma (by kernel_rfl) (by decide) rfl rfl rfl rfl ?_
     refine ev (Bh 0 rfl rfl) rfl rfl (Ao B5 rfl (.lp _ _ _ rfl) (Nbl rfl)) (ev (Bh 0 rfl rfl) rfl rfl (Ao B5 rfl (.lp _ _ _ rfl) (Nbl rfl)) (ev (Bh 0 rfl rfl) rfl rfl (Aa Aj7 rfl) (ev (Bh 0 rfl rfl) rfl rfl (Ao Atq rfl (.lp _ _ _ rfl) (Nbl rfl)) (ed (Bh 0 rfl rfl) rfl rfl (D2 Aui (Ac rfl (Ac rfl Al)) rfl (Ov hv5)) (ed (Bh 0 rfl rfl) rfl rfl (D2 Arm (Ac rfl (Ac rfl Al)) rfl (M1 hv6)) (ee0 0 rfl rfl rfl rfl (fun ζ => ?_) ?_))))))
     ·refine Ax Ey rfl rfl rfl rfl (Nbl rfl) (Bs [.box (EL.el a0), .box (EL.el a1), .box (EL.el v6)] rfl ?_)
      exact Sd
     refine Y1 (Ai (Bj (A9 (Ar ?_))))
     obtain rfl := Option.some.inj h
     refine ⟨Or.inr rfl, _, _, _, (Ad (Bd.agg _ _ _ _ _ B5 rfl (.lp _ _ _ rfl) (Nbl rfl)) Af), (Aj rfl), ?_⟩
     rfl
    ·refine Aq (Ab (sv rfl (Aa V7 rfl) (sv rfl (Ae ti3 rfl (.lp _ _ _ rfl) rfl) (sv rfl (Bq rfl rfl) (sv rfl (Ak rfl) (As (ccI h rfl (fun h => ?_) (fun h => ?_))))))))
     ·refine Aq (Ab (sv rfl (Ao B5 rfl (.lp _ _ _ rfl) (Nbl rfl)) (sv rfl (Aa Ak3 rfl) (sv rfl (Ae L4 rfl (.lp _ _ _ rfl) rfl) ?_))))
      obtain ⟨v7, hv7, h⟩ := An h
      refine A2 rfl Arm (Ac rfl (Ac rfl Al)) (Aj rfl) (M1 hv7) (Ax Ey rfl rfl rfl rfl (Nbl rfl) (Bs [.box (EL.el a0), .box (EL.el a1), .box (EL.el v7)] rfl (As (Bj (A9 (Ar ?_))))))
      obtain rfl := Option.some.inj h
      refine ⟨Or.inr rfl, _, _, _, (Ad (Bd.agg _ _ _ _ _ B5 rfl (.lp _ _ _ rfl) (Nbl rfl)) Af), (Aj rfl), ?_⟩
      rfl
     ·refine Aq (Ab (sv rfl (Aa V7 rfl) (sv rfl (Ae ti3 rfl (.lp _ _ _ rfl) rfl) (sv rfl (Fv rfl rfl) (sv rfl (Ak rfl) (As (ccI h rfl (fun h => ?_) (fun h => ?_))))))))
      ·refine Aq (Ab (sv rfl (Ao B5 rfl (.lp _ _ _ rfl) (Nbl rfl)) (sv rfl (Aa Apq rfl) (sv rfl (Ae ti3 rfl (.lp _ _ _ rfl) rfl) ?_))))
       obtain ⟨v8, hv8, h⟩ := An h
       refine A2 rfl Av0 (Ac rfl (Ac rfl Al)) (Aj rfl) (Uh hv8) (sv rfl (Gj rfl) (sv rfl (Bc rfl rfl) (sv rfl (Bc rfl rfl) (Bz rfl Nn (Ax Ey rfl rfl rfl rfl (Nbl rfl) (Bs [.box (EL.el a0), .box (EL.el a1), .box Zba, .box (EL.el v8.1)] rfl (sv rfl (Ak rfl) (As (Aq (Aq (Ab (sv rfl (Ag rfl) (sv rfl (Bq rfl rfl) (As (ccI h rfl (fun h => ?_) (fun h => ?_))))))))))))))))
       ·refine Aq (Ab (sv rfl (Ao B5 rfl (.lp _ _ _ rfl) (Nbl rfl)) (Ax Ey rfl rfl rfl rfl (Nbl rfl) (Bs [.box (EL.el a0), .box (EL.el a1), .box (EL.el v8.1), .box (EL.el v8.1)] rfl (As (Bj (Ar (A9 (Ar ?_)))))))))
        obtain rfl := Option.some.inj h
        refine ⟨Or.inr rfl, _, _, _, (Ad (Bd.agg _ _ _ _ _ B5 rfl (.lp _ _ _ rfl) (Nbl rfl)) Af), (Aj rfl), ?_⟩
        rfl
       ·refine Bl (Ai (Aq (Ab (sv rfl (Ao B5 rfl (.lp _ _ _ rfl) (Nbl rfl)) (Ax Ey rfl rfl rfl rfl (Nbl rfl) (Bs [.box (EL.el a0), .box (EL.el a1), .box (EL.el a0), .box (EL.el v8.1)] rfl (As (Bj (A9 (Ar ?_))))))))))
        obtain rfl := Option.some.inj h
        refine ⟨Or.inr rfl, _, _, _, (Ad (Bd.agg _ _ _ _ _ B5 rfl (.lp _ _ _ rfl) (Nbl rfl)) Af), (Aj rfl), ?_⟩
        rfl
      ·refine Bl (A4 (Ai (Aq (Ab (sv rfl (Ao B5 rfl (.lp _ _ _ rfl) (Nbl rfl)) ?_)))))
       obtain ⟨v9, hv9, h⟩ := An h
       refine A2 rfl Avh (Ac rfl Al) (Aj rfl) (T1 hv9) (sv rfl (Gj rfl) (sv rfl (Bc rfl rfl) (sv rfl (Bc rfl rfl) (Bz rfl Nn (Ax Ey rfl rfl rfl rfl (Nbl rfl) (Bs [.box (EL.el a0), .box (EL.el a1), .box Zba, .box (EL.el v9.1)] rfl (sv rfl (Ak rfl) (As (Aq (Ab (sv rfl (Ao B5 rfl (.lp _ _ _ rfl) (Nbl rfl)) (Ax Ey rfl rfl rfl rfl (Nbl rfl) (Bs [.box (EL.el a0), .box (EL.el a1), .box (EL.el v9.1), .box (EL.el v9.1)] rfl (As (Bj ?_)))))))))))))))
       obtain rfl := Option.some.inj h
       refine ⟨Or.inr rfl, _, _, _, (Ad (Bd.agg _ _ _ _ _ B5 rfl (.lp _ _ _ rfl) (Nbl rfl)) Af), (Aj rfl), ?_⟩
       rfl
def Nq (b1 : Int) : Option Int :=
 some b1
def J3 (a0 : List A8) (a1 : Int) (s2 : Int × Int) : Option (LB (Int × Int) (Int)) :=
 if (decide (s2.2 < (a0.length : Int))) then ((idx a0 s2.2).bind fun u3 => if (decide (u3.Token = a1)) then (some (.cont ((wI (s2.1 + 1)), (wI (s2.2 + 1))))) else (some (.cont (s2.1, (wI (s2.2 + 1)))))) else (some (.brk s2.1))
def Mt (a0 : List A8) (a1 : Int) : Option Int :=
 (E4 (J3 a0 a1) Di (0, 0)).bind fun e4 => Nq e4
set_option maxRecDepth 100000 in
theorem Wj {a0 : List A8} {a1 : Int} {r : Int} (h : Mt a0 a1 = some r) : Bp Tryz.prog 13 [.one (.sl a0.length (a0.flatMap A6)), .one (Ii6 a1)] (· = .s (.one (Ii6 r))) := by
 unfold Mt at h
 refine A1 Tryz.func13 rfl (nt := 23) rfl (Nbl rfl) ?_
 intro w0 S0
 refine Aq (Ab (sv rfl (Ak rfl) (As (Aq (Ab (sv rfl (Ak rfl) (As (Aq (Aq (Ab (sv rfl (Ak rfl) (As (G5 (Int) (fun b1 => [(5, .s (.one (Ii6 b1)))]) (fun b1 => []) (fun b1 => Nq b1 = some r) (fun _ _ => Be rfl) (fun _ _ => A0 rfl) (fun _ _ => Nat.le_of_ble_eq_true rfl) (fun b1 h => ?_) ?_)))))))))))))
 ·unfold Nq at h
  refine Aq (Ab (sv rfl (Ag rfl) (sv rfl (Ak rfl) (As (Bj ?_)))))
  obtain rfl := Option.some.inj h
  refine ⟨Or.inr rfl, _, _, _, (Ad (Bd.tmp _ _ rfl) Af), (Aj rfl), ?_⟩
  rfl
 ·skip
  refine B7 ?_
  obtain ⟨x2, hx2, ho2⟩ := An h
  refine Da (G := Nat × (Int × Int)) (fun g => [(0, .s (.one (.sl a0.length (a0.flatMap A6)))), (1, .s (.one (Ii6 a1))), (5, .s (.one (Ii6 g.2.1))), (6, .s (.one (Ii6 g.2.2)))]) (fun g => []) (fun g => E4 (J3 a0 a1) g.1 g.2 = some x2) (fun g => g.1) (Di, (0, 0)) hx2 ⟨rfl, rfl, rfl, rfl, trivial⟩ [] rfl (fun _ _ => Be rfl) (fun _ _ => A0 rfl) (fun _ _ => Nat.le_of_ble_eq_true rfl) ?_
  clear hx2 h
  rintro ⟨n2, s2⟩ h
  obtain ⟨n2, y2, rfl, h, hk2⟩ := Gs h
  unfold J3 at h
  refine Aq (Aq (Ab (sv rfl (Ag rfl) (sv rfl (Ag rfl) (sv rfl (Az Zf rfl) (sv rfl (Cp rfl rfl) (As (ccI h rfl (fun h => ?_) (fun h => ?_)))))))))
  ·refine Bl (Ai (Aq (B7 (Aq (Ab (sv rfl (Ag rfl) (sv rfl (Ag rfl) ?_)))))))
   obtain ⟨u3, hu3, h⟩ := An h
   refine sv rfl (Fe (f := A6) Zf (fun _ => rfl) rfl rfl rfl rfl hu3) ?_
   refine sv rfl (B3 Af0 rfl) (sv rfl (Ae ti3 rfl (.cp _) rfl) (sv rfl (Ag rfl) (sv rfl (Bq rfl rfl) (As (ccI h rfl (fun h => ?_) (fun h => ?_))))))
   ·refine Ab (sv rfl (Ag rfl) (sv rfl (B0 rfl rfl) (sv rfl (Ak rfl) (Lz (A4 (Ai (Ab (sv rfl (Ag rfl) (sv rfl (B0 rfl rfl) (sv rfl (Ak rfl) (As ?_)))))))))))
    obtain rfl := Option.some.inj h
    exact ⟨(n2, ((wI (s2.1 + 1)), (wI (s2.2 + 1)))), _, hk2, ⟨rfl, rfl, rfl, rfl, trivial⟩, rfl, Nat.lt_succ_self _⟩
   ·refine Bl (A4 (Ai (Ab (sv rfl (Ag rfl) (sv rfl (B0 rfl rfl) (sv rfl (Ak rfl) (As ?_)))))))
    obtain rfl := Option.some.inj h
    exact ⟨(n2, (s2.1, (wI (s2.2 + 1)))), _, hk2, ⟨rfl, rfl, rfl, rfl, trivial⟩, rfl, Nat.lt_succ_self _⟩
  ·refine Lj (Bi (Bi (Ck (Ai ?_))))
   obtain rfl := Option.some.inj h
   obtain rfl : _ = x2 := hk2
   exact ⟨s2.1, _, ho2, ⟨rfl, trivial⟩, rfl⟩
def Lp (v1 : Bool) (b5 : Ah) : Option Bool :=
 some v1
def Kn (s6 : Int × Int × Ah) (v8 : Ah) (b9 : Int) (b12 : Unit) : Option (LR (Int × Int × Ah) (Ah) (Bool)) :=
 some (.cont (b9, (wI (s6.2.1 + 1)), v8))
def D8 (v8 : Ah) (s13 : Int) : Option (LR (Int) (Unit) (Bool)) :=
 if (decide (s13 < (v8.Done.length : Int))) then ((idx v8.Done s13).bind fun u14 => (Mt v8.Done u14.Token).bind fun v15 => if (!decide (v15 = 1)) then (some (.ret false)) else (if (decide (u14.Code < 1)) then (some (.ret false)) else (if (decide (4 < u14.Code)) then (some (.ret false)) else (if (decide (u14.Code = 4)) then (if (decide (u14.Ts = 0)) then (if (!decide (v8.Phase = 11)) then (some (.ret false)) else (some (.cont (wI (s13 + 1))))) else (some (.cont (wI (s13 + 1))))) else (some (.cont (wI (s13 + 1)))))))) else (some (.brk ()))
def Ik (s6 : Int × Int × Ah) (v8 : Ah) (b9 : Int) (b11 : Unit) : Option (LR (Int × Int × Ah) (Ah) (Bool)) :=
 (Qg (D8 v8) Di 0).bind fun x => match x with | .inl r => some (.ret r) | .inr e16 => Kn s6 v8 b9 e16
def Fc (s6 : Int × Int × Ah) (v8 : Ah) (b9 : Int) (b10 : Int) : Option (LR (Int × Int × Ah) (Ah) (Bool)) :=
 if (!decide ((wI ((v8.Done.length : Int) + b10)) = b9)) then (some (.ret false)) else ((D6 v8).bind fun v17 => if (!v17) then (some (.ret false)) else (Ik s6 v8 b9 ()))
def Dp (s6 : Int × Int × Ah) (v8 : Ah) (b9 : Int) : Option (LR (Int × Int × Ah) (Ah) (Bool)) :=
 if (decide (v8.Phase = 9)) then (Fc s6 v8 b9 (wI ((v8.Tasks.length : Int) - 1))) else (Fc s6 v8 b9 (v8.Tasks.length : Int))
def Ek (a0 : List I9) (s6 : Int × Int × Ah) : Option (LR (Int × Int × Ah) (Ah) (Bool)) :=
 if (decide (s6.2.1 < (a0.length : Int))) then ((idx a0 s6.2.1).bind fun u7 => (Ni s6.2.2 ({u7 with Task := (Rk.mk s6.2.1 u7.Task.Prog)})).bind fun v8 => if (decide (u7.What ≤ 1)) then (if (decide ((s6.2.2.Tasks.length : Int) < (v8.Tasks.length : Int))) then (Dp s6 v8 (wI (s6.1 + 1))) else (if (decide ((s6.2.2.Done.length : Int) < (v8.Done.length : Int))) then (Dp s6 v8 (wI (s6.1 + 1))) else (Dp s6 v8 s6.1))) else (Dp s6 v8 s6.1)) else (some (.brk s6.2.2))
end Go.Proofs.YtbjckaahoacbfaaGreatDoor.Abs
