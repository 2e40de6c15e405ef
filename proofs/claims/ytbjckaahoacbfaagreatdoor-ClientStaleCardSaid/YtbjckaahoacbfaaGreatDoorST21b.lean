/- . -/
import Derived.Test.YtbjckaahoacbfaaGreatDoorST21a
set_option linter.unusedVariables false
set_option linter.unusedSimpArgs false
namespace Go.Proofs.YtbjckaahoacbfaaGreatDoor.Abs
open Go.RowKit Go.Proofs
set_option maxRecDepth 100000
open EL
def M1 (a0 : B7) : Option ((List UInt8) × Int) :=
 (J4 a0).bind fun v1 => if (!v1) then (some (([] : List UInt8),1)) else ((J7 a0.Kind).bind fun v2 => (Et ([] : List UInt8) (BitVec.ofInt 64 a0.Kind) 1).bind fun v3 => (Et v3 (BitVec.ofInt 64 a0.Seq) 4).bind fun v4 => if v2.token_ then ((Et v4 (BitVec.ofInt 64 a0.Token) 8).bind fun v18 => Fx a0 v2 v18) else (Fx a0 v2 v4))
theorem Xm {a0 : B7} {r : (List UInt8) × Int} (h : M1 a0 = some r) : Bl Tryz.prog 89 [.agg (el a0)] (· = .tup [.one (.sl r.1.length (r.1.flatMap eU8)),.one (Ii6 r.2)]) := by
 unfold M1 at h
 refine Au Tryz.func89 rfl (nt := 68) rfl (Nbl rfl) ?_
 intro w0 S0
 refine csr (Ih rfl rfl (rm 2 rfl (Al (Bp (csr (sv rfl (Ai Agc rfl (.lp _ _ _ rfl) (Nbl rfl)) ?_))))))
 obtain ⟨v1,hv1,h⟩ := Ag h
 refine Av rfl Aya (Ab rfl Af) (Ao rfl) (Ri hv1) (sv rfl (B5 rfl) (Al (ccI h rfl (fun h => ?_) (fun h => ?_))))
 ·refine csr (rm 2 rfl (Al (Bg (Ak ?_))))
  cases SJ h
  refine ⟨Or.inr rfl,_,_,_,(Aj (Cu.tmp _ _ rfl) (Aj (Cu.tmp _ _ rfl) As)),(O4 rfl),?_⟩
  rfl
 ·refine Bi (Ac (csr (sv rfl (Aa Qm rfl) (sv rfl (Ae ti3 rfl (.lp _ _ _ rfl) rfl) ?_))))
  obtain ⟨v2,hv2,h⟩ := Ag h
  refine Av rfl Aye (Ab rfl Af) (Ao rfl) (Rr hv2) (Bw rfl Al8 (An Amn rfl rfl rfl rfl (Nbl rfl) (Bs [.box (el a0),.box (el v2)] rfl (Al (Bp ?_)))))
  refine Yf Kd (by kernel_rfl) ?_
  refine dv rfl (Aa Qm rfl) (dv rfl (Ae ti3 rfl (.lp _ _ _ rfl) rfl) (dv rfl (Dc rfl Tryz.underlying3 Tryz.underlying112 rfl) ?_))
  obtain ⟨v3,hv3,h⟩ := Ag h
  refine dd rfl (Vr Adz (Ab rfl (Ab rfl (Ab rfl Af))) rfl (Ez hv3)) (dv rfl (Aa Pp rfl) (dv rfl (Ae ti3 rfl (.lp _ _ _ rfl) rfl) (dv rfl (Dc rfl Tryz.underlying3 Tryz.underlying112 rfl) ?_)))
  obtain ⟨v4,hv4,h⟩ := Ag h
  refine dd rfl (Cm Adz (Ab rfl (Ab rfl (Ab rfl Af))) rfl (Ez hv4)) (dv rfl (K5 rfl) (Zy (Ac (Bp (csr (fl Akq ti4 rfl rfl rfl rfl rfl rfl (Al (Gg ((List UInt8)) (fun b5 => [(1,.s (.one (.lp 0 0))),(4,.s (.one (.lp 1 0))),(5,.s (.one (.sl b5.length (b5.flatMap eU8))))]) (fun b5 => [.box (el a0),.box (el v2)]) (fun b5 => Fx a0 v2 b5 = some r) (fun _ _ => A6 rfl) (fun _ _ => Ar rfl) (fun _ _ => Nbl rfl) (fun b5 h => ?_) ?_))))))))
  ·unfold Fx at h
   refine Bp (csr (fl Aji ti4 rfl rfl rfl rfl rfl rfl (Al (Gg ((List UInt8)) (fun b6 => [(1,.s (.one (.lp 0 0))),(4,.s (.one (.lp 1 0))),(5,.s (.one (.sl b6.length (b6.flatMap eU8))))]) (fun b6 => [.box (el a0),.box (el v2)]) (fun b6 => Ia a0 v2 b6 = some r) (fun _ _ => A6 rfl) (fun _ _ => Ar rfl) (fun _ _ => Nbl rfl) (fun b6 h => ?_) ?_))))
   ·unfold Ia at h
    refine Bp (csr (fl Aj6 ti4 rfl rfl rfl rfl rfl rfl (Al (Gg ((List UInt8)) (fun b7 => [(1,.s (.one (.lp 0 0))),(4,.s (.one (.lp 1 0))),(5,.s (.one (.sl b7.length (b7.flatMap eU8))))]) (fun b7 => [.box (el a0),.box (el v2)]) (fun b7 => H9 a0 v2 b7 = some r) (fun _ _ => A6 rfl) (fun _ _ => Ar rfl) (fun _ _ => Nbl rfl) (fun b7 h => ?_) ?_))))
    ·unfold H9 at h
     refine Bp (csr (fl Ae3 ti4 rfl rfl rfl rfl rfl rfl (Al (Gg ((List UInt8)) (fun b8 => [(1,.s (.one (.lp 0 0))),(4,.s (.one (.lp 1 0))),(5,.s (.one (.sl b8.length (b8.flatMap eU8))))]) (fun b8 => [.box (el a0),.box (el v2)]) (fun b8 => Ig a0 v2 b8 = some r) (fun _ _ => A6 rfl) (fun _ _ => Ar rfl) (fun _ _ => Nbl rfl) (fun b8 h => ?_) ?_))))
     ·unfold Ig at h
      refine Bp (csr (fl Aek ti4 rfl rfl rfl rfl rfl rfl (Al (Gg ((List UInt8)) (fun b9 => [(1,.s (.one (.lp 0 0))),(4,.s (.one (.lp 1 0))),(5,.s (.one (.sl b9.length (b9.flatMap eU8))))]) (fun b9 => [.box (el a0),.box (el v2)]) (fun b9 => Ic a0 v2 b9 = some r) (fun _ _ => A6 rfl) (fun _ _ => Ar rfl) (fun _ _ => Nbl rfl) (fun b9 h => ?_) ?_))))
      ·unfold Ic at h
       refine Bp (csr (fl Aev ti4 rfl rfl rfl rfl rfl rfl (Al (Gg ((List UInt8)) (fun b10 => [(5,.s (.one (.sl b10.length (b10.flatMap eU8))))]) (fun b10 => [.box (el a0),.box (el v2)]) (fun b10 => I7 b10 = some r) (fun _ _ => A6 rfl) (fun _ _ => Ar rfl) (fun _ _ => Nbl rfl) (fun b10 h => ?_) ?_))))
       ·unfold I7 at h
        refine csr (rm 3 rfl (Al (Bg ?_)))
        cases SJ h
        refine ⟨Or.inr rfl,_,_,_,(Aj (Cu.tmp _ _ rfl) (Aj (Cu.tmp _ _ rfl) As)),(Ao rfl),?_⟩
        rfl
       ·skip
        refine ccI h rfl (fun h => ?_) (fun h => ?_)
        ·refine Af7 Kd (by kernel_rfl) ?_
         refine dv rfl (Bc rfl) (dv rfl (Aa Aav rfl) (dv rfl (Aa Rk rfl) (dv rfl (Ae I9 rfl (.lp _ _ _ rfl) rfl) ?_)))
         obtain ⟨v11,hv11,h⟩ := Ag h
         refine dd rfl (Cm Aqu (Ab rfl (Ab rfl Af)) rfl (Ji hv11)) (dv rfl (Aa Aav rfl) (dv rfl (Aa Uk rfl) (dv rfl (Ae ti4 rfl (.lp _ _ _ rfl) rfl) ?_)))
         obtain ⟨v12,hv12,h⟩ := Ag h
         refine dd rfl (Cm Awj (Ab rfl (Ab rfl Af)) rfl (Oj hv12)) (dv rfl (Aa Aav rfl) (dv rfl (Aa Pw rfl) (dv rfl (Ae I9 rfl (.lp _ _ _ rfl) rfl) ?_)))
         obtain ⟨v13,hv13,h⟩ := Ag h
         refine dd rfl (Cm Aqu (Ab rfl (Ab rfl Af)) rfl (Ji hv13)) (dv rfl (K5 rfl) (Zy (Ac ?_)))
         exact ⟨v13,_,h,⟨rfl,trivial⟩,rfl⟩
        ·refine Bi (Ac ?_)
         exact ⟨b9,_,h,⟨rfl,trivial⟩,rfl⟩
      ·skip
       refine ccI h rfl (fun h => ?_) (fun h => ?_)
       ·refine Az (rm 1 rfl (sv rfl (Aa Aft rfl) (sv rfl (Ae I9 rfl (.lp _ _ _ rfl) rfl) ?_)))
        obtain ⟨v14,hv14,h⟩ := Ag h
        refine Av rfl Aqu (Ab rfl (Ab rfl Af)) (Ao rfl) (Ji hv14) (rm 1 rfl (Al ?_))
        exact ⟨v14,_,h,⟨rfl,rfl,rfl,trivial⟩,rfl⟩
       ·refine Bi (Ac ?_)
        exact ⟨b8,_,h,⟨rfl,rfl,rfl,trivial⟩,rfl⟩
     ·skip
      refine ccI h rfl (fun h => ?_) (fun h => ?_)
      ·refine Az (rm 1 rfl (sv rfl (Aa Afy rfl) (sv rfl (Ae I9 rfl (.lp _ _ _ rfl) rfl) ?_)))
       obtain ⟨v15,hv15,h⟩ := Ag h
       refine Av rfl Aqu (Ab rfl (Ab rfl Af)) (Ao rfl) (Ji hv15) (rm 1 rfl (Al ?_))
       exact ⟨v15,_,h,⟨rfl,rfl,rfl,trivial⟩,rfl⟩
      ·refine Bi (Ac ?_)
       exact ⟨b7,_,h,⟨rfl,rfl,rfl,trivial⟩,rfl⟩
    ·skip
     refine ccI h rfl (fun h => ?_) (fun h => ?_)
     ·refine Az (rm 1 rfl (sv rfl (Aa Aiz rfl) (sv rfl (Ae ti4 rfl (.lp _ _ _ rfl) rfl) ?_)))
      obtain ⟨v16,hv16,h⟩ := Ag h
      refine Av rfl Awj (Ab rfl (Ab rfl Af)) (Ao rfl) (Oj hv16) (rm 1 rfl (Al ?_))
      exact ⟨v16,_,h,⟨rfl,rfl,rfl,trivial⟩,rfl⟩
     ·refine Bi (Ac ?_)
      exact ⟨b6,_,h,⟨rfl,rfl,rfl,trivial⟩,rfl⟩
   ·skip
    refine ccI h rfl (fun h => ?_) (fun h => ?_)
    ·refine Az (rm 1 rfl (fl Akz ti3 rfl rfl rfl rfl rfl rfl (sv rfl (Dc rfl Tryz.underlying3 Tryz.underlying112 rfl) ?_)))
     obtain ⟨v17,hv17,h⟩ := Ag h
     refine Av rfl Adz (Ab rfl (Ab rfl (Ab rfl Af))) (Ao rfl) (Ez hv17) (rm 1 rfl (Al ?_))
     exact ⟨v17,_,h,⟨rfl,rfl,rfl,trivial⟩,rfl⟩
    ·refine Bi (Ac ?_)
     exact ⟨b5,_,h,⟨rfl,rfl,rfl,trivial⟩,rfl⟩
  ·skip
   refine ccI h rfl (fun h => ?_) (fun h => ?_)
   ·refine Az (rm 1 rfl (fl Aj9 ti3 rfl rfl rfl rfl rfl rfl (sv rfl (Dc rfl Tryz.underlying3 Tryz.underlying112 rfl) ?_)))
    obtain ⟨v18,hv18,h⟩ := Ag h
    refine Av rfl Adz (Ab rfl (Ab rfl (Ab rfl Af))) (Ao rfl) (Ez hv18) (rm 1 rfl (Al ?_))
    exact ⟨v18,_,h,⟨rfl,rfl,rfl,trivial⟩,rfl⟩
   ·refine Bi (Ac ?_)
    exact ⟨v4,_,h,⟨rfl,rfl,rfl,trivial⟩,rfl⟩
def Ot (a0 : List UInt8) : Option G6 :=
 (J1 a0).bind fun v1 => some (G6.mk (Ma.mk (a0.length : Int) v1) a0)
theorem Xp {a0 : List UInt8} {r : G6} (h : Ot a0 = some r) : Bl Tryz.prog 43 [.one (.sl a0.length (a0.flatMap eU8))] (· = .s (.agg (el r))) := by
 unfold Ot at h
 refine Au Tryz.func43 rfl (nt := 10) rfl (Nbl rfl) ?_
 intro w0 S0
 refine csr (Bw rfl Yk (Al (csr (rm 1 rfl (sv rfl (Aq Mi rfl) (sv rfl (Bc rfl) ?_))))))
 obtain ⟨v1,hv1,h⟩ := Ag h
 refine Av rfl Azj (Ab rfl Af) (Ao rfl) (Q0 hv1) (sv rfl (Be Axv Aw8 (Ah rfl (Ah rfl Ay)) (.cons _ _ _ _ _ _ _ rfl rfl (Nbl rfl) (.cons _ _ _ _ _ _ _ rfl rfl (Nbl rfl) (.nil _)))) (rm 1 rfl (sv rfl (Be Yk Ahb (Ah rfl (Ah rfl Ay)) (.cons _ _ _ _ _ _ _ rfl rfl (Nbl rfl) (.cons _ _ _ _ _ _ _ rfl rfl (Nbl rfl) (.nil _)))) (An Abi rfl rfl rfl rfl (Nbl rfl) (Bs [.box [Ii6 (a0.length : Int),.i .u32 (v1.toNat : Int),.sl a0.length (a0.flatMap eU8)]] rfl (Al (Bg ?_)))))))
 cases SJ h
 exact dnA rfl Aeh rfl (.lp _ _ _ rfl) (Nbl rfl) rfl rfl
def Ko (a0 : List UInt8) (a1 : List UInt8) : Option ((List UInt8) × Int) :=
 if (decide (512 < (a1.length : Int))) then (some (([] : List UInt8),5)) else ((Ot a1).bind fun v1 => (Et ([] : List UInt8) (BitVec.ofInt 64 v1.head_.size_) 2).bind fun v2 => (Et v2 (v1.head_.sum_.setWidth 64) 4).bind fun v3 => (E1 [a0,v3,v1.payload_]).bind fun v4 => some (v4,0))
theorem P4 {a0 : List UInt8} {a1 : List UInt8} {r : (List UInt8) × Int} (h : Ko a0 a1 = some r) : Bl Tryz.prog 17 [.one (.sl a0.length (a0.flatMap eU8)),.one (.sl a1.length (a1.flatMap eU8))] (· = .tup [.one (.sl r.1.length (r.1.flatMap eU8)),.one (Ii6 r.2)]) := by
 unfold Ko at h
 refine Au Tryz.func17 rfl (nt := 30) rfl (Nbl rfl) ?_
 intro w0 S0
 refine csr (rm 2 rfl (Al (Bp (csr (rm 1 rfl (sv rfl (Aq Mi rfl) (sv rfl (Dr rfl rfl) (Al (ccI h rfl (fun h => ?_) (fun h => ?_))))))))))
 ·refine csr (rm 2 rfl (Al (Bg (Ak ?_))))
  cases SJ h
  refine ⟨Or.inr rfl,_,_,_,(Aj (Cu.tmp _ _ rfl) (Aj (Cu.tmp _ _ rfl) As)),(O4 rfl),?_⟩
  rfl
 ·refine Bi (Ac (csr (sv rfl (Bc rfl) ?_)))
  obtain ⟨v1,hv1,h⟩ := Ag h
  refine Av rfl Azv (Ab rfl Af) (Ao rfl) (Xp hv1) (Bw rfl Yk (An Abi rfl rfl rfl rfl (Nbl rfl) (Bs [.box (el v1)] rfl (Al (csr (sv rfl (Aa Rz rfl) (fl Wn ti3 rfl rfl rfl rfl rfl rfl (sv rfl (Dc rfl Tryz.underlying3 Tryz.underlying112 rfl) ?_))))))))
  obtain ⟨v2,hv2,h⟩ := Ag h
  refine Av rfl Adz (Ab rfl (Ab rfl (Ab rfl Af))) (O4 rfl) (Ez hv2) (rm 1 rfl (Al (csr (rm 1 rfl (sv rfl (Aa Rz rfl) (fl Ad6 Aqq rfl rfl rfl rfl rfl rfl (sv rfl (Pz (k := .u32) (a := v1.head_.sum_) rfl Tryz.underlying117 Tryz.underlying112 rfl rfl) ?_)))))))
  obtain ⟨v3,hv3,h⟩ := Ag h
  refine Av rfl Adz (Ab rfl (Ab rfl (Ab rfl Af))) (Ao rfl) (Ez hv3) (rm 1 rfl (Al (csr (rm 2 rfl (sv rfl (Aa Aa5 rfl) (sv rfl (Ae I9 rfl (.lp _ _ _ rfl) rfl) ?_))))))
  refine Vi (out := ([a0,v3,v1.payload_] : List (List UInt8)).flatMap (eL eU8)) rfl Tryz.underlying124 Ar8 (Ah rfl (Ah rfl (Ah rfl Ay))) (.cons _ _ _ _ _ _ _ rfl rfl (Nbl rfl) (.cons _ _ _ _ _ _ _ rfl rfl (Nbl rfl) (.cons _ _ _ _ _ _ _ rfl rfl (Nbl rfl) (.nil _)))) rfl (by decide) ?_
  refine Ab7 28 rfl (by (repeat' first | exact Kf.nil _ | apply Kf.cons | apply Ke.one | apply Ke.agg | exact Em.nil | exact Em.ls _ _ _ _ _ _ rfl (A7 (f := (eL eU8)) (fun _ => rfl) ([a0,v3,v1.payload_] : List (List UInt8))).symm | exact Em.ls _ _ _ _ _ _ rfl (A7 (f := (eL eU8)) (fun _ => rfl) _).symm | exact Em.id _ rfl | exact Dv.nil _ | apply Dv.cons)) ?_
  obtain ⟨v4,hv4,h⟩ := Ag h
  refine Da (x' := .s (.one (.ls 2 v4.length))) (M' := [.box (el v1),.arr 33 1 ([a0,v3,v1.payload_].flatMap (eL eU8)).length ([a0,v3,v1.payload_].flatMap (eL eU8)),.arr 5 1 0 (v4.flatMap eU8)]) [] rfl Au9 (.func _) (Ab rfl Af) (Jn hv4) rfl rfl (by decide) rfl rfl rfl ?_
  refine rm 2 rfl (Al (Bg ?_))
  cases SJ h
  refine ⟨Or.inr rfl,_,_,_,(Aj (Cu.tmp _ _ rfl) (Aj (Cu.tmp _ _ rfl) As)),(by (repeat' first | exact Kf.nil _ | apply Kf.cons | apply Ke.one | apply Ke.agg | exact Em.nil | exact Em.ls _ _ _ _ _ _ rfl (A7 (f := (eL eU8)) (fun _ => rfl) _).symm | exact Em.ls _ _ _ _ _ _ rfl (A7 (f := eU8) (fun _ => rfl) _).symm | exact Em.id _ rfl | exact Dv.nil _ | apply Dv.cons)),?_⟩
  rfl
def Fp (a0 : Ad) : Option Ad :=
 (M1 a0.Req).bind fun v1 => if (!decide (v1.2 = 0)) then ((Ch a0).bind fun v2 => some v2) else ((Ko a0.Out v1.1).bind fun v3 => if (!decide (v3.2 = 0)) then ((Ch a0).bind fun v4 => some v4) else (some ({a0 with Out := v3.1})))
theorem Nw {a0 : Ad} {r : Ad} (h : Fp a0 = some r) : Bl Tryz.prog 70 [.agg (el a0)] (· = .s (.agg (el r))) := by
 unfold Fp at h
 refine Au Tryz.func70 rfl (nt := 30) rfl (Nbl rfl) ?_
 intro w0 S0
 refine csr (Ih rfl rfl (Bw rfl O1 (Al (csr (sv rfl (Aa Hz rfl) (sv rfl (Ai Agc rfl (.lp _ _ _ rfl) (Nbl rfl)) ?_))))))
 obtain ⟨v1,hv1,h⟩ := Ag h
 refine Av rfl Azr (Ab rfl Af) (Ao rfl) (Xm hv1) (sv rfl (Gc rfl) (sv rfl (A4 rfl rfl) (sv rfl (A4 rfl rfl) (rm 2 rfl (Al (Bp (csr (rm 1 rfl (sv rfl (Bt rfl rfl) (Al (ccI h rfl (fun h => ?_) (fun h => ?_))))))))))))
 ·refine csr (sv rfl (Ai B6 rfl (.lp _ _ _ rfl) (Nbl rfl)) ?_)
  obtain ⟨v2,hv2,h⟩ := Ag h
  refine Av rfl Art (Ab rfl Af) (Ao rfl) (Dt hv2) (An E2 rfl rfl rfl rfl (Nbl rfl) (Bs [.box (el a0),.box (el v2)] rfl (Al (Bg (Ak ?_)))))
  cases SJ h
  exact dnA rfl B6 rfl (.lp _ _ _ rfl) (Nbl rfl) rfl rfl
 ·refine Bi (Ac (csr (fl Rt I9 rfl rfl rfl rfl rfl rfl (sv rfl (Bc rfl) ?_))))
  obtain ⟨v3,hv3,h⟩ := Ag h
  refine Av rfl Axc (Ab rfl (Ab rfl Af)) (Ao rfl) (P4 hv3) (sv rfl (Gc rfl) (sv rfl (A4 rfl rfl) (sv rfl (A4 rfl rfl) (rm 2 rfl (Al (Bp (csr (rm 1 rfl (sv rfl (Bt rfl rfl) (Al (ccI h rfl (fun h => ?_) (fun h => ?_))))))))))))
  ·refine csr (sv rfl (Ai B6 rfl (.lp _ _ _ rfl) (Nbl rfl)) ?_)
   obtain ⟨v4,hv4,h⟩ := Ag h
   refine Av rfl Art (Ab rfl Af) (Ao rfl) (Dt hv4) (An E2 rfl rfl rfl rfl (Nbl rfl) (Bs [.box (el a0),.box (el v4)] rfl (Al (Bg (Ak ?_)))))
   cases SJ h
   exact dnA rfl B6 rfl (.lp _ _ _ rfl) (Nbl rfl) rfl rfl
  ·refine Bi (Ac (csr (rm 1 rfl (sv rfl (Aa Rt rfl) (An Auy rfl rfl rfl rfl (Nbl rfl) (Bs [.box (el {a0 with Out := v3.1}),.box Zba] rfl (Al (csr (sv rfl (Ai B6 rfl (.lp _ _ _ rfl) (Nbl rfl)) (An E2 rfl rfl rfl rfl (Nbl rfl) (Bs [.box (el {a0 with Out := v3.1}),.box (el {a0 with Out := v3.1})] rfl (Al (Bg ?_)))))))))))))
   cases SJ h
   exact dnA rfl B6 rfl (.lp _ _ _ rfl) (Nbl rfl) rfl rfl
def Hb (a0 : Ad) (a1 : B7) (b1 : Unit) : Option Ad :=
 (Hg a0.Cfg.Plan 0).bind fun v2 => (Fp ({a0 with Seq := (wI (a0.Seq + 1)),Sent := 0,Left := v2.1,Req := {a1 with Seq := a0.Seq}})).bind fun v3 => some v3
def Cc (a0 : Ad) (a1 : B7) : Option Ad :=
 if (decide (4294967295 < a0.Seq)) then ((Ch a0).bind fun v4 => some v4) else ((E6 a0).bind fun v5 => if v5 then ((Ch a0).bind fun v6 => some v6) else (Hb a0 a1 ()))
theorem Dd {a0 : Ad} {a1 : B7} {r : Ad} (h : Cc a0 a1 = some r) : Bl Tryz.prog 35 [.agg (el a0),.agg (el a1)] (· = .s (.agg (el r))) := by
 unfold Cc at h
 refine Au Tryz.func35 rfl (nt := 34) rfl (Nbl rfl) ?_
 intro w0 S0
 refine csr (Ih rfl rfl (Ih rfl rfl (Bw rfl O1 (Al (Bp (Bp (Jk (Unit) (fun b1 => [(2,.s (.one (.lp 0 0))),(3,.s (.one (.lp 1 0))),(4,.s (.one (.lp 2 0)))]) (fun b1 => [.box (el a0),.box (el a1),.box Zba]) (fun b1 => Hb a0 a1 b1 = some r) (fun _ _ => A6 rfl) (fun _ _ => Ar rfl) (fun _ _ => Nbl rfl) (fun b1 h => ?_) ?_)))))))
 ·unfold Hb at h
  refine csr (fl Yw ti3 rfl rfl rfl rfl rfl rfl (sv rfl (Aa Pp rfl) (An sz3 rfl rfl rfl rfl (Nbl rfl) (Bs [.box (el a0),.box (el {a1 with Seq := a0.Seq}),.box Zba] rfl (Al (csr (fl Yw ti3 rfl rfl rfl rfl rfl rfl (sv rfl (B4 rfl rfl) (sv rfl (Aa Yw rfl) (An sz3 rfl rfl rfl rfl (Nbl rfl) (Bs [.box (el {a0 with Seq := wI (a0.Seq + 1)}),.box (el {a1 with Seq := a0.Seq}),.box Zba] rfl (Al (csr (sv rfl (Ai Agc rfl (.lp _ _ _ rfl) (Nbl rfl)) (sv rfl (Aa Hz rfl) (An Alq rfl rfl rfl rfl (Nbl rfl) (Bs [.box (el {a0 with Seq := wI (a0.Seq + 1),Req.Kind := a1.Kind,Req.Seq := a0.Seq,Req.Token := a1.Token,Req.Attempt := a1.Attempt,Req.RO := a1.RO,Req.Key := a1.Key,Req.Val := a1.Val,Req.Rng := a1.Rng}),.box (el {a1 with Seq := a0.Seq}),.box Zba] rfl (Al (csr (sv rfl (Aa Aay rfl) (An sz3 rfl rfl rfl rfl (Nbl rfl) (Bs [.box (el {a0 with Seq := wI (a0.Seq + 1),Sent := 0,Req.Kind := a1.Kind,Req.Seq := a0.Seq,Req.Token := a1.Token,Req.Attempt := a1.Attempt,Req.RO := a1.RO,Req.Key := a1.Key,Req.Val := a1.Val,Req.Rng := a1.Rng}),.box (el {a1 with Seq := a0.Seq}),.box Zba] rfl (Al (csr (sv rfl (Aa Sd rfl) (sv rfl (Aa Ur rfl) (sv rfl (Ai Aos rfl (.lp _ _ _ rfl) (Nbl rfl)) ?_)))))))))))))))))))))))))))
  obtain ⟨v2,hv2,h⟩ := Ag h
  refine Av rfl Avc (Ab rfl (Ab rfl Af)) (Ao rfl) (Mg hv2) (sv rfl (Gc rfl) (sv rfl (A4 rfl rfl) (sv rfl (A4 rfl rfl) (sv rfl (Aa Sf rfl) (An sz3 rfl rfl rfl rfl (Nbl rfl) (Bs [.box (el {a0 with Seq := wI (a0.Seq + 1),Sent := 0,Left := v2.1,Req.Kind := a1.Kind,Req.Seq := a0.Seq,Req.Token := a1.Token,Req.Attempt := a1.Attempt,Req.RO := a1.RO,Req.Key := a1.Key,Req.Val := a1.Val,Req.Rng := a1.Rng}),.box (el {a1 with Seq := a0.Seq}),.box Zba] rfl (Al (csr (sv rfl (Ai B6 rfl (.lp _ _ _ rfl) (Nbl rfl)) ?_)))))))))
  obtain ⟨v3,hv3,h⟩ := Ag h
  refine Av rfl Ay9 (Ab rfl Af) (Ao rfl) (Nw hv3) (An E2 rfl rfl rfl rfl (Nbl rfl) (Bs [.box (el {a0 with Seq := wI (a0.Seq + 1),Sent := 0,Left := v2.1,Req.Kind := a1.Kind,Req.Seq := a0.Seq,Req.Token := a1.Token,Req.Attempt := a1.Attempt,Req.RO := a1.RO,Req.Key := a1.Key,Req.Val := a1.Val,Req.Rng := a1.Rng}),.box (el {a1 with Seq := a0.Seq}),.box (el v3)] rfl (Al (Bg ?_))))
  cases SJ h
  exact dnA rfl B6 rfl (.lp _ _ _ rfl) (Nbl rfl) rfl rfl
 ·skip
  refine Az (fl Yw ti3 rfl rfl rfl rfl rfl rfl (sv rfl (Dr rfl rfl) (rm 1 rfl (Bf 8 rfl (fun hc => ?_) (fun hc => ?_)))))
  ·replace h := Br hc h
   clear hc
   refine rm 3 rfl (Al (Ei rfl (fun _ => ?_) (fun hx => Bool.noConfusion hx)))
   refine csr (sv rfl (Ai B6 rfl (.lp _ _ _ rfl) (Nbl rfl)) ?_)
   obtain ⟨v4,hv4,h⟩ := Ag h
   refine Av rfl Art (Ab rfl Af) (Ao rfl) (Dt hv4) (An E2 rfl rfl rfl rfl (Nbl rfl) (Bs [.box (el a0),.box (el a1),.box (el v4)] rfl (Al (Bg (Ak ?_)))))
   cases SJ h
   exact dnA rfl B6 rfl (.lp _ _ _ rfl) (Nbl rfl) rfl rfl
  ·replace h := Bq hc h
   clear hc
   refine son rfl rfl rfl (sv rfl (Ai B6 rfl (.lp _ _ _ rfl) (Nbl rfl)) (son rfl rfl rfl ?_))
   obtain ⟨v5,hv5,h⟩ := Ag h
   refine Av rfl Azn (Ab rfl Af) (Ao rfl) (Ni hv5) (rm 1 rfl (Al (ccI h rfl (fun h => ?_) (fun h => ?_))))
   ·refine csr (sv rfl (Ai B6 rfl (.lp _ _ _ rfl) (Nbl rfl)) ?_)
    obtain ⟨v6,hv6,h⟩ := Ag h
    refine Av rfl Art (Ab rfl Af) (Ao rfl) (Dt hv6) (An E2 rfl rfl rfl rfl (Nbl rfl) (Bs [.box (el a0),.box (el a1),.box (el v6)] rfl (Al (Bg (Ak ?_)))))
    cases SJ h
    exact dnA rfl B6 rfl (.lp _ _ _ rfl) (Nbl rfl) rfl rfl
   ·refine Bi (Ac ?_)
    exact ⟨(),_,h,⟨rfl,rfl,rfl,trivial⟩,rfl⟩
def Ew (a0 : Ad) : Option (Ad × Int) :=
 (E9 a0).bind fun v1 => if (!v1) then (some (C4,1)) else (if (!decide (a0.Phase = 1)) then (some (C4,7)) else ((Cc ({a0 with Phase := 2,Seq := 0}) (B7.mk 1 0 a0.Cfg.Who a0.Epoch false ([] : List UInt8) ([] : List UInt8) Bu)).bind fun v2 => some (v2,0)))
theorem N6 {a0 : Ad} {r : Ad × Int} (h : Ew a0 = some r) : Bl Tryz.prog 14 [.agg (el a0)] (· = .tup [.agg (el r.1),.one (Ii6 r.2)]) := by
 unfold Ew at h
 refine Au Tryz.func14 rfl (nt := 22) rfl (Nbl rfl) ?_
 intro w0 S0
 refine csr (Ih rfl rfl (Bw rfl O1 (rm 1 rfl (Al (Bp (csr (sv rfl (Ai B6 rfl (.lp _ _ _ rfl) (Nbl rfl)) ?_)))))))
 obtain ⟨v1,hv1,h⟩ := Ag h
 refine Av rfl Ar4 (Ab rfl Af) (Ao rfl) (Ie hv1) (sv rfl (B5 rfl) (Al (ccI h rfl (fun h => ?_) (fun h => ?_))))
 ·refine csr (sv rfl (Be O1 Agj Ay (.nil _)) (An E2 rfl rfl rfl rfl (Nbl rfl) (Bs [.box (el a0),.box Zba] rfl (rm 1 rfl (Al (Bg (Ak ?_)))))))
  cases SJ h
  refine ⟨Or.inr rfl,_,_,_,(Aj (Cu.agg _ _ _ _ _ B6 rfl (.lp _ _ _ rfl) (Nbl rfl)) (Aj (Cu.tmp _ _ rfl) As)),(O4 rfl),?_⟩
  rfl
 ·refine Bi (Ac (Bp (csr (fl G8 ti3 rfl rfl rfl rfl rfl rfl (sv rfl (Bt rfl rfl) (Al (ccI h rfl (fun h => ?_) (fun h => ?_))))))))
  ·refine csr (sv rfl (Be O1 Agj Ay (.nil _)) (An E2 rfl rfl rfl rfl (Nbl rfl) (Bs [.box (el a0),.box Zba] rfl (rm 1 rfl (Al (Bg (Ak ?_)))))))
   cases SJ h
   refine ⟨Or.inr rfl,_,_,_,(Aj (Cu.agg _ _ _ _ _ B6 rfl (.lp _ _ _ rfl) (Nbl rfl)) (Aj (Cu.tmp _ _ rfl) As)),(O4 rfl),?_⟩
   rfl
  ·refine Bi (Ac (csr (sv rfl (Aa Yw rfl) (An sz3 rfl rfl rfl rfl (Nbl rfl) (Bs [.box (el {a0 with Seq := 0}),.box Zba] rfl (Al (csr (sv rfl (Aa G8 rfl) (An sz3 rfl rfl rfl rfl (Nbl rfl) (Bs [.box (el {a0 with Phase := 2,Seq := 0}),.box Zba] rfl (Al (csr (sv rfl (Ai B6 rfl (.lp _ _ _ rfl) (Nbl rfl)) (sv rfl (Aa Sd rfl) (fl Agg ti3 rfl rfl rfl rfl rfl rfl (fl Aar ti3 rfl rfl rfl rfl rfl rfl (sv rfl (Be Adp Ahn (Ah rfl (Ah rfl (Ah rfl Ay))) (.cons _ _ _ _ _ _ _ rfl rfl (Nbl rfl) (.cons _ _ _ _ _ _ _ rfl rfl (Nbl rfl) (.cons _ _ _ _ _ _ _ rfl rfl (Nbl rfl) (.nil _))))) ?_)))))))))))))))))
   obtain ⟨v2,hv2,h⟩ := Ag h
   refine Av rfl Aq7 (Ab rfl (Ab rfl Af)) (O4 rfl) (Dd hv2) (An E2 rfl rfl rfl rfl (Nbl rfl) (Bs [.box (el {a0 with Phase := 2,Seq := 0}),.box (el v2)] rfl (rm 1 rfl (Al (Bg ?_)))))
   cases SJ h
   refine ⟨Or.inr rfl,_,_,_,(Aj (Cu.agg _ _ _ _ _ B6 rfl (.lp _ _ _ rfl) (Nbl rfl)) (Aj (Cu.tmp _ _ rfl) As)),(Ao rfl),?_⟩
   rfl
def Km (a0 : Int) (b1 : Unit) : Option (List Am) :=
 if (decide (0 < (wI (a0 - (wI (0 - 0)))))) then (if 0 < (wI (a0 - (wI (0 - 0)))) ∧ (wI (a0 - (wI (0 - 0)))) * ((40 : Nat) : Int) ≤ 281474976710656 then (if (0 : Int) ≤ 0 ∧ 0 ≤ ((List.replicate (wI (a0 - (wI (0 - 0)))).toNat Ou).length : Int) then (some ((List.replicate (wI (a0 - (wI (0 - 0)))).toNat Ou).take (0 : Int).toNat)) else none) else none) else (some ([] : List Am))
def Ky (a0 : Int) : Option (List Am) :=
 if (decide (a0 < 0)) then none else (Km a0 ())
theorem Vw {a0 : Int} {r : (List Am)} (h : Ky a0 = some r) : Hm Tryz.prog 83 [] [.one (Znl),.one (Ii6 a0)] (fun y m' => y = .s (.one (.ls 0 r.length)) ∧ m' = [.arr 94 3 0 (r.flatMap Ap)]) := by
 unfold Ky at h
 refine C3 Tryz.func83 rfl (nt := 27) rfl (Nbl rfl) ?_
 intro w0 S0 X0 H0
 refine csr (rm 1 rfl (Al (Bp (csr (rm 1 rfl (sv rfl (Ci rfl rfl) (Al (Gg (Unit) (fun b1 => [(0,.s (.one (Znl))),(1,.s (.one (Ii6 a0)))]) (fun b1 => []) (fun b1 => Km a0 b1 = some r) (fun _ _ => A6 rfl) (fun _ _ => Ar rfl) (fun _ _ => Nbl rfl) (fun b1 h => ?_) ?_))))))))
 ·unfold Km at h
  refine Bp (csr (rm 2 rfl (sv rfl (L8 Vl rfl) (rm 1 rfl (sv rfl (Lq Vl rfl) (sv rfl (Om rfl rfl) (sv rfl (Om rfl rfl) (rm 1 rfl (Al (csr (rm 1 rfl (sv rfl (Dr rfl rfl) (Al (ccI h rfl (fun h => ?_) (fun h => ?_)))))))))))))))
  ·refine Az (rm 2 rfl (sv rfl (L8 Vl rfl) (sv rfl (Pg Vl rfl rfl) (sv rfl (Bc rfl) ?_))))
   obtain ⟨hm2,h⟩ := Dx h
   refine As4 (f := Ap) (z := Ou) rfl Tryz.underlying29 Atg Tryz.underlying3 (fun _ => rfl) rfl rfl rfl hm2 (by decide) ?_
   refine rm 1 rfl (sv rfl (Lq Vl rfl) ?_)
   obtain ⟨hs3,h⟩ := Dx h
   refine Agy (f := Ap) rfl Vl (fun _ => rfl) rfl rfl rfl rfl rfl hs3 ?_
   refine rm 1 rfl (Al (csr (rm 2 rfl (Al (Bg ?_)))))
   cases SJ h
   exact ⟨Or.inr rfl,_,[1],[.one (.ls 0 ((List.replicate (wI (a0 - (wI (0 - 0)))).toNat Ou).take (0 : Int).toNat).length)],[.arr 94 3 0 (((List.replicate (wI (a0 - (wI (0 - 0)))).toNat Ou).take (0 : Int).toNat).flatMap Ap)],(Aj (Cu.tmp _ _ rfl) As),rfl,rfl,⟨by decide,rfl⟩,rfl,rfl,⟨rfl,rfl⟩⟩
  ·refine Bi (Ac (csr (rm 2 rfl (Al ?_))))
   refine Qq 94 3 4 (by decide) rfl ?_
   refine Bg ?_
   cases SJ h
   exact ⟨Or.inr rfl,_,[0],[.one (.ls 0 ([] : List Am).length)],[.arr 94 3 0 (([] : List Am).flatMap Ap)],(Aj (Cu.tmp _ _ rfl) As),rfl,rfl,⟨by decide,rfl⟩,rfl,rfl,⟨rfl,rfl⟩⟩
 ·skip
  refine ccI h rfl (fun h => ?_) (fun h => ?_)
  ·cases h
  ·refine Bi (Ac ?_)
   exact ⟨(),_,h,⟨rfl,rfl,trivial⟩,rfl⟩
def L0 (b3 : (List Am)) : Option (List Am) :=
 some b3
def Fu (a0 : List (List Am)) (s4 : Int × (List Am)) : Option (LB (Int × (List Am)) ((List Am))) :=
 if (decide (s4.1 < (a0.length : Int))) then ((idx a0 s4.1).bind fun u5 => if (s4.2.length + u5.length) * 40 ≤ 140737488355328 then (some (.cont ((wI (s4.1 + 1)),(s4.2 ++ u5)))) else none) else (some (.brk s4.2))
def I5 (a0 : List (List Am)) (b1 : Int) : Option (List Am) :=
 (Ky b1).bind fun v2 => (Ec (Fu a0) fuel (0,v2)).bind fun e7 => L0 e7
def Fq (a0 : List (List Am)) (s8 : Int × Int) : Option (LB (Int × Int) (Int)) :=
 if (decide (s8.2 < (a0.length : Int))) then ((idx a0 s8.2).bind fun u9 => if (decide ((wI (s8.1 + (u9.length : Int))) < 0)) then none else (some (.cont ((wI (s8.1 + (u9.length : Int))),(wI (s8.2 + 1)))))) else (some (.brk s8.1))
def Jb (a0 : List (List Am)) : Option (List Am) :=
 (Ec (Fq a0) fuel (0,0)).bind fun e10 => I5 a0 e10
theorem T9 {a0 : List (List Am)} {r : (List Am)} (h : Jb a0 = some r) : Hm Tryz.prog 55 [] [.one (.sl a0.length (a0.flatMap (eL Ap)))] (fun y m' => y = .s (.one (.ls 0 r.length)) ∧ m' = [.arr 94 3 0 (r.flatMap Ap)]) := by
 unfold Jb at h
 refine C3 Tryz.func55 rfl (nt := 36) rfl (Nbl rfl) ?_
 intro w0 S0 X0 H0
 refine csr (rm 1 rfl (Al (csr (rm 1 rfl (Al (Bp (csr (rm 1 rfl (sv rfl (Aq Al6 rfl) (rm 1 rfl (Al (Gg (Int) (fun b1 => [(0,.s (.one (.sl a0.length (a0.flatMap (eL Ap))))),(3,.s (.one (Ii6 b1)))]) (fun b1 => []) (fun b1 => I5 a0 b1 = some r) (fun _ _ => A6 rfl) (fun _ _ => Ar rfl) (fun _ _ => Nbl rfl) (fun b1 h => ?_) ?_))))))))))))
 ·unfold I5 at h
  refine csr (sv rfl (Bc rfl) ?_)
  obtain ⟨v2,hv2,h⟩ := Ag h
  refine Da (x' := .s (.one (.ls 0 v2.length))) (M' := [.arr 94 3 0 (v2.flatMap Ap)]) [] rfl A0u (.func _) (Ab rfl (Ab rfl Af)) (Vw hv2) rfl rfl (by decide) rfl rfl rfl ?_
  refine rm 1 rfl (Al (Bp (csr (rm 1 rfl (sv rfl (Aq Al6 rfl) (rm 1 rfl (Al (Gg ((List Am)) (fun b3 => [(6,.s (.one (.ls 0 b3.length)))]) (fun b3 => [.arr 94 3 0 (b3.flatMap Ap)]) (fun b3 => L0 b3 = some r) (fun _ _ => A6 rfl) (fun _ _ => Ar rfl) (fun _ _ => Nbl rfl) (fun b3 h => ?_) ?_))))))))
  ·unfold L0 at h
   refine csr (rm 2 rfl (Al (Bg ?_)))
   obtain rfl := SJ h
   exact ⟨Or.inr rfl,_,[0],[.one (.ls 0 b3.length)],[.arr 94 3 0 (b3.flatMap Ap)],(Aj (Cu.tmp _ _ rfl) As),rfl,rfl,⟨by decide,rfl⟩,rfl,rfl,⟨rfl,rfl⟩⟩
  ·skip
   refine B3 ?_
   obtain ⟨x4,hx4,ho4⟩ := Ag h
   refine Ct (G := Nat × (Int × (List Am))) (fun g => [(6,.s (.one (.ls 0 g.2.2.length))),(25,.s (.one (.sl a0.length (a0.flatMap (eL Ap))))),(26,.s (.one (Ii6 (a0.length : Int)))),(27,.s (.one (Ii6 g.2.1)))]) (fun g => [.arr 94 3 0 (g.2.2.flatMap Ap)]) (fun g => Ec (Fu a0) g.1 g.2 = some x4) (fun g => g.1) (fuel,(0,v2)) hx4 ⟨rfl,rfl,rfl,rfl,trivial⟩ [] rfl (fun _ _ => A6 rfl) (fun _ _ => Ar rfl) (fun _ _ => Nbl rfl) ?_
   clear hx4 h
   rintro ⟨n4,s4⟩ h
   obtain ⟨n4,y4,rfl,h,hk4⟩ := Fj h
   unfold Fu at h
   refine csr (sv rfl (Ci rfl rfl) (Al (Bp (ccI h rfl (fun h => ?_) (fun h => ?_)))))
   ·refine Bi (Ac (Bp (B3 (Bp (Az ?_)))))
    obtain ⟨u5,hu5,h⟩ := Ag h
    refine sv rfl (Db (f := (eL Ap)) Al6 (fun _ => rfl) rfl rfl rfl rfl hu5) ?_
    refine sv rfl (Ae Zp rfl (.cp _) rfl) (rm 1 rfl (Al (Az (rm 1 rfl (sv rfl (Bc rfl) ?_)))))
    obtain ⟨hb6,h⟩ := Dx h
    refine Af4 (f := Ap) (xs := s4.2) (us := u5) rfl Tryz.underlying29 Atg Ayh (fun _ => rfl) rfl rfl (.one _ _ _ _ (.id _ rfl)) rfl rfl rfl (.sl _ _ _ (A7 (f := Ap) (fun _ => rfl) _)) rfl rfl hb6 (by decide) ?_
    refine rm 1 rfl (Mp (Aw (Ac (Az (sv rfl (B4 rfl rfl) (rm 1 rfl (Al ?_)))))))
    cases SJ h
    exact ⟨(n4,((wI (s4.1 + 1)),(s4.2 ++ u5))),_,hk4,⟨rfl,rfl,rfl,rfl,trivial⟩,rfl,Nat.lt_succ_self _⟩
   ·refine Kk (Bd (Bd (B8 (Ac ?_))))
    cases SJ h
    obtain rfl : _ = x4 := hk4
    exact ⟨s4.2,_,ho4,⟨rfl,trivial⟩,rfl⟩
 ·skip
  refine B3 ?_
  obtain ⟨x8,hx8,ho8⟩ := Ag h
  refine Ct (G := Nat × (Int × Int)) (fun g => [(0,.s (.one (.sl a0.length (a0.flatMap (eL Ap))))),(3,.s (.one (Ii6 g.2.1))),(9,.s (.one (.sl a0.length (a0.flatMap (eL Ap))))),(10,.s (.one (Ii6 (a0.length : Int)))),(11,.s (.one (Ii6 g.2.2)))]) (fun g => []) (fun g => Ec (Fq a0) g.1 g.2 = some x8) (fun g => g.1) (fuel,(0,0)) hx8 ⟨rfl,rfl,rfl,rfl,rfl,trivial⟩ [] rfl (fun _ _ => A6 rfl) (fun _ _ => Ar rfl) (fun _ _ => Nbl rfl) ?_
  clear hx8 h
  rintro ⟨n8,s8⟩ h
  obtain ⟨n8,y8,rfl,h,hk8⟩ := Fj h
  unfold Fq at h
  refine csr (sv rfl (Ci rfl rfl) (Al (Bp (ccI h rfl (fun h => ?_) (fun h => ?_)))))
  ·refine Bi (Ac (Bp (B3 (Bp (Az ?_)))))
   obtain ⟨u9,hu9,h⟩ := Ag h
   refine sv rfl (Db (f := (eL Ap)) Al6 (fun _ => rfl) rfl rfl rfl rfl hu9) ?_
   refine sv rfl (Ae Zp rfl (.cp _) rfl) (rm 1 rfl (Al (csr (rm 2 rfl (sv rfl (Aq Vl rfl) (sv rfl (B4 rfl rfl) (rm 1 rfl (Al (csr (rm 1 rfl (sv rfl (Ci rfl rfl) (Al (ccI h rfl (fun h => ?_) (fun h => ?_))))))))))))))
   ·cases h
   ·refine Bi (Aw (Ac (Az (sv rfl (B4 rfl rfl) (rm 1 rfl (Al ?_))))))
    cases SJ h
    exact ⟨(n8,((wI (s8.1 + (u9.length : Int))),(wI (s8.2 + 1)))),_,hk8,⟨rfl,rfl,rfl,rfl,rfl,trivial⟩,rfl,Nat.lt_succ_self _⟩
  ·refine Kk (Bd (Bd (B8 (Ac ?_))))
   cases SJ h
   obtain rfl : _ = x8 := hk8
   exact ⟨s8.1,_,ho8,⟨rfl,rfl,trivial⟩,rfl⟩
def Ej (a0 : Ad) : Option Ad :=
 (idx a0.Tasks 0).bind fun u1 => (Cc ({a0 with Phase := 7}) (B7.mk 9 0 u1.Token a0.Attempt false ([] : List UInt8) ([] : List UInt8) Bu)).bind fun v2 => some v2
theorem Kq {a0 : Ad} {r : Ad} (h : Ej a0 = some r) : Bl Tryz.prog 72 [.agg (el a0)] (· = .s (.agg (el r))) := by
 unfold Ej at h
 refine Au Tryz.func72 rfl (nt := 14) rfl (Nbl rfl) ?_
 intro w0 S0
 refine csr (Ih rfl rfl (Bw rfl O1 (Al (csr (sv rfl (Aa G8 rfl) (An sz3 rfl rfl rfl rfl (Nbl rfl) (Bs [.box (el {a0 with Phase := 7}),.box Zba] rfl (Al (Bp ?_)))))))))
 obtain ⟨u1,hu1,h⟩ := Ag h
 obtain ⟨v2,hv2,h⟩ := Ag h
 refine Jj [10] [0,0,2,6,14,30,0,64,254,511,1023] [[.box (el {a0 with Phase := 7}),.box Zba],[.box (el {a0 with Phase := 7}),.box (el v2)]] (by kernel_rfl) Kd (by kernel_rfl) (by decide) rfl rfl rfl rfl ?_
 refine ev (Bb 0 rfl rfl) rfl rfl (Ai B6 rfl (.lp _ _ _ rfl) (Nbl rfl)) (ev (Bb 0 rfl rfl) rfl rfl (Aa Lw rfl) (ev (Bb 0 rfl rfl) rfl rfl (Ae Zp rfl (.lp _ _ _ rfl) rfl) (ev (Bb 0 rfl rfl) rfl rfl (Db (f := Ap) Vl (fun _ => rfl) rfl rfl rfl rfl hu1) ?_)))
 refine ev (Bb 0 rfl rfl) rfl rfl (Bj Sx rfl) (ev (Bb 0 rfl rfl) rfl rfl (Ae ti3 rfl (.cp _) rfl) (ev (Bb 0 rfl rfl) rfl rfl (Aa Pd rfl) (ev (Bb 0 rfl rfl) rfl rfl (Ae ti3 rfl (.lp _ _ _ rfl) rfl) (ev (Bb 0 rfl rfl) rfl rfl (Be Adp Ahn (Ah rfl (Ah rfl (Ah rfl Ay))) (.cons _ _ _ _ _ _ _ rfl rfl (Nbl rfl) (.cons _ _ _ _ _ _ _ rfl rfl (Nbl rfl) (.cons _ _ _ _ _ _ _ rfl rfl (Nbl rfl) (.nil _))))) (ed (Bb 0 rfl rfl) rfl rfl (Vr Aq7 (Ab rfl (Ab rfl Af)) rfl (Dd hv2)) (ee0 0 rfl rfl rfl rfl (fun ζ => ?_) ?_))))))
 ·refine An E2 rfl rfl rfl rfl (Nbl rfl) (Bs [.box (el {a0 with Phase := 7}),.box (el v2)] rfl ?_)
  exact Sv
 refine Z1 (Ac (Bg ?_))
 cases SJ h
 exact dnA rfl B6 rfl (.lp _ _ _ rfl) (Nbl rfl) rfl rfl
def En (a0 : Ad) : Option Ad :=
 (idx a0.Tasks 0).bind fun u1 => (Cc ({a0 with Phase := 3,Risk := false,St := G4}) (B7.mk 2 0 u1.Token a0.Attempt u1.Prog.RO ([] : List UInt8) ([] : List UInt8) Bu)).bind fun v2 => some v2
theorem M3 {a0 : Ad} {r : Ad} (h : En a0 = some r) : Bl Tryz.prog 71 [.agg (el a0)] (· = .s (.agg (el r))) := by
 unfold En at h
 refine Au Tryz.func71 rfl (nt := 22) rfl (Nbl rfl) ?_
 intro w0 S0
 refine csr (Ih rfl rfl (Bw rfl O1 (Al (csr (sv rfl (Be Alm Auh Ay (.nil _)) (sv rfl (Aa Qs rfl) (An Zq rfl rfl rfl rfl (Nbl rfl) (Bs [.box (el {a0 with St.PC := 0,St.Regs.R0 := 0,St.Regs.R1 := 0,St.Regs.R2 := 0,St.Regs.R3 := 0,St.Regs.R4 := 0,St.Regs.R5 := 0,St.Regs.R6 := 0,St.Regs.R7 := 0,St.Stopped := false}),.box Zba] rfl (Al (csr (sv rfl (Aa Yi rfl) (An sz4 rfl rfl rfl rfl (Nbl rfl) (Bs [.box (el {a0 with Risk := false,St.PC := 0,St.Regs.R0 := 0,St.Regs.R1 := 0,St.Regs.R2 := 0,St.Regs.R3 := 0,St.Regs.R4 := 0,St.Regs.R5 := 0,St.Regs.R6 := 0,St.Regs.R7 := 0,St.Stopped := false}),.box Zba] rfl (Al (csr (sv rfl (Aa G8 rfl) (An sz3 rfl rfl rfl rfl (Nbl rfl) (Bs [.box (el {a0 with Phase := 3,Risk := false,St.PC := 0,St.Regs.R0 := 0,St.Regs.R1 := 0,St.Regs.R2 := 0,St.Regs.R3 := 0,St.Regs.R4 := 0,St.Regs.R5 := 0,St.Regs.R6 := 0,St.Regs.R7 := 0,St.Stopped := false}),.box Zba] rfl (Al (csr (sv rfl (Aa Lw rfl) (sv rfl (Ae Zp rfl (.lp _ _ _ rfl) rfl) ?_))))))))))))))))))))))
 obtain ⟨u1,hu1,h⟩ := Ag h
 refine sv rfl (Db (f := Ap) Vl (fun _ => rfl) rfl rfl rfl rfl hu1) ?_
 refine sv rfl (Cb (ys := [Ii6 u1.Token,.b u1.Prog.RO,.sl u1.Prog.Ops.length (u1.Prog.Ops.flatMap Ce)]) Aqr rfl (.cp _) rfl rfl) (Bw rfl Asb (An Au2 rfl rfl rfl rfl (Nbl rfl) (Bs [.box (el {a0 with Phase := 3,Risk := false,St.PC := 0,St.Regs.R0 := 0,St.Regs.R1 := 0,St.Regs.R2 := 0,St.Regs.R3 := 0,St.Regs.R4 := 0,St.Regs.R5 := 0,St.Regs.R6 := 0,St.Regs.R7 := 0,St.Stopped := false}),.box Zba,.box (el u1)] rfl (Al (csr (sv rfl (Ai B6 rfl (.lp _ _ _ rfl) (Nbl rfl)) (fl Sx ti3 rfl rfl rfl rfl rfl rfl (fl Pd ti3 rfl rfl rfl rfl rfl rfl (sv rfl (Aa Y0 rfl) (fl Ajg ti4 rfl rfl rfl rfl rfl rfl (sv rfl (Be Adp Ahn (Ah rfl (Ah rfl (Ah rfl (Ah rfl Ay)))) (.cons _ _ _ _ _ _ _ rfl rfl (Nbl rfl) (.cons _ _ _ _ _ _ _ rfl rfl (Nbl rfl) (.cons _ _ _ _ _ _ _ rfl rfl (Nbl rfl) (.cons _ _ _ _ _ _ _ rfl rfl (Nbl rfl) (.nil _)))))) ?_)))))))))))
 obtain ⟨v2,hv2,h⟩ := Ag h
 refine Av rfl Aq7 (Ab rfl (Ab rfl Af)) (O4 rfl) (Dd hv2) (An E2 rfl rfl rfl rfl (Nbl rfl) (Bs [.box (el {a0 with Phase := 3,Risk := false,St.PC := 0,St.Regs.R0 := 0,St.Regs.R1 := 0,St.Regs.R2 := 0,St.Regs.R3 := 0,St.Regs.R4 := 0,St.Regs.R5 := 0,St.Regs.R6 := 0,St.Regs.R7 := 0,St.Stopped := false}),.box (el v2),.box (el u1)] rfl (Al (Bg ?_))))
 cases SJ h
 exact dnA rfl B6 rfl (.lp _ _ _ rfl) (Nbl rfl) rfl rfl
def D8 (a0 : Ad) : Option Ad :=
 if (decide ((a0.Tasks.length : Int) = 0)) then (some ({a0 with Phase := 0,Left := 0})) else (if (decide (0 < a0.Attempt)) then ((Ej a0).bind fun v1 => some v1) else ((En ({a0 with Attempt := 1})).bind fun v2 => some v2))
theorem Jt {a0 : Ad} {r : Ad} (h : D8 a0 = some r) : Bl Tryz.prog 56 [.agg (el a0)] (· = .s (.agg (el r))) := by
 unfold D8 at h
 refine Au Tryz.func56 rfl (nt := 18) rfl (Nbl rfl) ?_
 intro w0 S0
 refine csr (Ih rfl rfl (Bw rfl O1 (Al (Bp (csr (fl Lw Zp rfl rfl rfl rfl rfl rfl (sv rfl (Aq Vl rfl) (sv rfl (Bn rfl rfl) (Al (ccI h rfl (fun h => ?_) (fun h => ?_)))))))))))
 ·refine csr (sv rfl (Aa G8 rfl) (An sz3 rfl rfl rfl rfl (Nbl rfl) (Bs [.box (el {a0 with Phase := 0}),.box Zba] rfl (Al (csr (sv rfl (Aa Sf rfl) (An sz3 rfl rfl rfl rfl (Nbl rfl) (Bs [.box (el {a0 with Phase := 0,Left := 0}),.box Zba] rfl (Al (csr (sv rfl (Ai B6 rfl (.lp _ _ _ rfl) (Nbl rfl)) (An E2 rfl rfl rfl rfl (Nbl rfl) (Bs [.box (el {a0 with Phase := 0,Left := 0}),.box (el {a0 with Phase := 0,Left := 0})] rfl (Al (Bg (Ak ?_))))))))))))))))
  cases SJ h
  exact dnA rfl B6 rfl (.lp _ _ _ rfl) (Nbl rfl) rfl rfl
 ·refine Bi (Ac (Bp (csr (fl Pd ti3 rfl rfl rfl rfl rfl rfl (sv rfl (Dr rfl rfl) (Al (ccI h rfl (fun h => ?_) (fun h => ?_))))))))
  ·refine csr (sv rfl (Ai B6 rfl (.lp _ _ _ rfl) (Nbl rfl)) ?_)
   obtain ⟨v1,hv1,h⟩ := Ag h
   refine Av rfl Axi (Ab rfl Af) (Ao rfl) (Kq hv1) (An E2 rfl rfl rfl rfl (Nbl rfl) (Bs [.box (el a0),.box (el v1)] rfl (Al (Bg (Ak ?_)))))
   cases SJ h
   exact dnA rfl B6 rfl (.lp _ _ _ rfl) (Nbl rfl) rfl rfl
  ·refine Bi (Ac (csr (sv rfl (Aa Pd rfl) (An sz3 rfl rfl rfl rfl (Nbl rfl) (Bs [.box (el {a0 with Attempt := 1}),.box Zba] rfl (Al (csr (sv rfl (Ai B6 rfl (.lp _ _ _ rfl) (Nbl rfl)) ?_))))))))
   obtain ⟨v2,hv2,h⟩ := Ag h
   refine Av rfl Ayp (Ab rfl Af) (Ao rfl) (M3 hv2) (An E2 rfl rfl rfl rfl (Nbl rfl) (Bs [.box (el {a0 with Attempt := 1}),.box (el v2)] rfl (Al (Bg ?_))))
   cases SJ h
   exact dnA rfl B6 rfl (.lp _ _ _ rfl) (Nbl rfl) rfl rfl
def Jm (b5 : Ad × (List Am)) : Option (Ad × Int) :=
 some (b5.1,0)
def D1 (a0 : Ad) (a1 : Am) : Option (Ad × Int) :=
 (E9 a0).bind fun v1 => if (!v1) then (some (C4,1)) else ((Dq a1).bind fun v2 => if (!v2) then (some (C4,1)) else (if (decide (a0.Phase = 11)) then (some (C4,13)) else ((F0 a0.Tasks a1.Token).bind fun v3 => if (decide (0 ≤ v3)) then (some (C4,7)) else (if (decide (8 ≤ (a0.Tasks.length : Int))) then (some (C4,8)) else ((Jb [a0.Tasks,[a1]]).bind fun v4 => if (decide (a0.Phase = 0)) then ((D8 (Ad.mk (Cx.mk a0.Cfg.Who (D3.mk a0.Cfg.Plan.Wait a0.Cfg.Plan.Most a0.Cfg.Plan.Tries) a0.Cfg.Attempts a0.Cfg.Budget) v4 a0.Phase a0.Epoch a0.Seq a0.Attempt a0.Sent a0.Left a0.Resets a0.Risk (A1.mk a0.St.PC (Ee.mk a0.St.Regs.R0 a0.St.Regs.R1 a0.St.Regs.R2 a0.St.Regs.R3 a0.St.Regs.R4 a0.St.Regs.R5 a0.St.Regs.R6 a0.St.Regs.R7) a0.St.Stopped) (B7.mk a0.Req.Kind a0.Req.Seq a0.Req.Token a0.Req.Attempt a0.Req.RO a0.Req.Key a0.Req.Val (B2.mk a0.Req.Rng.Lo a0.Req.Rng.Hi a0.Req.Rng.Open)) (A0.mk a0.In.Buf a0.In.Dead) a0.Out a0.Done a0.Tried)).bind fun v6 => Jm (v6,v4)) else (Jm ((Ad.mk (Cx.mk a0.Cfg.Who (D3.mk a0.Cfg.Plan.Wait a0.Cfg.Plan.Most a0.Cfg.Plan.Tries) a0.Cfg.Attempts a0.Cfg.Budget) v4 a0.Phase a0.Epoch a0.Seq a0.Attempt a0.Sent a0.Left a0.Resets a0.Risk (A1.mk a0.St.PC (Ee.mk a0.St.Regs.R0 a0.St.Regs.R1 a0.St.Regs.R2 a0.St.Regs.R3 a0.St.Regs.R4 a0.St.Regs.R5 a0.St.Regs.R6 a0.St.Regs.R7) a0.St.Stopped) (B7.mk a0.Req.Kind a0.Req.Seq a0.Req.Token a0.Req.Attempt a0.Req.RO a0.Req.Key a0.Req.Val (B2.mk a0.Req.Rng.Lo a0.Req.Rng.Hi a0.Req.Rng.Open)) (A0.mk a0.In.Buf a0.In.Dead) a0.Out a0.Done a0.Tried),v4)))))))
theorem Qd {a0 : Ad} {a1 : Am} {r : Ad × Int} (h : D1 a0 a1 = some r) : Bl Tryz.prog 21 [.agg (el a0),.agg (el a1)] (· = .tup [.agg (el r.1),.one (Ii6 r.2)]) := by
 unfold D1 at h
 refine Au Tryz.func21 rfl (nt := 48) rfl (Nbl rfl) ?_
 intro w0 S0
 refine csr (Ih rfl rfl (Ih rfl rfl (Bw rfl O1 (rm 1 rfl (Al (Bp (B3 (csr (sv rfl (Ai B6 rfl (.lp _ _ _ rfl) (Nbl rfl)) ?_)))))))))
 obtain ⟨v1,hv1,h⟩ := Ag h
 refine Av rfl Ar4 (Ab rfl Af) (Ao rfl) (Ie hv1) (sv rfl (B5 rfl) (rm 1 rfl (Bf 10 rfl (fun hc => ?_) (fun hc => ?_))))
 ·replace h := Br hc h
  clear hc
  refine rm 5 rfl (Al (Ei rfl (fun _ => ?_) (fun hx => Bool.noConfusion hx)))
  refine csr (sv rfl (Be O1 Agj Ay (.nil _)) (An E2 rfl rfl rfl rfl (Nbl rfl) (Bs [.box (el a0),.box (el a1),.box Zba] rfl (rm 1 rfl (Al (Bg (A2 (Ak ?_))))))))
  cases SJ h
  refine ⟨Or.inr rfl,_,_,_,(Aj (Cu.agg _ _ _ _ _ B6 rfl (.lp _ _ _ rfl) (Nbl rfl)) (Aj (Cu.tmp _ _ rfl) As)),(O4 rfl),?_⟩
  rfl
 ·replace h := Bq hc h
  clear hc
  refine son rfl rfl rfl (sv rfl (Ai Aqr rfl (.lp _ _ _ rfl) (Nbl rfl)) (son rfl rfl rfl ?_))
  obtain ⟨v2,hv2,h⟩ := Ag h
  refine Av rfl Ay4 (Ab rfl Af) (Ao rfl) (Oz hv2) (son rfl rfl rfl (sv rfl (B5 rfl) (rm 2 rfl (Al (ccI h rfl (fun h => ?_) (fun h => ?_))))))
  ·refine csr (sv rfl (Be O1 Agj Ay (.nil _)) (An E2 rfl rfl rfl rfl (Nbl rfl) (Bs [.box (el a0),.box (el a1),.box Zba] rfl (rm 1 rfl (Al (Bg (A2 (Ak ?_))))))))
   cases SJ h
   refine ⟨Or.inr rfl,_,_,_,(Aj (Cu.agg _ _ _ _ _ B6 rfl (.lp _ _ _ rfl) (Nbl rfl)) (Aj (Cu.tmp _ _ rfl) As)),(O4 rfl),?_⟩
   rfl
  ·refine csr (fl G8 ti3 rfl rfl rfl rfl rfl rfl (sv rfl (Bn rfl rfl) (rm 1 rfl (Al (ccI h rfl (fun h => ?_) (fun h => ?_))))))
   ·refine csr (sv rfl (Be O1 Agj Ay (.nil _)) (An E2 rfl rfl rfl rfl (Nbl rfl) (Bs [.box (el a0),.box (el a1),.box Zba] rfl (rm 1 rfl (Al (Bg (A2 (Ak ?_))))))))
    cases SJ h
    refine ⟨Or.inr rfl,_,_,_,(Aj (Cu.agg _ _ _ _ _ B6 rfl (.lp _ _ _ rfl) (Nbl rfl)) (Aj (Cu.tmp _ _ rfl) As)),(O4 rfl),?_⟩
    rfl
   ·refine csr (fl Lw Zp rfl rfl rfl rfl rfl rfl (sv rfl (Aa Sx rfl) (sv rfl (Ae ti3 rfl (.lp _ _ _ rfl) rfl) ?_)))
    obtain ⟨v3,hv3,h⟩ := Ag h
    refine Av rfl Aze (Ab rfl (Ab rfl Af)) (Ao rfl) (Qb hv3) (sv rfl (Nc rfl rfl) (rm 1 rfl (Al (ccI h rfl (fun h => ?_) (fun h => ?_)))))
    ·refine csr (sv rfl (Be O1 Agj Ay (.nil _)) (An E2 rfl rfl rfl rfl (Nbl rfl) (Bs [.box (el a0),.box (el a1),.box Zba] rfl (rm 1 rfl (Al (Bg (A2 (Ak ?_))))))))
     cases SJ h
     refine ⟨Or.inr rfl,_,_,_,(Aj (Cu.agg _ _ _ _ _ B6 rfl (.lp _ _ _ rfl) (Nbl rfl)) (Aj (Cu.tmp _ _ rfl) As)),(O4 rfl),?_⟩
     rfl
    ·refine csr (fl Lw Zp rfl rfl rfl rfl rfl rfl (sv rfl (Aq Vl rfl) (sv rfl (Nc rfl rfl) (rm 1 rfl (Al (ccI h rfl (fun h => ?_) (fun h => ?_)))))))
     ·refine csr (sv rfl (Be O1 Agj Ay (.nil _)) (An E2 rfl rfl rfl rfl (Nbl rfl) (Bs [.box (el a0),.box (el a1),.box Zba] rfl (rm 1 rfl (Al (Bg (A2 (Ak ?_))))))))
      cases SJ h
      refine ⟨Or.inr rfl,_,_,_,(Aj (Cu.agg _ _ _ _ _ B6 rfl (.lp _ _ _ rfl) (Nbl rfl)) (Aj (Cu.tmp _ _ rfl) As)),(O4 rfl),?_⟩
      rfl
     ·refine Bi (Aw (Ac (csr (fl Lw Zp rfl rfl rfl rfl rfl rfl (sv rfl (Ai Aqr rfl (.lp _ _ _ rfl) (Nbl rfl)) ?_)))))
      refine O9 rfl Tryz.underlying29 Atg rfl rfl (List.all_eq_true.1 rfl) (by decide) ?_
      refine Bs [.box (el a0),.box (el a1),.box Zba,.arr 94 3 0 ([a1].flatMap Ap)] rfl ?_
      refine Ab7 38 rfl (by (repeat' first | exact Kf.nil _ | apply Kf.cons | apply Ke.one | apply Ke.agg | exact Em.nil | exact Em.ls _ _ _ _ _ _ rfl (A7 (f := Ap) (fun _ => rfl) ([a1] : List Am)).symm | exact Em.ls _ _ _ _ _ _ rfl (A7 (f := Ap) (fun _ => rfl) _).symm | exact Em.id _ rfl | exact Dv.nil _ | apply Dv.cons)) ?_
      refine Vi (out := ([a0.Tasks,[a1]] : List (List Am)).flatMap (eL Ap)) rfl Tryz.underlying163 A1n (Ah rfl (Ah rfl Ay)) (.cons _ _ _ _ _ _ _ rfl rfl (Nbl rfl) (.cons _ _ _ _ _ _ _ rfl rfl (Nbl rfl) (.nil _))) rfl (by decide) ?_
      refine Ab7 39 rfl (by (repeat' first | exact Kf.nil _ | apply Kf.cons | apply Ke.one | apply Ke.agg | exact Em.nil | exact Em.ls _ _ _ _ _ _ rfl (A7 (f := (eL Ap)) (fun _ => rfl) ([a0.Tasks,[a1]] : List (List Am))).symm | exact Em.ls _ _ _ _ _ _ rfl (A7 (f := (eL Ap)) (fun _ => rfl) _).symm | exact Em.ls _ _ _ _ _ _ rfl (A7 (f := Ap) (fun _ => rfl) _).symm | exact Em.id _ rfl | exact Dv.nil _ | apply Dv.cons)) ?_
      obtain ⟨v4,hv4,h⟩ := Ag h
      refine Da (x' := .s (.one (.ls 5 v4.length))) (M' := [.box (el a0),.box (el a1),.box Zba,.arr 94 3 ([a1].flatMap Ap).length ([a1].flatMap Ap),.arr 29 1 ([a0.Tasks,[a1]].flatMap (eL Ap)).length ([a0.Tasks,[a1]].flatMap (eL Ap)),.arr 94 3 0 (v4.flatMap Ap)]) [] rfl A13 (.func _) (Ab rfl Af) (T9 hv4) rfl rfl (by decide) rfl rfl rfl ?_
      refine sv rfl (Aa Lw rfl) (An Ax6 rfl rfl rfl rfl (Nbl rfl) (Bs [.box ((el a0).set 6 (.ls 5 v4.length)),.box (el a1),.box Zba,.arr 94 3 ([a1].flatMap Ap).length ([a1].flatMap Ap),.arr 29 1 ([a0.Tasks,[a1]].flatMap (eL Ap)).length ([a0.Tasks,[a1]].flatMap (eL Ap)),.arr 94 3 0 (v4.flatMap Ap)] rfl (Al (Bp (csr (fl G8 ti3 rfl rfl rfl rfl rfl rfl (sv rfl (Bn rfl rfl) (Al (Gg (Ad × (List Am)) (fun b5 => [(2,.s (.one (.lp 0 0))),(4,.s (.one (.lp 2 0)))]) (fun b5 => [.box (el b5.1),.box (el a1),.box Zba,.arr 94 3 ([a1].flatMap Ap).length ([a1].flatMap Ap),.arr 29 1 ([a0.Tasks,[a1]].flatMap (eL Ap)).length ([a0.Tasks,[a1]].flatMap (eL Ap)),.arr 94 3 (b5.2.flatMap Ap).length (b5.2.flatMap Ap)]) (fun b5 => Jm b5 = some r) (fun _ _ => A6 rfl) (fun _ _ => Ar rfl) (fun _ _ => Nbl rfl) (fun b5 h => ?_) ?_)))))))))
      ·unfold Jm at h
       refine csr (sv rfl (Ai B6 rfl (.lp _ _ _ rfl) (Nbl rfl)) (An E2 rfl rfl rfl rfl (Nbl rfl) (Bs [.box (el b5.1),.box (el a1),.box (el b5.1),.arr 94 3 ([a1].flatMap Ap).length ([a1].flatMap Ap),.arr 29 1 ([a0.Tasks,[a1]].flatMap (eL Ap)).length ([a0.Tasks,[a1]].flatMap (eL Ap)),.arr 94 3 (b5.2.flatMap Ap).length (b5.2.flatMap Ap)] rfl (rm 1 rfl (Al (Bg ?_))))))
       cases SJ h
       refine ⟨Or.inr rfl,_,_,_,(Aj (Cu.agg _ _ _ _ _ B6 rfl (.lp _ _ _ rfl) (Nbl rfl)) (Aj (Cu.tmp _ _ rfl) As)),(Ao rfl),?_⟩
       rfl
      ·skip
       refine ccI h rfl (fun h => ?_) (fun h => ?_)
       ·refine Az (sv rfl (Ai B6 rfl (.lp _ _ _ rfl) (Nbl rfl)) ?_)
        refine Ab7 45 rfl (by (repeat' first | exact Kf.nil _ | apply Kf.cons | apply Ke.one | apply Ke.agg | exact Em.nil | exact Em.ls _ _ _ _ _ _ rfl (A7 (f := (eL Ap)) (fun _ => rfl) _).symm | exact Em.ls _ _ _ _ _ _ rfl (A7 (f := Ap) (fun _ => rfl) _).symm | exact Em.id _ rfl | exact Dv.nil _ | apply Dv.cons)) ?_
        obtain ⟨v6,hv6,h⟩ := Ag h
        refine Av rfl Axm (Ab rfl Af) (Ao rfl) (Jt hv6) (An E2 rfl rfl rfl rfl (Nbl rfl) (Bs [.box (el v6),.box (el a1),.box Zba,.arr 94 3 ([a1].flatMap Ap).length ([a1].flatMap Ap),.arr 29 1 ([a0.Tasks,[a1]].flatMap (eL Ap)).length ([a0.Tasks,[a1]].flatMap (eL Ap)),.arr 94 3 (v4.flatMap Ap).length (v4.flatMap Ap)] rfl (Al ?_)))
        exact ⟨(v6,v4),_,h,⟨rfl,rfl,trivial⟩,rfl⟩
       ·refine Ab0 0 6 rfl rfl (Em.ls _ _ _ _ _ _ rfl (A7 (f := Ap) (fun _ => rfl) (v4 : List Am)).symm) rfl ?_
        refine Bi (Ac ?_)
        exact ⟨((Ad.mk (Cx.mk a0.Cfg.Who (D3.mk a0.Cfg.Plan.Wait a0.Cfg.Plan.Most a0.Cfg.Plan.Tries) a0.Cfg.Attempts a0.Cfg.Budget) v4 a0.Phase a0.Epoch a0.Seq a0.Attempt a0.Sent a0.Left a0.Resets a0.Risk (A1.mk a0.St.PC (Ee.mk a0.St.Regs.R0 a0.St.Regs.R1 a0.St.Regs.R2 a0.St.Regs.R3 a0.St.Regs.R4 a0.St.Regs.R5 a0.St.Regs.R6 a0.St.Regs.R7) a0.St.Stopped) (B7.mk a0.Req.Kind a0.Req.Seq a0.Req.Token a0.Req.Attempt a0.Req.RO a0.Req.Key a0.Req.Val (B2.mk a0.Req.Rng.Lo a0.Req.Rng.Hi a0.Req.Rng.Open)) (A0.mk a0.In.Buf a0.In.Dead) a0.Out a0.Done a0.Tried),v4),_,h,⟨rfl,rfl,trivial⟩,rfl⟩
def Hy (a0 : Ba) (b1 : Unit) : Option Bool :=
 if (decide (a0.Kind = 0)) then ((El a0.Seq 4294967295).bind fun v2 => if v2 then ((El a0.Code 255).bind fun v3 => if v3 then ((El a0.N 1099511627776).bind fun v4 => if v4 then ((C1 a0.Found a0.Val 0 32).bind fun v5 => if v5 then (some (decide ((a0.List.length : Int) ≤ 8))) else (some false)) else (some false)) else (some false)) else (some false)) else ((H6 a0.Kind).bind fun v6 => if v6 then ((El a0.Seq 4294967295).bind fun v7 => if v7 then ((El a0.Code 255).bind fun v8 => if v8 then ((El a0.N 1099511627776).bind fun v9 => if v9 then ((C1 a0.Found a0.Val 0 32).bind fun v10 => if v10 then (some (decide ((a0.List.length : Int) ≤ 8))) else (some false)) else (some false)) else (some false)) else (some false)) else (some false))
def He (a0 : Ba) (s11 : Int) : Option (LR (Int) (Unit) (Bool)) :=
 if (decide (s11 < (a0.List.length : Int))) then ((idx a0.List s11).bind fun u12 => (C1 true u12.Key 1 16).bind fun v13 => if (!v13) then (some (.ret false)) else (if (decide (32 < (u12.Val.length : Int))) then (some (.ret false)) else (some (.cont (wI (s11 + 1)))))) else (some (.brk ()))
def Fs (a0 : Ba) : Option Bool :=
 (Qx (He a0) fuel 0).bind fun x => match x with | .inl r => some r | .inr e14 => Hy a0 e14
theorem P2 {a0 : Ba} {r : Bool} (h : Fs a0 = some r) : Bl Tryz.prog 39 [.agg (el a0)] (· = .s (.one (.b r))) := by
 unfold Fs at h
 refine Au Tryz.func39 rfl (nt := 59) rfl (Nbl rfl) ?_
 intro w0 S0
 refine csr (Ih rfl rfl (rm 1 rfl (Al (Bp (csr (fl Xd Ag8 rfl rfl rfl rfl rfl rfl (sv rfl (Aq Afv rfl) (rm 1 rfl (Al (Gg (Unit) (fun b1 => [(1,.s (.one (.lp 0 0)))]) (fun b1 => [.box (el a0)]) (fun b1 => Hy a0 b1 = some r) (fun _ _ => A6 rfl) (fun _ _ => Ar rfl) (fun _ _ => Nbl rfl) (fun b1 h => ?_) ?_))))))))))
 ·unfold Hy at h
  refine csr (fl Rq ti3 rfl rfl rfl rfl rfl rfl (sv rfl (Bn rfl rfl) (rm 1 rfl (Bf 26 rfl (fun hc => ?_) (fun hc => ?_)))))
  ·replace h := Br hc h
   clear hc
   refine rm 5 rfl (son rfl rfl rfl (sv rfl (Aa Tm rfl) (son rfl rfl rfl (sv rfl (Ae ti3 rfl (.lp _ _ _ rfl) rfl) (son rfl rfl rfl ?_)))))
   obtain ⟨v2,hv2,h⟩ := Ag h
   refine Av rfl Api (Ab rfl (Ab rfl Af)) (Ao rfl) (Gh hv2) (rm 2 rfl (Bf 36 rfl (fun hc => ?_) (fun hc => ?_)))
   ·replace h := Br hc h
    clear hc
    refine son rfl rfl rfl (sv rfl (Aa S7 rfl) (son rfl rfl rfl (sv rfl (Ae Aah rfl (.lp _ _ _ rfl) rfl) (son rfl rfl rfl ?_))))
    obtain ⟨v3,hv3,h⟩ := Ag h
    refine Av rfl Api (Ab rfl (Ab rfl Af)) (Ao rfl) (Gh hv3) (rm 2 rfl (Bf 41 rfl (fun hc => ?_) (fun hc => ?_)))
    ·replace h := Br hc h
     clear hc
     refine son rfl rfl rfl (sv rfl (Aa Tt rfl) (son rfl rfl rfl (sv rfl (Ae ti3 rfl (.lp _ _ _ rfl) rfl) (son rfl rfl rfl ?_))))
     obtain ⟨v4,hv4,h⟩ := Ag h
     refine Av rfl Api (Ab rfl (Ab rfl Af)) (Ao rfl) (Gh hv4) (rm 2 rfl (Bf 46 rfl (fun hc => ?_) (fun hc => ?_)))
     ·replace h := Br hc h
      clear hc
      refine son rfl rfl rfl (sv rfl (Aa Acw rfl) (son rfl rfl rfl (sv rfl (Ae ti4 rfl (.lp _ _ _ rfl) rfl) (son rfl rfl rfl (sv rfl (Aa Adk rfl) (son rfl rfl rfl (sv rfl (Ae I9 rfl (.lp _ _ _ rfl) rfl) (son rfl rfl rfl ?_))))))))
      obtain ⟨v5,hv5,h⟩ := Ag h
      refine Av rfl Aor (Ab rfl (Ab rfl (Ab rfl (Ab rfl Af)))) (Ao rfl) (Ef hv5) (rm 2 rfl (Bf 53 rfl (fun hc => ?_) (fun hc => ?_)))
      ·replace h := Br hc h
       clear hc
       refine son rfl rfl rfl (sv rfl (Aa Xd rfl) (son rfl rfl rfl (sv rfl (Ae Ag8 rfl (.lp _ _ _ rfl) rfl) (son rfl rfl rfl (sv rfl (Aq Afv rfl) (son rfl rfl rfl (sv rfl (Gm rfl rfl) (rm 2 rfl (Al (Bg ?_))))))))))
       cases SJ h
       exact dnT rfl rfl rfl rfl
      ·replace h := Bq hc h
       clear hc
       refine rm 6 rfl (Al (Bg ?_))
       cases SJ h
       exact dnT rfl rfl rfl rfl
     ·replace h := Bq hc h
      clear hc
      refine rm 13 rfl (Al (Bg ?_))
      cases SJ h
      exact dnT rfl rfl rfl rfl
    ·replace h := Bq hc h
     clear hc
     refine rm 18 rfl (Al (Bg ?_))
     cases SJ h
     exact dnT rfl rfl rfl rfl
   ·replace h := Bq hc h
    clear hc
    refine rm 23 rfl (Al (Bg ?_))
    cases SJ h
    exact dnT rfl rfl rfl rfl
  ·replace h := Bq hc h
   clear hc
   refine son rfl rfl rfl (sv rfl (Aa Rq rfl) (son rfl rfl rfl (sv rfl (Ae ti3 rfl (.lp _ _ _ rfl) rfl) (son rfl rfl rfl ?_))))
   obtain ⟨v6,hv6,h⟩ := Ag h
   refine Av rfl Au0 (Ab rfl Af) (Ao rfl) (M6 hv6) (rm 2 rfl (Bf 31 rfl (fun hc => ?_) (fun hc => ?_)))
   ·replace h := Br hc h
    clear hc
    refine son rfl rfl rfl (sv rfl (Aa Tm rfl) (son rfl rfl rfl (sv rfl (Ae ti3 rfl (.lp _ _ _ rfl) rfl) (son rfl rfl rfl ?_))))
    obtain ⟨v7,hv7,h⟩ := Ag h
    refine Av rfl Api (Ab rfl (Ab rfl Af)) (Ao rfl) (Gh hv7) (rm 2 rfl (Bf 36 rfl (fun hc => ?_) (fun hc => ?_)))
    ·replace h := Br hc h
     clear hc
     refine son rfl rfl rfl (sv rfl (Aa S7 rfl) (son rfl rfl rfl (sv rfl (Ae Aah rfl (.lp _ _ _ rfl) rfl) (son rfl rfl rfl ?_))))
     obtain ⟨v8,hv8,h⟩ := Ag h
     refine Av rfl Api (Ab rfl (Ab rfl Af)) (Ao rfl) (Gh hv8) (rm 2 rfl (Bf 41 rfl (fun hc => ?_) (fun hc => ?_)))
     ·replace h := Br hc h
      clear hc
      refine son rfl rfl rfl (sv rfl (Aa Tt rfl) (son rfl rfl rfl (sv rfl (Ae ti3 rfl (.lp _ _ _ rfl) rfl) (son rfl rfl rfl ?_))))
      obtain ⟨v9,hv9,h⟩ := Ag h
      refine Av rfl Api (Ab rfl (Ab rfl Af)) (Ao rfl) (Gh hv9) (rm 2 rfl (Bf 46 rfl (fun hc => ?_) (fun hc => ?_)))
      ·replace h := Br hc h
       clear hc
       refine son rfl rfl rfl (sv rfl (Aa Acw rfl) (son rfl rfl rfl (sv rfl (Ae ti4 rfl (.lp _ _ _ rfl) rfl) (son rfl rfl rfl (sv rfl (Aa Adk rfl) (son rfl rfl rfl (sv rfl (Ae I9 rfl (.lp _ _ _ rfl) rfl) (son rfl rfl rfl ?_))))))))
       obtain ⟨v10,hv10,h⟩ := Ag h
       refine Av rfl Aor (Ab rfl (Ab rfl (Ab rfl (Ab rfl Af)))) (Ao rfl) (Ef hv10) (rm 2 rfl (Bf 53 rfl (fun hc => ?_) (fun hc => ?_)))
       ·replace h := Br hc h
        clear hc
        refine son rfl rfl rfl (sv rfl (Aa Xd rfl) (son rfl rfl rfl (sv rfl (Ae Ag8 rfl (.lp _ _ _ rfl) rfl) (son rfl rfl rfl (sv rfl (Aq Afv rfl) (son rfl rfl rfl (sv rfl (Gm rfl rfl) (rm 2 rfl (Al (Bg ?_))))))))))
        cases SJ h
        exact dnT rfl rfl rfl rfl
       ·replace h := Bq hc h
        clear hc
        refine rm 6 rfl (Al (Bg ?_))
        cases SJ h
        exact dnT rfl rfl rfl rfl
      ·replace h := Bq hc h
       clear hc
       refine rm 13 rfl (Al (Bg ?_))
       cases SJ h
       exact dnT rfl rfl rfl rfl
     ·replace h := Bq hc h
      clear hc
      refine rm 18 rfl (Al (Bg ?_))
      cases SJ h
      exact dnT rfl rfl rfl rfl
    ·replace h := Bq hc h
     clear hc
     refine rm 23 rfl (Al (Bg ?_))
     cases SJ h
     exact dnT rfl rfl rfl rfl
   ·replace h := Bq hc h
    clear hc
    refine rm 28 rfl (Al (Bg ?_))
    cases SJ h
    exact dnT rfl rfl rfl rfl
 ·skip
  refine B3 ?_
  obtain ⟨x11,hx11,ho11⟩ := Ag h
  refine Ct (G := Nat × (Int)) (fun g => [(1,.s (.one (.lp 0 0))),(6,.s (.one (.sl a0.List.length (a0.List.flatMap Dw)))),(7,.s (.one (Ii6 (a0.List.length : Int)))),(8,.s (.one (Ii6 g.2)))]) (fun g => [.box (el a0)]) (fun g => Qx (He a0) g.1 g.2 = some x11) (fun g => g.1) (fuel,0) hx11 ⟨rfl,rfl,rfl,rfl,trivial⟩ [] rfl (fun _ _ => A6 rfl) (fun _ _ => Ar rfl) (fun _ _ => Nbl rfl) ?_
  clear hx11 h
  rintro ⟨n11,s11⟩ h
  obtain ⟨n11,y11,rfl,h,hk11⟩ := Oa h
  unfold He at h
  refine csr (sv rfl (Ci rfl rfl) (Al (Bp (ccI h rfl (fun h => ?_) (fun h => ?_)))))
  ·refine Bi (Ac (Bp (B3 (Bp (Az ?_)))))
   obtain ⟨u12,hu12,h⟩ := Ag h
   refine sv rfl (Db (f := Dw) Afv (fun _ => rfl) rfl rfl rfl rfl hu12) ?_
   refine sv rfl (Cb (ys := [.sl u12.Key.length (u12.Key.flatMap eU8),.sl u12.Val.length (u12.Val.flatMap eU8)]) Ap2 rfl (.cp _) rfl rfl) (Bw rfl Ann (An Aqw rfl rfl rfl rfl (Nbl rfl) (Bs [.box (el a0),.box (el u12)] rfl (Al (csr (sv rfl (Aa Ae2 rfl) (sv rfl (Ae I9 rfl (.lp _ _ _ rfl) rfl) ?_)))))))
   obtain ⟨v13,hv13,h⟩ := Ag h
   refine Av rfl Aor (Ab rfl (Ab rfl (Ab rfl (Ab rfl Af)))) (Ao rfl) (Ef hv13) (sv rfl (B5 rfl) (rm 1 rfl (Bf 16 rfl (fun hc => ?_) (fun hc => ?_))))
   ·replace h := Br hc h
    clear hc
    refine rm 5 rfl (Al (Ei rfl (fun _ => ?_) (fun hx => Bool.noConfusion hx)))
    refine csr (rm 1 rfl (Al (Bg (A2 (Ak (Ak (A2 (Ak ?_))))))))
    cases SJ h
    obtain rfl : Sum.inl _ = x11 := hk11
    replace ho11 : some _ = some _ := ho11
    obtain rfl := Option.some.inj ho11
    exact dnT rfl rfl rfl rfl
   ·replace h := Bq hc h
    clear hc
    refine son rfl rfl rfl (sv rfl (Aa Abl rfl) (son rfl rfl rfl (sv rfl (Ae I9 rfl (.lp _ _ _ rfl) rfl) (son rfl rfl rfl (sv rfl (Aq Mi rfl) (son rfl rfl rfl (sv rfl (Dr rfl rfl) (rm 1 rfl (Al (ccI h rfl (fun h => ?_) (fun h => ?_)))))))))))
    ·refine csr (rm 1 rfl (Al (Bg (A2 (Ak (Ak (A2 (Ak ?_))))))))
     cases SJ h
     obtain rfl : Sum.inl _ = x11 := hk11
     replace ho11 : some _ = some _ := ho11
     obtain rfl := Option.some.inj ho11
     exact dnT rfl rfl rfl rfl
    ·refine Bi (Aw (Ac (Az (sv rfl (B4 rfl rfl) (rm 1 rfl (Al ?_))))))
     cases SJ h
     exact ⟨(n11,(wI (s11 + 1))),_,hk11,⟨rfl,rfl,rfl,rfl,trivial⟩,rfl,Nat.lt_succ_self _⟩
  ·refine Kk (Bd (Bd (B8 (Ac ?_))))
   cases SJ h
   obtain rfl : _ = x11 := hk11
   exact ⟨(),_,ho11,⟨rfl,trivial⟩,rfl⟩
def Kn (b9 : (List UInt8)) : Option ((List UInt8) × Int) :=
 some (b9,0)
def Gd (a0 : Ba) (s10 : (List UInt8) × Int) : Option (LB ((List UInt8) × Int) ((List UInt8))) :=
 if (decide (s10.2 < (a0.List.length : Int))) then ((idx a0.List s10.2).bind fun u11 => (Gk s10.1 u11.Key).bind fun v12 => (Gk v12 u11.Val).bind fun v13 => some (.cont (v13,(wI (s10.2 + 1))))) else (some (.brk s10.1))
def I2 (a0 : Ba) : Option ((List UInt8) × Int) :=
 (Fs a0).bind fun v1 => if (!v1) then (some (([] : List UInt8),1)) else ((Et ([] : List UInt8) (BitVec.ofInt 64 a0.Kind) 1).bind fun v2 => (Et v2 (BitVec.ofInt 64 a0.Seq) 4).bind fun v3 => (Et v3 (BitVec.ofInt 64 a0.Code) 1).bind fun v4 => (Et v4 (BitVec.ofInt 64 a0.N) 8).bind fun v5 => (Ik v5 a0.Found).bind fun v6 => (Gk v6 a0.Val).bind fun v7 => (Et v7 (BitVec.ofInt 64 (a0.List.length : Int)) 1).bind fun v8 => (Ec (Gd a0) fuel (v8,0)).bind fun e14 => Kn e14)
theorem Qo {a0 : Ba} {r : (List UInt8) × Int} (h : I2 a0 = some r) : Bl Tryz.prog 16 [.agg (el a0)] (· = .tup [.one (.sl r.1.length (r.1.flatMap eU8)),.one (Ii6 r.2)]) := by
 unfold I2 at h
 refine Au Tryz.func16 rfl (nt := 56) rfl (Nbl rfl) ?_
 intro w0 S0
 refine csr (Ih rfl rfl (rm 2 rfl (Al (Bp (csr (sv rfl (Ai Ady rfl (.lp _ _ _ rfl) (Nbl rfl)) ?_))))))
 obtain ⟨v1,hv1,h⟩ := Ag h
 refine Av rfl Azb (Ab rfl Af) (Ao rfl) (P2 hv1) (sv rfl (B5 rfl) (Al (ccI h rfl (fun h => ?_) (fun h => ?_))))
 ·refine csr (rm 2 rfl (Al (Bg (Ak ?_))))
  cases SJ h
  refine ⟨Or.inr rfl,_,_,_,(Aj (Cu.tmp _ _ rfl) (Aj (Cu.tmp _ _ rfl) As)),(O4 rfl),?_⟩
  rfl
 ·refine Bi (Ac (Bp ?_))
  refine Yf Kd (by kernel_rfl) ?_
  refine dv rfl (Aa Rq rfl) (dv rfl (Ae ti3 rfl (.lp _ _ _ rfl) rfl) (dv rfl (Dc rfl Tryz.underlying3 Tryz.underlying112 rfl) ?_))
  obtain ⟨v2,hv2,h⟩ := Ag h
  refine dd rfl (Vr Adz (Ab rfl (Ab rfl (Ab rfl Af))) rfl (Ez hv2)) (dv rfl (Aa Tm rfl) (dv rfl (Ae ti3 rfl (.lp _ _ _ rfl) rfl) (dv rfl (Dc rfl Tryz.underlying3 Tryz.underlying112 rfl) ?_)))
  obtain ⟨v3,hv3,h⟩ := Ag h
  refine dd rfl (Cm Adz (Ab rfl (Ab rfl (Ab rfl Af))) rfl (Ez hv3)) (dv rfl (K5 rfl) (Zy (Ac (Bp ?_))))
  refine Af7 Kd (by kernel_rfl) ?_
  refine dv rfl (Bc rfl) (dv rfl (Aa S7 rfl) (dv rfl (Ae Aah rfl (.lp _ _ _ rfl) rfl) (dv rfl (Dc rfl Tryz.underlying38 Tryz.underlying112 rfl) ?_)))
  obtain ⟨v4,hv4,h⟩ := Ag h
  refine dd rfl (Cm Adz (Ab rfl (Ab rfl (Ab rfl Af))) rfl (Ez hv4)) (dv rfl (Aa Tt rfl) (dv rfl (Ae ti3 rfl (.lp _ _ _ rfl) rfl) (dv rfl (Dc rfl Tryz.underlying3 Tryz.underlying112 rfl) ?_)))
  obtain ⟨v5,hv5,h⟩ := Ag h
  refine dd rfl (Cm Adz (Ab rfl (Ab rfl (Ab rfl Af))) rfl (Ez hv5)) (dv rfl (K5 rfl) (Zy (Ac (Bp ?_))))
  refine Af7 Kd (by kernel_rfl) ?_
  refine dv rfl (Bc rfl) (dv rfl (Aa Acw rfl) (dv rfl (Ae ti4 rfl (.lp _ _ _ rfl) rfl) ?_))
  obtain ⟨v6,hv6,h⟩ := Ag h
  refine dd rfl (Cm Awj (Ab rfl (Ab rfl Af)) rfl (Oj hv6)) (dv rfl (Aa Adk rfl) (dv rfl (Ae I9 rfl (.lp _ _ _ rfl) rfl) ?_))
  obtain ⟨v7,hv7,h⟩ := Ag h
  refine dd rfl (Cm Aqu (Ab rfl (Ab rfl Af)) rfl (Ji hv7)) (dv rfl (K5 rfl) (Zy (Ac (csr (rm 1 rfl (fl Xd Ag8 rfl rfl rfl rfl rfl rfl (sv rfl (Aq Afv rfl) (sv rfl (Dc rfl Tryz.underlying3 Tryz.underlying112 rfl) ?_))))))))
  obtain ⟨v8,hv8,h⟩ := Ag h
  refine Av rfl Adz (Ab rfl (Ab rfl (Ab rfl Af))) (Ao rfl) (Ez hv8) (rm 1 rfl (Al (Bp (csr (fl Xd Ag8 rfl rfl rfl rfl rfl rfl (sv rfl (Aq Afv rfl) (rm 1 rfl (Al (Gg ((List UInt8)) (fun b9 => [(4,.s (.one (.sl b9.length (b9.flatMap eU8))))]) (fun b9 => [.box (el a0)]) (fun b9 => Kn b9 = some r) (fun _ _ => A6 rfl) (fun _ _ => Ar rfl) (fun _ _ => Nbl rfl) (fun b9 h => ?_) ?_)))))))))
  ·unfold Kn at h
   refine csr (rm 3 rfl (Al (Bg ?_)))
   cases SJ h
   refine ⟨Or.inr rfl,_,_,_,(Aj (Cu.tmp _ _ rfl) (Aj (Cu.tmp _ _ rfl) As)),(Ao rfl),?_⟩
   rfl
  ·skip
   refine B3 ?_
   obtain ⟨x10,hx10,ho10⟩ := Ag h
   refine Ct (G := Nat × ((List UInt8) × Int)) (fun g => [(4,.s (.one (.sl g.2.1.length (g.2.1.flatMap eU8)))),(41,.s (.one (.sl a0.List.length (a0.List.flatMap Dw)))),(42,.s (.one (Ii6 (a0.List.length : Int)))),(43,.s (.one (Ii6 g.2.2)))]) (fun g => [.box (el a0)]) (fun g => Ec (Gd a0) g.1 g.2 = some x10) (fun g => g.1) (fuel,(v8,0)) hx10 ⟨rfl,rfl,rfl,rfl,trivial⟩ [] rfl (fun _ _ => A6 rfl) (fun _ _ => Ar rfl) (fun _ _ => Nbl rfl) ?_
   clear hx10 h
   rintro ⟨n10,s10⟩ h
   obtain ⟨n10,y10,rfl,h,hk10⟩ := Fj h
   unfold Gd at h
   refine csr (sv rfl (Ci rfl rfl) (Al (Bp (ccI h rfl (fun h => ?_) (fun h => ?_)))))
   ·refine Bi (Ac (Bp (B3 (Bp (Az ?_)))))
    obtain ⟨u11,hu11,h⟩ := Ag h
    refine sv rfl (Db (f := Dw) Afv (fun _ => rfl) rfl rfl rfl rfl hu11) ?_
    refine sv rfl (Cb (ys := [.sl u11.Key.length (u11.Key.flatMap eU8),.sl u11.Val.length (u11.Val.flatMap eU8)]) Ap2 rfl (.cp _) rfl rfl) (Bw rfl Ann (An Aqw rfl rfl rfl rfl (Nbl rfl) (Bs [.box (el a0),.box (el u11)] rfl (Al ?_))))
    refine Af7 Kd (by kernel_rfl) ?_
    refine dv rfl (Bc rfl) (dv rfl (Aa Ae2 rfl) (dv rfl (Ae I9 rfl (.lp _ _ _ rfl) rfl) ?_))
    obtain ⟨v12,hv12,h⟩ := Ag h
    refine dd rfl (Cm Aqu (Ab rfl (Ab rfl Af)) rfl (Ji hv12)) (dv rfl (Aa Abl rfl) (dv rfl (Ae I9 rfl (.lp _ _ _ rfl) rfl) ?_))
    obtain ⟨v13,hv13,h⟩ := Ag h
    refine dd rfl (Cm Aqu (Ab rfl (Ab rfl Af)) rfl (Ji hv13)) (dv rfl (K5 rfl) (Zy (Aw (Ac (Az (sv rfl (B4 rfl rfl) (rm 1 rfl (Al ?_))))))))
    cases SJ h
    exact ⟨(n10,(v13,(wI (s10.2 + 1)))),_,hk10,⟨rfl,rfl,rfl,rfl,trivial⟩,rfl,Nat.lt_succ_self _⟩
   ·refine Kk (Bd (Bd (B8 (Ac ?_))))
    cases SJ h
    obtain rfl : _ = x10 := hk10
    exact ⟨s10.1,_,ho10,⟨rfl,trivial⟩,rfl⟩
def Gi (a0 : Ad) (a1 : Ij) : Option (List UInt8) :=
 (I2 (Ba.mk a0.Req.Kind a0.Req.Seq a1.Code a1.N a1.Found a1.Val a1.List)).bind fun v1 => (Ko ([] : List UInt8) v1.1).bind fun v2 => some v2.1
theorem Qj {a0 : Ad} {a1 : Ij} {r : (List UInt8)} (h : Gi a0 a1 = some r) : Bl Tryz.prog 22 [.agg (el a0),.agg (el a1)] (· = .s (.one (.sl r.length (r.flatMap eU8)))) := by
 unfold Gi at h
 refine Au Tryz.func22 rfl (nt := 38) rfl (Nbl rfl) ?_
 intro w0 S0
 refine csr (Ih rfl rfl (Ih rfl rfl (rm 1 rfl (Al (csr (sv rfl (Aa Hz rfl) (fl Qm ti3 rfl rfl rfl rfl rfl rfl (sv rfl (Aa Hz rfl) (fl Pp ti3 rfl rfl rfl rfl rfl rfl (fl Ao6 Aah rfl rfl rfl rfl rfl rfl (fl Apa ti3 rfl rfl rfl rfl rfl rfl (fl Aou ti4 rfl rfl rfl rfl rfl rfl (fl Aiu I9 rfl rfl rfl rfl rfl rfl (fl Aad Ag8 rfl rfl rfl rfl rfl rfl (sv rfl (Be Alv Atc (Ah rfl (Ah rfl (Ah rfl (Ah rfl (Ah rfl (Ah rfl (Ah rfl Ay))))))) (Cg [Ii6 a0.Req.Kind,Ii6 0,Ii6 0,Ii6 0,.b false,Znl,Znl] rfl rfl (Nbl rfl) rfl (Cg [Ii6 a0.Req.Kind,Ii6 a0.Req.Seq,Ii6 0,Ii6 0,.b false,Znl,Znl] rfl rfl (Nbl rfl) rfl (Cg [Ii6 a0.Req.Kind,Ii6 a0.Req.Seq,Ii6 a1.Code,Ii6 0,.b false,Znl,Znl] rfl rfl (Nbl rfl) rfl (Cg [Ii6 a0.Req.Kind,Ii6 a0.Req.Seq,Ii6 a1.Code,Ii6 a1.N,.b false,Znl,Znl] rfl rfl (Nbl rfl) rfl (Cg [Ii6 a0.Req.Kind,Ii6 a0.Req.Seq,Ii6 a1.Code,Ii6 a1.N,.b a1.Found,Znl,Znl] rfl rfl (Nbl rfl) rfl (Cg [Ii6 a0.Req.Kind,Ii6 a0.Req.Seq,Ii6 a1.Code,Ii6 a1.N,.b a1.Found,.sl a1.Val.length (a1.Val.flatMap eU8),Znl] rfl rfl (Nbl rfl) rfl (Cg [Ii6 a0.Req.Kind,Ii6 a0.Req.Seq,Ii6 a1.Code,Ii6 a1.N,.b a1.Found,.sl a1.Val.length (a1.Val.flatMap eU8),.sl a1.List.length (a1.List.flatMap Dw)] rfl rfl (Nbl rfl) rfl (.nil _))))))))) (Bw rfl Alv (An Aqo rfl rfl rfl rfl (Nbl rfl) (Bs [.box (el a0),.box (el a1),.box (el {a1 with Kind := a0.Req.Kind,Seq := a0.Req.Seq})] rfl (Al (csr (sv rfl (Ai Ady rfl (.lp _ _ _ rfl) (Nbl rfl)) ?_)))))))))))))))))))))
 obtain ⟨v1,hv1,h⟩ := Ag h
 refine Av rfl Azm (Ab rfl Af) (Ao rfl) (Qo hv1) (sv rfl (Gc rfl) (sv rfl (A4 rfl rfl) (sv rfl (A4 rfl rfl) (rm 2 rfl (Al (csr (sv rfl (Bc rfl) ?_)))))))
 obtain ⟨v2,hv2,h⟩ := Ag h
 refine Av rfl Axc (Ab rfl (Ab rfl Af)) (O4 rfl) (P4 hv2) (sv rfl (Gc rfl) (sv rfl (A4 rfl rfl) (sv rfl (A4 rfl rfl) (rm 2 rfl (Al (csr (rm 2 rfl (Al (Bg ?_)))))))))
 cases SJ h
 exact dnT rfl rfl rfl rfl
def F7 (a0 : Int) : Option Bool :=
 if (decide (a0 = 1)) then (some true) else (some (decide (a0 = 11)))
theorem Ju {a0 : Int} {r : Bool} (h : F7 a0 = some r) : Bl Tryz.prog 37 [.one (Ii6 a0)] (· = .s (.one (.b r))) := by
 unfold F7 at h
 refine Au Tryz.func37 rfl (nt := 9) rfl (Nbl rfl) ?_
 intro w0 S0
 refine csr (rm 1 rfl (Al (csr (rm 1 rfl (sv rfl (Bn rfl rfl) (rm 1 rfl (Bf 5 rfl (fun hc => ?_) (fun hc => ?_))))))))
 ·replace h := Br hc h
  clear hc
  refine rm 4 rfl (Al (Bg ?_))
  cases SJ h
  exact dnT rfl rfl rfl rfl
 ·replace h := Bq hc h
  clear hc
  refine rm 1 rfl (son rfl rfl rfl (sv rfl (Bn rfl rfl) (rm 2 rfl (Al (Bg ?_)))))
  cases SJ h
  exact dnT rfl rfl rfl rfl
def O7 (b1 : Int × (List (List UInt8))) : Option ((List (List UInt8)) × Int × Int) :=
 some (b1.2,b1.1,0)
def K4 (a0 : List UInt8) (s2 : Int × (List (List UInt8))) : Option (LR (Int × (List (List UInt8))) (Int × (List (List UInt8))) ((List (List UInt8)) × Int × Int)) :=
 if (decide (s2.1 < (a0.length : Int))) then ((K8 a0 s2.1).bind fun v3 => if (!decide (v3.2.2 = 0)) then (some (.ret (s2.2,s2.1,v3.2.2))) else (if (s2.2.length + [v3.1].length) * 24 ≤ 140737488355328 then (some (.cont (v3.2.1,(s2.2 ++ [v3.1])))) else none)) else (some (.brk (s2.1,s2.2)))
def Np (a0 : List UInt8) : Option ((List (List UInt8)) × Int × Int) :=
 (Qx (K4 a0) fuel (0,([] : List (List UInt8)))).bind fun x => match x with | .inl r => some r | .inr e5 => O7 e5
theorem Y4 {a0 : List UInt8} {r : (List (List UInt8)) × Int × Int} (h : Np a0 = some r) : Bl Tryz.prog 76 [.one (.sl a0.length (a0.flatMap eU8))] (· = .tup [.one (.sl r.1.length (r.1.flatMap (eL eU8))),.one (Ii6 r.2.1),.one (Ii6 r.2.2)]) := by
 unfold Np at h
 refine Au Tryz.func76 rfl (nt := 33) rfl (Nbl rfl) ?_
 intro w0 S0
 refine csr (rm 3 rfl (Al (csr (rm 1 rfl (Al (csr (rm 1 rfl (Al (Bp ?_)))))))))
 refine Qq 33 1 5 (by decide) rfl ?_
 refine Gg (Int × (List (List UInt8))) (fun b1 => [(5,.s (.one (.ls 0 b1.2.length))),(6,.s (.one (Ii6 b1.1)))]) (fun b1 => [.arr 33 1 0 (b1.2.flatMap (eL eU8))]) (fun b1 => O7 b1 = some r) (fun _ _ => A6 rfl) (fun _ _ => Ar rfl) (fun _ _ => Nbl rfl) (fun b1 h => ?_) ?_
 ·unfold O7 at h
  refine csr (rm 5 rfl (Al (Bg ?_)))
  cases SJ h
  refine ⟨Or.inr rfl,_,_,_,(Aj (Cu.tmp _ _ rfl) (Aj (Cu.tmp _ _ rfl) (Aj (Cu.tmp _ _ rfl) As))),(by (repeat' first | exact Kf.nil _ | apply Kf.cons | apply Ke.one | apply Ke.agg | exact Em.nil | exact Em.ls _ _ _ _ _ _ rfl (A7 (f := (eL eU8)) (fun _ => rfl) _).symm | exact Em.id _ rfl | exact Dv.nil _ | apply Dv.cons)),?_⟩
  rfl
 ·skip
  refine B3 ?_
  obtain ⟨x2,hx2,ho2⟩ := Ag h
  refine Ct (G := Nat × (Int × (List (List UInt8)))) (fun g => [(0,.s (.one (.sl a0.length (a0.flatMap eU8)))),(5,.s (.one (.ls 0 g.2.2.length))),(6,.s (.one (Ii6 g.2.1)))]) (fun g => [.arr 33 1 0 (g.2.2.flatMap (eL eU8))]) (fun g => Qx (K4 a0) g.1 g.2 = some x2) (fun g => g.1) (fuel,(0,([] : List (List UInt8)))) hx2 ⟨rfl,rfl,rfl,trivial⟩ [] rfl (fun _ _ => A6 rfl) (fun _ _ => Ar rfl) (fun _ _ => Nbl rfl) ?_
  clear hx2 h
  rintro ⟨n2,s2⟩ h
  obtain ⟨n2,y2,rfl,h,hk2⟩ := Oa h
  unfold K4 at h
  refine Bp (csr (rm 2 rfl (sv rfl (Aq Mi rfl) (sv rfl (Ci rfl rfl) (Al (ccI h rfl (fun h => ?_) (fun h => ?_)))))))
  ·refine Bi (Ac (B3 (csr (rm 1 rfl (sv rfl (Bc rfl) ?_)))))
   obtain ⟨v3,hv3,h⟩ := Ag h
   refine Av rfl Ayk (Ab rfl (Ab rfl Af)) (Ao rfl) (Se hv3) (sv rfl (Gc rfl) (sv rfl (A4 rfl rfl) (sv rfl (A4 rfl rfl) (sv rfl (A4 rfl rfl) (rm 3 rfl (Al (Bp (csr (rm 1 rfl (sv rfl (Bt rfl rfl) (Al (ccI h rfl (fun h => ?_) (fun h => ?_)))))))))))))
   ·refine csr (rm 6 rfl (Al (Bg (Ak (A2 (Ak (A2 (Ak ?_))))))))
    cases SJ h
    obtain rfl : Sum.inl _ = x2 := hk2
    replace ho2 : some _ = some _ := ho2
    obtain rfl := Option.some.inj ho2
    refine ⟨Or.inr rfl,_,_,_,(Aj (Cu.tmp _ _ rfl) (Aj (Cu.tmp _ _ rfl) (Aj (Cu.tmp _ _ rfl) As))),(by (repeat' first | exact Kf.nil _ | apply Kf.cons | apply Ke.one | apply Ke.agg | exact Em.nil | exact Em.ls _ _ _ _ _ _ rfl (A7 (f := (eL eU8)) (fun _ => rfl) _).symm | exact Em.id _ rfl | exact Dv.nil _ | apply Dv.cons)),?_⟩
    rfl
   ·refine Bi (Ac (csr (rm 1 rfl (sv rfl (Bc rfl) ?_))))
    refine O9 rfl Tryz.underlying124 Ar8 rfl rfl (List.all_eq_true.1 rfl) (by decide) ?_
    refine Bs [.arr 33 1 0 (s2.2.flatMap (eL eU8)),.arr 33 1 0 ([v3.1].flatMap (eL eU8))] rfl ?_
    obtain ⟨hb4,h⟩ := Dx h
    refine Af4 (f := (eL eU8)) (xs := s2.2) (us := [v3.1]) rfl Tryz.underlying124 Ar8 Awl (fun _ => rfl) rfl rfl (.one _ _ _ _ (.ls _ _ _ _ _ _ rfl (A7 (f := (eL eU8)) (fun _ => rfl) [v3.1]).symm)) rfl rfl rfl (.sl _ _ _ (A7 (f := (eL eU8)) (fun _ => rfl) _)) rfl rfl hb4 (by decide) ?_
    refine rm 1 rfl (Al (Az (rm 2 rfl (Mp (Aw (Ac ?_))))))
    cases SJ h
    exact ⟨(n2,(v3.2.1,(s2.2 ++ [v3.1]))),_,hk2,⟨rfl,rfl,rfl,trivial⟩,rfl,Nat.lt_succ_self _⟩
  ·refine Kk (Bd (Bd (B8 (Ac ?_))))
   cases SJ h
   obtain rfl : _ = x2 := hk2
   exact ⟨(s2.1,s2.2),_,ho2,⟨rfl,rfl,trivial⟩,rfl⟩
def Ls (a0 : List UInt8) (a1 : Int) : Option (List UInt8) :=
 (cut a0 a1 (a0.length : Int)).bind fun c1 => if (a0.length : Int) ≤ (a0.length : Int) ∧ (a0.length : Int) ≤ (a0.length : Int) then (if (0 : Int) ≤ (c1.length : Int) ∧ (c1.length : Int) ≤ (c1.length : Int) ∧ ((1 : Nat) : Int) * (c1.length : Int) ≤ 281474976710656 then ((cut (c1.take (List.replicate (c1.length : Int).toNat (0 : UInt8)).length ++ (List.replicate (c1.length : Int).toNat (0 : UInt8)).drop c1.length) 0 ((Nat.min c1.length (List.replicate (c1.length : Int).toNat (0 : UInt8)).length : Nat) : Int)).bind fun c4 => if ((Nat.min c1.length (List.replicate (c1.length : Int).toNat (0 : UInt8)).length : Nat) : Int) ≤ ((Nat.min c1.length (List.replicate (c1.length : Int).toNat (0 : UInt8)).length : Nat) : Int) ∧ ((Nat.min c1.length (List.replicate (c1.length : Int).toNat (0 : UInt8)).length : Nat) : Int) ≤ ((c1.take (List.replicate (c1.length : Int).toNat (0 : UInt8)).length ++ (List.replicate (c1.length : Int).toNat (0 : UInt8)).drop c1.length).length : Int) then (some c4) else none) else none) else none
theorem Wz {a0 : List UInt8} {a1 : Int} {r : (List UInt8)} (h : Ls a0 a1 = some r) : Bl Tryz.prog 77 [.one (.sl a0.length (a0.flatMap eU8)),.one (Ii6 a1)] (· = .s (.one (.sl r.length (r.flatMap eU8)))) := by
 unfold Ls at h
 refine Au Tryz.func77 rfl (nt := 25) rfl (Nbl rfl) ?_
 intro w0 S0
 refine csr (rm 1 rfl (Al (csr (rm 3 rfl (sv rfl (Aq Mi rfl) (rm 1 rfl (sv rfl (Aq Mi rfl) ?_)))))))
 obtain ⟨c1,hc1,h⟩ := Ag h
 obtain ⟨hs2,h⟩ := Dx h
 refine sv rfl (Afq (f := eU8) (lo := a1) (hi := (a0.length : Int)) (mx := (a0.length : Int)) Mi (fun _ => rfl) rfl rfl rfl (H8 rfl (L9 hc1).1.1) (H8 rfl (Int.le_trans (L9 hc1).1.1 (L9 hc1).1.2.1)) (H8 rfl (Int.le_trans (Int.le_trans (L9 hc1).1.1 (L9 hc1).1.2.1) hs2.1)) hc1 hs2) ?_
 refine rm 1 rfl (Al (csr (rm 1 rfl (sv rfl (Aq Mi rfl) ?_))))
 obtain ⟨hm3,h⟩ := Dx h
 refine smk (f := eU8) (z := (0 : UInt8)) rfl Tryz.underlying33 ei5 (fun _ => rfl) rfl rfl rfl hm3 (by decide) ?_
 refine rm 1 rfl (Al (csr (rm 1 rfl (sv rfl (Bc rfl) ?_))))
 refine Axu (f := eU8) (xs := (List.replicate (c1.length : Int).toNat (0 : UInt8))) (us := c1) rfl Tryz.underlying33 (by kernel_rfl) (fun _ => rfl) rfl rfl rfl rfl rfl rfl rfl ?_
 refine Xw 17 (y := .s (.one (.ls 0 (List.replicate (c1.length : Int).toNat (0 : UInt8)).length))) (.s (.one (.ls 0 (c1.take (List.replicate (c1.length : Int).toNat (0 : UInt8)).length ++ (List.replicate (c1.length : Int).toNat (0 : UInt8)).drop c1.length).length))) rfl (congrArg (fun n => AV.s (.one (.ls 0 n))) (Abm _ _)) ?_
 refine Xw 6 (y := .s (.one (.ls 0 (List.replicate (c1.length : Int).toNat (0 : UInt8)).length))) (.s (.one (.ls 0 (c1.take (List.replicate (c1.length : Int).toNat (0 : UInt8)).length ++ (List.replicate (c1.length : Int).toNat (0 : UInt8)).drop c1.length).length))) rfl (congrArg (fun n => AV.s (.one (.ls 0 n))) (Abm _ _)) ?_
 refine Xw 18 (y := .s (.one (.ls 0 (List.replicate (c1.length : Int).toNat (0 : UInt8)).length))) (.s (.one (.ls 0 (c1.take (List.replicate (c1.length : Int).toNat (0 : UInt8)).length ++ (List.replicate (c1.length : Int).toNat (0 : UInt8)).drop c1.length).length))) rfl (congrArg (fun n => AV.s (.one (.ls 0 n))) (Abm _ _)) ?_
 refine rm 1 rfl (Al (csr (rm 2 rfl (sv rfl (Bc rfl) ?_))))
 refine Ab7 21 rfl (by (repeat' first | exact Kf.nil _ | apply Kf.cons | apply Ke.one | apply Ke.agg | exact Em.nil | exact Em.ls _ _ _ _ _ _ rfl (A7 (f := eU8) (fun _ => rfl) _).symm | exact Em.id _ rfl | exact Dv.nil _ | apply Dv.cons)) ?_
 obtain ⟨c4,hc4,h⟩ := Ag h
 obtain ⟨hs5,h⟩ := Dx h
 refine sv rfl (Afq (f := eU8) (lo := 0) (hi := ((Nat.min c1.length (List.replicate (c1.length : Int).toNat (0 : UInt8)).length : Nat) : Int)) (mx := ((Nat.min c1.length (List.replicate (c1.length : Int).toNat (0 : UInt8)).length : Nat) : Int)) Mi (fun _ => rfl) rfl rfl rfl T1 (H8 rfl (Int.le_trans (L9 hc4).1.1 (L9 hc4).1.2.1)) (H8 rfl (Int.le_trans (Int.le_trans (L9 hc4).1.1 (L9 hc4).1.2.1) hs5.1)) hc4 hs5) ?_
 refine rm 1 rfl (Al (Bg ?_))
 cases SJ h
 exact dnT rfl rfl rfl rfl
def Ek (a0 : A0) (a1 : List UInt8) : Option (A0 × (List (List UInt8)) × Int) :=
 (Hj a0).bind fun v1 => if (!v1) then (some ((A0.mk ([] : List UInt8) 0),([] : List (List UInt8)),1)) else (if (!decide (a0.Dead = 0)) then (some (a0,([] : List (List UInt8)),13)) else ((E1 [a0.Buf,a1]).bind fun v2 => (Np v2).bind fun v3 => (H7 v3.2.2).bind fun v4 => if v4 then (some ((A0.mk ([] : List UInt8) v3.2.2),v3.1,v3.2.2)) else ((Ls v2 v3.2.1).bind fun v5 => some ((A0.mk v5 0),v3.1,0))))
theorem Wu {a0 : A0} {a1 : List UInt8} {r : A0 × (List (List UInt8)) × Int} (h : Ek a0 a1 = some r) : Bl Tryz.prog 45 [.agg (el a0),.one (.sl a1.length (a1.flatMap eU8))] (· = .tup [.agg (el r.1),.one (.sl r.2.1.length (r.2.1.flatMap (eL eU8))),.one (Ii6 r.2.2)]) := by
 unfold Ek at h
 refine Au Tryz.func45 rfl (nt := 41) rfl (Nbl rfl) ?_
 intro w0 S0
 refine csr (Ih rfl rfl (Bw rfl Ar1 (rm 2 rfl (Al (Bp (csr (sv rfl (Ai Alt rfl (.lp _ _ _ rfl) (Nbl rfl)) ?_)))))))
 obtain ⟨v1,hv1,h⟩ := Ag h
 refine Av rfl Avp (Ab rfl Af) (Ao rfl) (Ob hv1) (sv rfl (B5 rfl) (Al (ccI h rfl (fun h => ?_) (fun h => ?_))))
 ·refine csr (sv rfl (Be Ar1 Au4 Ay (.nil _)) (An Ap5 rfl rfl rfl rfl (Nbl rfl) (Bs [.box (el a0),.box [Znl,Ii6 0]] rfl (rm 2 rfl (Al (Bg (Ak ?_)))))))
  cases SJ h
  refine ⟨Or.inr rfl,_,_,_,(Aj (Cu.agg _ _ _ _ _ Alt rfl (.lp _ _ _ rfl) (Nbl rfl)) (Aj (Cu.tmp _ _ rfl) (Aj (Cu.tmp _ _ rfl) As))),(O4 rfl),?_⟩
  rfl
 ·refine Bi (Ac (Bp (csr (fl Agl Aah rfl rfl rfl rfl rfl rfl (sv rfl (Bt rfl rfl) (Al (ccI h rfl (fun h => ?_) (fun h => ?_))))))))
  ·refine csr (sv rfl (Ai Alt rfl (.lp _ _ _ rfl) (Nbl rfl)) (An Ap5 rfl rfl rfl rfl (Nbl rfl) (Bs [.box (el a0),.box (el a0)] rfl (rm 2 rfl (Al (Bg (Ak ?_)))))))
   cases SJ h
   refine ⟨Or.inr rfl,_,_,_,(Aj (Cu.agg _ _ _ _ _ Alt rfl (.lp _ _ _ rfl) (Nbl rfl)) (Aj (Cu.tmp _ _ rfl) (Aj (Cu.tmp _ _ rfl) As))),(O4 rfl),?_⟩
   rfl
  ·refine Bi (Ac (csr (fl Aai I9 rfl rfl rfl rfl rfl rfl (sv rfl (Bc rfl) ?_))))
   refine Vi (out := ([a0.Buf,a1] : List (List UInt8)).flatMap (eL eU8)) rfl Tryz.underlying124 Ar8 (Ah rfl (Ah rfl Ay)) (.cons _ _ _ _ _ _ _ rfl rfl (Nbl rfl) (.cons _ _ _ _ _ _ _ rfl rfl (Nbl rfl) (.nil _))) rfl (by decide) ?_
   refine Ab7 22 rfl (by (repeat' first | exact Kf.nil _ | apply Kf.cons | apply Ke.one | apply Ke.agg | exact Em.nil | exact Em.ls _ _ _ _ _ _ rfl (A7 (f := (eL eU8)) (fun _ => rfl) ([a0.Buf,a1] : List (List UInt8))).symm | exact Em.ls _ _ _ _ _ _ rfl (A7 (f := (eL eU8)) (fun _ => rfl) _).symm | exact Em.id _ rfl | exact Dv.nil _ | apply Dv.cons)) ?_
   obtain ⟨v2,hv2,h⟩ := Ag h
   refine Da (x' := .s (.one (.ls 3 v2.length))) (M' := [.box (el a0),.box [Znl,Ii6 0],.arr 33 1 ([a0.Buf,a1].flatMap (eL eU8)).length ([a0.Buf,a1].flatMap (eL eU8)),.arr 5 1 0 (v2.flatMap eU8)]) [] rfl Au9 (.func _) (Ab rfl Af) (Jn hv2) rfl rfl (by decide) rfl rfl rfl ?_
   refine rm 1 rfl (Al (csr (sv rfl (Bc rfl) ?_)))
   refine Ab7 25 rfl (by (repeat' first | exact Kf.nil _ | apply Kf.cons | apply Ke.one | apply Ke.agg | exact Em.nil | exact Em.ls _ _ _ _ _ _ rfl (A7 (f := (eL eU8)) (fun _ => rfl) _).symm | exact Em.ls _ _ _ _ _ _ rfl (A7 (f := eU8) (fun _ => rfl) _).symm | exact Em.id _ rfl | exact Dv.nil _ | apply Dv.cons)) ?_
   obtain ⟨v3,hv3,h⟩ := Ag h
   refine Av rfl Az9 (Ab rfl Af) (Ao rfl) (Y4 hv3) (sv rfl (Gc rfl) (sv rfl (A4 rfl rfl) (sv rfl (A4 rfl rfl) (sv rfl (A4 rfl rfl) (rm 3 rfl (Al (Bp (csr (sv rfl (Bc rfl) ?_)))))))))
   obtain ⟨v4,hv4,h⟩ := Ag h
   refine Av rfl Azi (Ab rfl Af) (Ao rfl) (P6 hv4) (Al (ccI h rfl (fun h => ?_) (fun h => ?_)))
   ·refine csr (rm 1 rfl (sv rfl (Be Ar1 Au4 (Ah rfl Ay) (.cons _ _ _ _ _ _ _ rfl rfl (Nbl rfl) (.nil _))) (rm 2 rfl (An Ap5 rfl rfl rfl rfl (Nbl rfl) (Bs [.box (el a0),.box [Znl,Ii6 v3.2.2],.arr 33 1 ([a0.Buf,a1].flatMap (eL eU8)).length ([a0.Buf,a1].flatMap (eL eU8)),.arr 5 1 (v2.flatMap eU8).length (v2.flatMap eU8)] rfl (rm 2 rfl (Al (Bg (Ak ?_)))))))))
    cases SJ h
    refine ⟨Or.inr rfl,_,_,_,(Aj (Cu.agg _ _ _ _ _ Alt rfl (.lp _ _ _ rfl) (Nbl rfl)) (Aj (Cu.tmp _ _ rfl) (Aj (Cu.tmp _ _ rfl) As))),(O4 rfl),?_⟩
    rfl
   ·refine Bi (Ac (csr (rm 1 rfl (sv rfl (Bc rfl) ?_))))
    refine Ab7 36 rfl (by (repeat' first | exact Kf.nil _ | apply Kf.cons | apply Ke.one | apply Ke.agg | exact Em.nil | exact Em.ls _ _ _ _ _ _ rfl (A7 (f := (eL eU8)) (fun _ => rfl) _).symm | exact Em.ls _ _ _ _ _ _ rfl (A7 (f := eU8) (fun _ => rfl) _).symm | exact Em.id _ rfl | exact Dv.nil _ | apply Dv.cons)) ?_
    obtain ⟨v5,hv5,h⟩ := Ag h
    refine Av rfl A1l (Ab rfl (Ab rfl Af)) (Ao rfl) (Wz hv5) (sv rfl (Be Ar1 Au4 (Ah rfl Ay) (.cons _ _ _ _ _ _ _ rfl rfl (Nbl rfl) (.nil _))) (rm 1 rfl (An Ap5 rfl rfl rfl rfl (Nbl rfl) (Bs [.box (el a0),.box [.sl v5.length (v5.flatMap eU8),Ii6 0],.arr 33 1 ([a0.Buf,a1].flatMap (eL eU8)).length ([a0.Buf,a1].flatMap (eL eU8)),.arr 5 1 (v2.flatMap eU8).length (v2.flatMap eU8)] rfl (rm 2 rfl (Al (Bg ?_)))))))
    cases SJ h
    refine ⟨Or.inr rfl,_,_,_,(Aj (Cu.agg _ _ _ _ _ Alt rfl (.lp _ _ _ rfl) (Nbl rfl)) (Aj (Cu.tmp _ _ rfl) (Aj (Cu.tmp _ _ rfl) As))),(Ao rfl),?_⟩
    rfl
def F6 (v1 : (BitVec 64) × Int × Int) (b2 : Int) : Option (Bool × Int × Int) :=
 some ((decide ((v1.1.toNat : Int) = (1 : Int))),b2,v1.2.2)
def Gf (a0 : Int) (a1 : Int) (a2 : List UInt8) : Option (Bool × Int × Int) :=
 (Ax 1 a0 a1 a2).bind fun v1 => if (decide ((1 : Int) < (v1.1.toNat : Int))) then ((B0 3 v1.2.1 v1.2.2 a2).bind fun v3 => F6 v1 v3) else (F6 v1 v1.2.1)
theorem Su {a0 : Int} {a1 : Int} {a2 : List UInt8} {r : Bool × Int × Int} (h : Gf a0 a1 a2 = some r) : Hm Tryz.prog 95 [.box [.fn 112 [] [.lp 1 0,.lp 2 0],Ii6 a0],.box [Ii6 a1],.box [.sl a2.length (a2.flatMap eU8)]] [.one (.lp 0 0)] (fun y m' => y = .s (.one (.b r.1)) ∧ m' = [.box [.fn 112 [] [.lp 1 0,.lp 2 0],Ii6 r.2.1],.box [Ii6 r.2.2],.box [.sl a2.length (a2.flatMap eU8)]]) := by
 unfold Gf at h
 refine C3 Tryz.func95 rfl (nt := 12) rfl (Nbl rfl) ?_
 intro w0 S0 X0 H0
 refine csr (rm 1 rfl (Al (csr (sv rfl (Bc rfl) ?_))))
 obtain ⟨v1,hv1,h⟩ := Ag h
 refine Da (x' := .s (.one (.i .u64 (v1.1.toNat : Int)))) (M' := [.box [.fn 112 [] [.lp 1 0,.lp 2 0],Ii6 v1.2.1],.box [Ii6 v1.2.2],.box [.sl a2.length (a2.flatMap eU8)]]) [0,1,2] rfl Alu (.func _) (Ab rfl (Ab rfl Af)) (C5 hv1) rfl rfl (by decide) rfl rfl rfl ?_
 refine rm 1 rfl (Al (Bp (csr (rm 1 rfl (sv rfl (Dr rfl rfl) (Al (Gg (Int) (fun b2 => [(3,.s (.one (.i .u64 (v1.1.toNat : Int))))]) (fun b2 => [.box [.fn 112 [] [.lp 1 0,.lp 2 0],Ii6 b2],.box [Ii6 v1.2.2],.box [.sl a2.length (a2.flatMap eU8)]]) (fun b2 => F6 v1 b2 = some r) (fun _ _ => A6 rfl) (fun _ _ => Ar rfl) (fun _ _ => Nbl rfl) (fun b2 h => ?_) ?_)))))))
 ·unfold F6 at h
  refine csr (rm 1 rfl (sv rfl (Bn rfl rfl) (rm 1 rfl (Al (Bg ?_)))))
  cases SJ h
  exact ⟨Or.inr rfl,_,[0,1,2],[.one (.b (decide ((v1.1.toNat : Int) = (1 : Int))))],[.box [.fn 112 [] [.lp 1 0,.lp 2 0],Ii6 b2],.box [Ii6 v1.2.2],.box [.sl a2.length (a2.flatMap eU8)]],(Aj (Cu.tmp _ _ rfl) As),rfl,rfl,⟨by decide,rfl⟩,rfl,rfl,⟨rfl,rfl⟩⟩
 ·skip
  refine ccI h rfl (fun h => ?_) (fun h => ?_)
  ·refine Az (sv rfl (Bc rfl) ?_)
   obtain ⟨v3,hv3,h⟩ := Ag h
   refine Da (x' := .tup []) (M' := [.box [.fn 112 [] [.lp 1 0,.lp 2 0],Ii6 v3],.box [Ii6 v1.2.2],.box [.sl a2.length (a2.flatMap eU8)]]) [0,1,2] rfl Aqa (.func _) (Ab rfl (Ab rfl Af)) (D6 hv3) rfl rfl (by decide) rfl rfl rfl ?_
   refine Al ?_
   exact ⟨v3,_,h,⟨rfl,trivial⟩,rfl⟩
  ·refine Bi (Ac ?_)
   exact ⟨v1.2.1,_,h,⟨rfl,trivial⟩,rfl⟩
def Ib (a0 : List UInt8) : Option (List UInt8) :=
 if (([] : List UInt8).length + a0.length) * 1 ≤ 140737488355328 then (some (([] : List UInt8) ++ a0)) else none
theorem Vk {a0 : List UInt8} {r : (List UInt8)} (h : Ib a0 = some r) : Hm Tryz.prog 85 [] [.one (.sl a0.length (a0.flatMap eU8))] (fun y m' => y = .s (.one (.ls 0 r.length)) ∧ m' = [.arr 5 1 0 (r.flatMap eU8)]) := by
 unfold Ib at h
 refine C3 Tryz.func85 rfl (nt := 8) rfl (Nbl rfl) ?_
 intro w0 S0 X0 H0
 refine csr (rm 1 rfl (Al (Bp (csr (rm 1 rfl (Aqi rfl Tryz.underlying33 rfl (fun nq hnq => ?_)))))))
 cases nq
 ·skip
  refine Al (Ei rfl (fun hx => Bool.noConfusion hx) (fun _ => ?_))
  refine Bi (Ac (csr (Ad3 rfl Tryz.underlying33 ei5 (sv rfl (Bc rfl) ?_))))
  obtain ⟨hb1,h⟩ := Dx h
  refine Af4 (f := eU8) (xs := ([] : List UInt8)) (us := a0) rfl Tryz.underlying33 ei5 Avw (fun _ => rfl) rfl rfl (.one _ _ _ _ (.id _ rfl)) rfl rfl rfl (.sl _ _ _ (A7 (f := eU8) (fun _ => rfl) _)) rfl rfl hb1 (by decide) ?_
  refine rm 1 rfl (Al (Bg ?_))
  cases SJ h
  exact ⟨Or.inr rfl,_,[0],[.one (.ls 0 (([] : List UInt8) ++ a0).length)],[.arr 5 1 0 ((([] : List UInt8) ++ a0).flatMap eU8)],(Aj (Cu.tmp _ _ rfl) As),rfl,rfl,⟨by decide,rfl⟩,rfl,rfl,⟨rfl,rfl⟩⟩
 ·obtain rfl := List.eq_nil_of_length_eq_zero (hnq rfl)
  replace h : (some ([] : List UInt8)) = some r := by first | exact h | (rw [if_pos (by decide)] at h; exact h)
  refine Al (Ei rfl (fun _ => ?_) (fun hx => Bool.noConfusion hx))
  refine csr (rm 1 rfl (Al ?_))
  refine Qq 5 1 2 (by decide) rfl ?_
  refine Bg (Ak ?_)
  cases SJ h
  exact ⟨Or.inr rfl,_,[0],[.one (.ls 0 ([] : List UInt8).length)],[.arr 5 1 0 (([] : List UInt8).flatMap eU8)],(Aj (Cu.tmp _ _ rfl) As),rfl,rfl,⟨by decide,rfl⟩,rfl,rfl,⟨rfl,rfl⟩⟩
def Cz (a0 : Int) (a1 : Int) (a2 : Int) (a3 : List UInt8) : Option ((List UInt8) × Int × Int) :=
 (Ax 2 a1 a2 a3).bind fun v1 => (Bo v1.2.1 v1.2.2 a3).bind fun v2 => if (!decide (v2 = 0)) then (some (([] : List UInt8),v1.2.1,v1.2.2)) else (if (decide (a0 < (wI (v1.1.toNat : Int)))) then ((B0 5 v1.2.1 v1.2.2 a3).bind fun v3 => some (([] : List UInt8),v3,v1.2.2)) else ((Cr (wI (v1.1.toNat : Int)) v1.2.1 v1.2.2 a3).bind fun v4 => (Ib v4.1).bind fun v5 => some (v5,v4.2.1,v4.2.2)))
theorem Lb {a0 : Int} {a1 : Int} {a2 : Int} {a3 : List UInt8} {r : (List UInt8) × Int × Int} (h : Cz a0 a1 a2 a3 = some r) : Hm Tryz.prog 96 [.box [.fn 112 [] [.lp 1 0,.lp 2 0],Ii6 a1],.box [Ii6 a2],.box [.sl a3.length (a3.flatMap eU8)]] [.one (.lp 0 0),.one (Ii6 a0)] (fun y m' => y = .s (.one (.sl r.1.length (r.1.flatMap eU8))) ∧ m' = [.box [.fn 112 [] [.lp 1 0,.lp 2 0],Ii6 r.2.1],.box [Ii6 r.2.2],.box [.sl a3.length (a3.flatMap eU8)]]) := by
 unfold Cz at h
 refine C3 Tryz.func96 rfl (nt := 21) rfl (Nbl rfl) ?_
 intro w0 S0 X0 H0
 refine csr (rm 1 rfl (Al (csr (sv rfl (Bc rfl) ?_))))
 obtain ⟨v1,hv1,h⟩ := Ag h
 refine Da (x' := .s (.one (.i .u64 (v1.1.toNat : Int)))) (M' := [.box [.fn 112 [] [.lp 1 0,.lp 2 0],Ii6 v1.2.1],.box [Ii6 v1.2.2],.box [.sl a3.length (a3.flatMap eU8)]]) [0,1,2] rfl Alu (.func _) (Ab rfl (Ab rfl Af)) (C5 hv1) rfl rfl (by decide) rfl rfl rfl ?_
 refine sv rfl (Gj Tryz.underlying112 Tryz.underlying3 rfl) (rm 1 rfl (Al (Bp (csr (sv rfl (Bc rfl) ?_)))))
 obtain ⟨v2,hv2,h⟩ := Ag h
 refine Da (x' := .s (.one (Ii6 v2))) (M' := [.box [.fn 112 [] [.lp 1 0,.lp 2 0],Ii6 v1.2.1],.box [Ii6 v1.2.2],.box [.sl a3.length (a3.flatMap eU8)]]) [0,1,2] rfl Amg (.func _) (Ab rfl Af) (Ix hv2) rfl rfl (by decide) rfl rfl rfl ?_
 refine sv rfl (Bt rfl rfl) (Al (ccI h rfl (fun h => ?_) (fun h => ?_)))
 ·refine csr (rm 1 rfl (Al ?_))
  refine Ar9 4 rfl (by (repeat' first | exact Kf.nil _ | apply Kf.cons | apply Ke.one | apply Ke.agg | exact Em.nil | exact Em.id _ rfl | exact Dv.nil _ | apply Dv.cons)) ?_
  refine Bg (Ak ?_)
  cases SJ h
  exact ⟨Or.inr rfl,_,[0,1,2],[.one (.sl ([] : List UInt8).length (([] : List UInt8).flatMap eU8))],[.box [.fn 112 [] [.lp 1 0,.lp 2 0],Ii6 v1.2.1],.box [Ii6 v1.2.2],.box [.sl a3.length (a3.flatMap eU8)]],(Aj (Cu.tmp _ _ rfl) As),rfl,rfl,⟨by decide,rfl⟩,rfl,rfl,⟨rfl,rfl⟩⟩
 ·refine Bi (Ac (Bp (csr (rm 2 rfl (sv rfl (Dr rfl rfl) (Al (ccI h rfl (fun h => ?_) (fun h => ?_))))))))
  ·refine csr (sv rfl (Bc rfl) ?_)
   obtain ⟨v3,hv3,h⟩ := Ag h
   refine Da (x' := .tup []) (M' := [.box [.fn 112 [] [.lp 1 0,.lp 2 0],Ii6 v3],.box [Ii6 v1.2.2],.box [.sl a3.length (a3.flatMap eU8)]]) [0,1,2] rfl Aqa (.func _) (Ab rfl (Ab rfl Af)) (D6 hv3) rfl rfl (by decide) rfl rfl rfl ?_
   refine Al (csr (rm 1 rfl (Al ?_)))
   refine Ar9 4 rfl (by (repeat' first | exact Kf.nil _ | apply Kf.cons | apply Ke.one | apply Ke.agg | exact Em.nil | exact Em.id _ rfl | exact Dv.nil _ | apply Dv.cons)) ?_
   refine Bg (Ak ?_)
   cases SJ h
   exact ⟨Or.inr rfl,_,[0,1,2],[.one (.sl ([] : List UInt8).length (([] : List UInt8).flatMap eU8))],[.box [.fn 112 [] [.lp 1 0,.lp 2 0],Ii6 v3],.box [Ii6 v1.2.2],.box [.sl a3.length (a3.flatMap eU8)]],(Aj (Cu.tmp _ _ rfl) As),rfl,rfl,⟨by decide,rfl⟩,rfl,rfl,⟨rfl,rfl⟩⟩
  ·refine Bi (Ac (csr (rm 1 rfl (sv rfl (Bc rfl) ?_))))
   obtain ⟨v4,hv4,h⟩ := Ag h
   refine Da (x' := .s (.one (.sl v4.1.length (v4.1.flatMap eU8)))) (M' := [.box [.fn 112 [] [.lp 1 0,.lp 2 0],Ii6 v4.2.1],.box [Ii6 v4.2.2],.box [.sl a3.length (a3.flatMap eU8)]]) [0,1,2] rfl Atn (.func _) (Ab rfl (Ab rfl Af)) (N4 hv4) rfl rfl (by decide) rfl rfl rfl ?_
   obtain ⟨v5,hv5,h⟩ := Ag h
   refine Da (x' := .s (.one (.ls 3 v5.length))) (M' := [.box [.fn 112 [] [.lp 1 0,.lp 2 0],Ii6 v4.2.1],.box [Ii6 v4.2.2],.box [.sl a3.length (a3.flatMap eU8)],.arr 5 1 0 (v5.flatMap eU8)]) [] rfl Azk (.func _) (Ab rfl Af) (Vk hv5) rfl rfl (by decide) rfl rfl rfl ?_
   refine rm 1 rfl (Al ?_)
   refine Ar9 4 rfl (by (repeat' first | exact Kf.nil _ | apply Kf.cons | apply Ke.one | apply Ke.agg | exact Em.nil | exact Em.ls _ _ _ _ _ _ rfl (A7 (f := eU8) (fun _ => rfl) _).symm | exact Em.id _ rfl | exact Dv.nil _ | apply Dv.cons)) ?_
   refine Bg ?_
   cases SJ h
   exact ⟨Or.inr rfl,_,[0,1,2],[.one (.sl v5.length (v5.flatMap eU8))],[.box [.fn 112 [] [.lp 1 0,.lp 2 0],Ii6 v4.2.1],.box [Ii6 v4.2.2],.box [.sl a3.length (a3.flatMap eU8)]],(Aj (Cu.tmp _ _ rfl) As),rfl,rfl,⟨by decide,rfl⟩,rfl,rfl,⟨rfl,rfl⟩⟩
def Jq (b3 : Int × Int × (List Dk)) : Option ((List Dk) × Int × Int) :=
 some (b3.2.2,b3.1,b3.2.1)
def D5 (a2 : List UInt8) (v1 : (BitVec 64) × Int × Int) (s4 : Int × Int × Int × (List Dk)) : Option (LB (Int × Int × Int × (List Dk)) (Int × Int × (List Dk))) :=
 if (decide (s4.1 < (wI (v1.1.toNat : Int)))) then ((Cz 16 s4.2.1 s4.2.2.1 a2).bind fun v5 => (Cz 32 v5.2.1 v5.2.2 a2).bind fun v6 => if (s4.2.2.2.length + [(Dk.mk v5.1 v6.1)].length) * 48 ≤ 140737488355328 then (some (.cont ((wI (s4.1 + 1)),v6.2.1,v6.2.2,(s4.2.2.2 ++ [(Dk.mk v5.1 v6.1)])))) else none) else (some (.brk (s4.2.1,s4.2.2.1,s4.2.2.2)))
def J8 (a0 : Int) (a1 : Int) (a2 : List UInt8) : Option ((List Dk) × Int × Int) :=
 (Ax 1 a0 a1 a2).bind fun v1 => if (decide (8 < (wI (v1.1.toNat : Int)))) then ((B0 5 v1.2.1 v1.2.2 a2).bind fun v2 => some (([] : List Dk),v2,v1.2.2)) else ((Ec (D5 a2 v1) fuel (0,v1.2.1,v1.2.2,([] : List Dk))).bind fun e8 => Jq e8)
theorem U0 {a0 : Int} {a1 : Int} {a2 : List UInt8} {r : (List Dk) × Int × Int} (h : J8 a0 a1 a2 = some r) : Hm Tryz.prog 97 [.box [.fn 112 [] [.lp 1 0,.lp 2 0],Ii6 a0],.box [Ii6 a1],.box [.sl a2.length (a2.flatMap eU8)]] [.one (.lp 0 0)] (fun y m' => y = .s (.one (.sl r.1.length (r.1.flatMap Dw))) ∧ m' = [.box [.fn 112 [] [.lp 1 0,.lp 2 0],Ii6 r.2.1],.box [Ii6 r.2.2],.box [.sl a2.length (a2.flatMap eU8)]]) := by
 unfold J8 at h
 refine C3 Tryz.func97 rfl (nt := 25) rfl (Nbl rfl) ?_
 intro w0 S0 X0 H0
 refine csr (rm 1 rfl (Al (csr (sv rfl (Bc rfl) ?_))))
 obtain ⟨v1,hv1,h⟩ := Ag h
 refine Da (x' := .s (.one (.i .u64 (v1.1.toNat : Int)))) (M' := [.box [.fn 112 [] [.lp 1 0,.lp 2 0],Ii6 v1.2.1],.box [Ii6 v1.2.2],.box [.sl a2.length (a2.flatMap eU8)]]) [0,1,2] rfl Alu (.func _) (Ab rfl (Ab rfl Af)) (C5 hv1) rfl rfl (by decide) rfl rfl rfl ?_
 refine sv rfl (Gj Tryz.underlying112 Tryz.underlying3 rfl) (rm 1 rfl (Al (Bp (csr (rm 1 rfl (sv rfl (Dr rfl rfl) (Al (ccI h rfl (fun h => ?_) (fun h => ?_)))))))))
 ·refine csr (sv rfl (Bc rfl) ?_)
  obtain ⟨v2,hv2,h⟩ := Ag h
  refine Da (x' := .tup []) (M' := [.box [.fn 112 [] [.lp 1 0,.lp 2 0],Ii6 v2],.box [Ii6 v1.2.2],.box [.sl a2.length (a2.flatMap eU8)]]) [0,1,2] rfl Aqa (.func _) (Ab rfl (Ab rfl Af)) (D6 hv2) rfl rfl (by decide) rfl rfl rfl ?_
  refine Al (csr (rm 1 rfl (Al ?_)))
  refine Ar9 2 rfl (by (repeat' first | exact Kf.nil _ | apply Kf.cons | apply Ke.one | apply Ke.agg | exact Em.nil | exact Em.id _ rfl | exact Dv.nil _ | apply Dv.cons)) ?_
  refine Bg (Ak ?_)
  cases SJ h
  exact ⟨Or.inr rfl,_,[0,1,2],[.one (.sl ([] : List Dk).length (([] : List Dk).flatMap Dw))],[.box [.fn 112 [] [.lp 1 0,.lp 2 0],Ii6 v2],.box [Ii6 v1.2.2],.box [.sl a2.length (a2.flatMap eU8)]],(Aj (Cu.tmp _ _ rfl) As),rfl,rfl,⟨by decide,rfl⟩,rfl,rfl,⟨rfl,rfl⟩⟩
 ·refine Bi (Ac (csr (rm 1 rfl (Al (Bp (csr (rm 2 rfl (Al ?_))))))))
  refine Qq 116 2 4 (by decide) rfl ?_
  refine Gg (Int × Int × (List Dk)) (fun b3 => [(4,.s (.one (.ls 3 b3.2.2.length)))]) (fun b3 => [.box [.fn 112 [] [.lp 1 0,.lp 2 0],Ii6 b3.1],.box [Ii6 b3.2.1],.box [.sl a2.length (a2.flatMap eU8)],.arr 116 2 0 (b3.2.2.flatMap Dw)]) (fun b3 => Jq b3 = some r) (fun _ _ => A6 rfl) (fun _ _ => Ar rfl) (fun _ _ => Nbl rfl) (fun b3 h => ?_) ?_
  ·unfold Jq at h
   refine csr (rm 2 rfl (Al ?_))
   refine Ar9 2 rfl (by (repeat' first | exact Kf.nil _ | apply Kf.cons | apply Ke.one | apply Ke.agg | exact Em.nil | exact Em.ls _ _ _ _ _ _ rfl (A7 (f := Dw) (fun _ => rfl) _).symm | exact Em.id _ rfl | exact Dv.nil _ | apply Dv.cons)) ?_
   refine Bg ?_
   cases SJ h
   exact ⟨Or.inr rfl,_,[0,1,2],[.one (.sl b3.2.2.length (b3.2.2.flatMap Dw))],[.box [.fn 112 [] [.lp 1 0,.lp 2 0],Ii6 b3.1],.box [Ii6 b3.2.1],.box [.sl a2.length (a2.flatMap eU8)]],(Aj (Cu.tmp _ _ rfl) As),rfl,rfl,⟨by decide,rfl⟩,rfl,rfl,⟨rfl,rfl⟩⟩
  ·skip
   refine B3 ?_
   obtain ⟨x4,hx4,ho4⟩ := Ag h
   refine Ct (G := Nat × (Int × Int × Int × (List Dk))) (fun g => [(0,.s (.one (.lp 0 0))),(4,.s (.one (.ls 3 g.2.2.2.2.length))),(12,.s (.one (Ii6 (wI (v1.1.toNat : Int))))),(13,.s (.one (Ii6 g.2.1)))]) (fun g => [.box [.fn 112 [] [.lp 1 0,.lp 2 0],Ii6 g.2.2.1],.box [Ii6 g.2.2.2.1],.box [.sl a2.length (a2.flatMap eU8)],.arr 116 2 0 (g.2.2.2.2.flatMap Dw)]) (fun g => Ec (D5 a2 v1) g.1 g.2 = some x4) (fun g => g.1) (fuel,(0,v1.2.1,v1.2.2,([] : List Dk))) hx4 ⟨rfl,rfl,rfl,rfl,trivial⟩ [] rfl (fun _ _ => A6 rfl) (fun _ _ => Ar rfl) (fun _ _ => Nbl rfl) ?_
   clear hx4 h
   rintro ⟨n4,s4⟩ h
   obtain ⟨n4,y4,rfl,h,hk4⟩ := Fj h
   unfold D5 at h
   refine csr (sv rfl (Ci rfl rfl) (Al (Bp (ccI h rfl (fun h => ?_) (fun h => ?_)))))
   ·refine Bi (Ac (Bp (B3 (Az (rm 1 rfl (sv rfl (Bc rfl) ?_))))))
    obtain ⟨v5,hv5,h⟩ := Ag h
    refine Da (x' := .s (.one (.sl v5.1.length (v5.1.flatMap eU8)))) (M' := [.box [.fn 112 [] [.lp 1 0,.lp 2 0],Ii6 v5.2.1],.box [Ii6 v5.2.2],.box [.sl a2.length (a2.flatMap eU8)],.arr 116 2 0 (s4.2.2.2.flatMap Dw)]) [0,1,2] rfl Avt (.func _) (Ab rfl (Ab rfl Af)) (Lb hv5) rfl rfl (by decide) rfl rfl rfl ?_
    refine sv rfl (Bc rfl) ?_
    obtain ⟨v6,hv6,h⟩ := Ag h
    refine Da (x' := .s (.one (.sl v6.1.length (v6.1.flatMap eU8)))) (M' := [.box [.fn 112 [] [.lp 1 0,.lp 2 0],Ii6 v6.2.1],.box [Ii6 v6.2.2],.box [.sl a2.length (a2.flatMap eU8)],.arr 116 2 0 (s4.2.2.2.flatMap Dw)]) [0,1,2] rfl Avt (.func _) (Ab rfl (Ab rfl Af)) (Lb hv6) rfl rfl (by decide) rfl rfl rfl ?_
    refine sv rfl (Be Ann Aws (Ah rfl (Ah rfl Ay)) (.cons _ _ _ _ _ _ _ rfl rfl (Nbl rfl) (.cons _ _ _ _ _ _ _ rfl rfl (Nbl rfl) (.nil _)))) ?_
    refine O9 rfl Tryz.underlying53 Aub rfl rfl (List.all_eq_true.1 rfl) (by decide) ?_
    refine Bs [.box [.fn 112 [] [.lp 1 0,.lp 2 0],Ii6 v6.2.1],.box [Ii6 v6.2.2],.box [.sl a2.length (a2.flatMap eU8)],.arr 116 2 0 (s4.2.2.2.flatMap Dw),.arr 116 2 0 ([(Dk.mk v5.1 v6.1)].flatMap Dw)] rfl ?_
    obtain ⟨hb7,h⟩ := Dx h
    refine Af4 (f := Dw) (xs := s4.2.2.2) (us := [(Dk.mk v5.1 v6.1)]) rfl Tryz.underlying53 Aub Az4 (fun _ => rfl) rfl rfl (.one _ _ _ _ (.ls _ _ _ _ _ _ rfl (A7 (f := Dw) (fun _ => rfl) [(Dk.mk v5.1 v6.1)]).symm)) rfl rfl rfl (.sl _ _ _ (A7 (f := Dw) (fun _ => rfl) _)) rfl rfl hb7 (by decide) ?_
    refine rm 1 rfl (Mp (Aw (Ac (Az (sv rfl (B4 rfl rfl) (rm 1 rfl (Al ?_)))))))
    cases SJ h
    exact ⟨(n4,((wI (s4.1 + 1)),v6.2.1,v6.2.2,(s4.2.2.2 ++ [(Dk.mk v5.1 v6.1)]))),_,hk4,⟨rfl,rfl,rfl,rfl,trivial⟩,rfl,Nat.lt_succ_self _⟩
   ·refine Kk (Bd (Bd (B8 (Ac ?_))))
    cases SJ h
    obtain rfl : _ = x4 := hk4
    exact ⟨(s4.2.1,s4.2.2.1,s4.2.2.2),_,ho4,⟨rfl,trivial⟩,rfl⟩
def Fo (a0 : Int) (a1 : Int) (a2 : List UInt8) : Option (Int × Int) :=
 (Bo a0 a1 a2).bind fun v1 => if (!decide (v1 = 0)) then (some (v1,a1)) else ((D7 a0 a1 a2).bind fun v2 => if (decide (0 < (v2.2.1.length : Int))) then (some (3,v2.2.2)) else (some (0,v2.2.2)))
theorem Tl {a0 : Int} {a1 : Int} {a2 : List UInt8} {r : Int × Int} (h : Fo a0 a1 a2 = some r) : Hm Tryz.prog 98 [.box [.fn 112 [] [.lp 1 0,.lp 2 0],Ii6 a0],.box [Ii6 a1],.box [.sl a2.length (a2.flatMap eU8)]] [.one (.lp 0 0)] (fun y m' => y = .s (.one (Ii6 r.1)) ∧ m' = [.box [.fn 112 [] [.lp 1 0,.lp 2 0],Ii6 a0],.box [Ii6 r.2],.box [.sl a2.length (a2.flatMap eU8)]]) := by
 unfold Fo at h
 refine C3 Tryz.func98 rfl (nt := 19) rfl (Nbl rfl) ?_
 intro w0 S0 X0 H0
 refine csr (rm 1 rfl (Al (Bp (csr (sv rfl (Bc rfl) ?_)))))
 obtain ⟨v1,hv1,h⟩ := Ag h
 refine Da (x' := .s (.one (Ii6 v1))) (M' := [.box [.fn 112 [] [.lp 1 0,.lp 2 0],Ii6 a0],.box [Ii6 a1],.box [.sl a2.length (a2.flatMap eU8)]]) [0,1,2] rfl Amg (.func _) (Ab rfl Af) (Ix hv1) rfl rfl (by decide) rfl rfl rfl ?_
 refine rm 1 rfl (Al (csr (rm 1 rfl (sv rfl (Bt rfl rfl) (Al (ccI h rfl (fun h => ?_) (fun h => ?_)))))))
 ·refine csr (rm 2 rfl (Al (Bg (Ak ?_))))
  cases SJ h
  exact ⟨Or.inr rfl,_,[0,1,2],[.one (Ii6 v1)],[.box [.fn 112 [] [.lp 1 0,.lp 2 0],Ii6 a0],.box [Ii6 a1],.box [.sl a2.length (a2.flatMap eU8)]],(Aj (Cu.tmp _ _ rfl) As),rfl,rfl,⟨by decide,rfl⟩,rfl,rfl,⟨rfl,rfl⟩⟩
 ·refine Bi (Ac (Bp (csr (sv rfl (Bc rfl) ?_))))
  obtain ⟨v2,hv2,h⟩ := Ag h
  refine Da (x' := .tup [.one (Ii6 v2.1),.one (.sl v2.2.1.length (v2.2.1.flatMap eU8))]) (M' := [.box [.fn 112 [] [.lp 1 0,.lp 2 0],Ii6 a0],.box [Ii6 v2.2.2],.box [.sl a2.length (a2.flatMap eU8)]]) [0,1,2] rfl Asv (.func _) (Ab rfl Af) (Nn hv2) rfl rfl (by decide) rfl rfl rfl ?_
  refine sv rfl (Gc rfl) (sv rfl (A4 rfl rfl) (sv rfl (A4 rfl rfl) (rm 2 rfl (Al (csr (rm 1 rfl (sv rfl (Aq Mi rfl) (sv rfl (Dr rfl rfl) (Al (ccI h rfl (fun h => ?_) (fun h => ?_)))))))))))
  ·refine csr (rm 1 rfl (Al (Bg (Ak ?_))))
   cases SJ h
   exact ⟨Or.inr rfl,_,[0,1,2],[.one (Ii6 3)],[.box [.fn 112 [] [.lp 1 0,.lp 2 0],Ii6 a0],.box [Ii6 v2.2.2],.box [.sl a2.length (a2.flatMap eU8)]],(Aj (Cu.tmp _ _ rfl) As),rfl,rfl,⟨by decide,rfl⟩,rfl,rfl,⟨rfl,rfl⟩⟩
  ·refine Bi (Ac (csr (rm 1 rfl (Al (Bg ?_)))))
   cases SJ h
   exact ⟨Or.inr rfl,_,[0,1,2],[.one (Ii6 0)],[.box [.fn 112 [] [.lp 1 0,.lp 2 0],Ii6 a0],.box [Ii6 v2.2.2],.box [.sl a2.length (a2.flatMap eU8)]],(Aj (Cu.tmp _ _ rfl) As),rfl,rfl,⟨by decide,rfl⟩,rfl,rfl,⟨rfl,rfl⟩⟩
def Ey (v1 : Int × Int × (List UInt8)) (v2 : (BitVec 64) × Int × Int) (v3 : (BitVec 64) × Int × Int) (b4 : Int) : Option (Ba × Int) :=
 (Ax 1 b4 v3.2.2 v1.2.2).bind fun v5 => (Ax 8 v5.2.1 v5.2.2 v1.2.2).bind fun v6 => (Gf v6.2.1 v6.2.2 v1.2.2).bind fun v7 => (Cz 32 v7.2.1 v7.2.2 v1.2.2).bind fun v8 => (J8 v8.2.1 v8.2.2 v1.2.2).bind fun v9 => (Fo v9.2.1 v9.2.2 v1.2.2).bind fun v10 => if (!decide (v10.1 = 0)) then (some (Aa2,v10.1)) else ((Fs (Ba.mk (wI (v2.1.toNat : Int)) (wI (v3.1.toNat : Int)) (wI (v5.1.toNat : Int)) (wI (v6.1.toNat : Int)) v7.1 v8.1 v9.1)).bind fun v11 => if (!v11) then (some (Aa2,3)) else (some ((Ba.mk (wI (v2.1.toNat : Int)) (wI (v3.1.toNat : Int)) (wI (v5.1.toNat : Int)) (wI (v6.1.toNat : Int)) v7.1 v8.1 v9.1),0)))
def Eo (a0 : List UInt8) : Option (Ba × Int) :=
 (Ki a0).bind fun v1 => (Ax 1 v1.1 v1.2.1 v1.2.2).bind fun v2 => (Ax 4 v2.2.1 v2.2.2 v1.2.2).bind fun v3 => if (!decide ((wI (v2.1.toNat : Int)) = 0)) then ((H6 (wI (v2.1.toNat : Int))).bind fun v12 => if (!v12) then ((B0 3 v3.2.1 v3.2.2 v1.2.2).bind fun v13 => Ey v1 v2 v3 v13) else (Ey v1 v2 v3 v3.2.1)) else (Ey v1 v2 v3 v3.2.1)
theorem Uw {a0 : List UInt8} {r : Ba × Int} (h : Eo a0 = some r) : Bl Tryz.prog 78 [.one (.sl a0.length (a0.flatMap eU8))] (· = .tup [.agg (el r.1),.one (Ii6 r.2)]) := by
 unfold Eo at h
 refine Au Tryz.func78 rfl (nt := 55) rfl (Nbl rfl) ?_
 intro w0 S0
 refine csr (Bw rfl Alv (rm 1 rfl (Al (csr (sv rfl (Bc rfl) ?_)))))
 obtain ⟨v1,hv1,h⟩ := Ag h
 refine Da (x' := .s (.one (.lp 1 0))) (M' := [.box Zbd,.box [.fn 112 [] [.lp 2 0,.lp 3 0],Ii6 v1.1],.box [Ii6 v1.2.1],.box [.sl v1.2.2.length (v1.2.2.flatMap eU8)]]) [] rfl Axz (.func _) (Ab rfl Af) (Qw hv1) rfl rfl (by decide) rfl rfl rfl ?_
 refine rm 1 rfl (Al (csr (sv rfl (Bc rfl) ?_)))
 obtain ⟨v2,hv2,h⟩ := Ag h
 refine Da (x' := .s (.one (.i .u64 (v2.1.toNat : Int)))) (M' := [.box Zbd,.box [.fn 112 [] [.lp 2 0,.lp 3 0],Ii6 v2.2.1],.box [Ii6 v2.2.2],.box [.sl v1.2.2.length (v1.2.2.flatMap eU8)]]) [1,2,3] rfl Alu (.func _) (Ab rfl (Ab rfl Af)) (C5 hv2) rfl rfl (by decide) rfl rfl rfl ?_
 refine sv rfl (Gj Tryz.underlying112 Tryz.underlying3 rfl) (sv rfl (Bc rfl) ?_)
 obtain ⟨v3,hv3,h⟩ := Ag h
 refine Da (x' := .s (.one (.i .u64 (v3.1.toNat : Int)))) (M' := [.box Zbd,.box [.fn 112 [] [.lp 2 0,.lp 3 0],Ii6 v3.2.1],.box [Ii6 v3.2.2],.box [.sl v1.2.2.length (v1.2.2.flatMap eU8)]]) [1,2,3] rfl Alu (.func _) (Ab rfl (Ab rfl Af)) (C5 hv3) rfl rfl (by decide) rfl rfl rfl ?_
 refine sv rfl (Gj Tryz.underlying112 Tryz.underlying3 rfl) (sv rfl (Be Alv Atc (Ah rfl (Ah rfl Ay)) (.cons _ _ _ _ _ _ _ rfl rfl (Nbl rfl) (.cons _ _ _ _ _ _ _ rfl rfl (Nbl rfl) (.nil _)))) (Bw rfl Alv (An Aqo rfl rfl rfl rfl (Nbl rfl) (Bs [.box Zbd,.box [.fn 112 [] [.lp 2 0,.lp 3 0],Ii6 v3.2.1],.box [Ii6 v3.2.2],.box [.sl v1.2.2.length (v1.2.2.flatMap eU8)],.box [Ii6 (wI (v2.1.toNat : Int)),Ii6 (wI (v3.1.toNat : Int)),Ii6 0,Ii6 0,.b false,Znl,Znl]] rfl (Al (Bp (Bp (Jk (Int) (fun b4 => [(2,.s (.one (.lp 0 0))),(4,.s (.one (.lp 1 0))),(5,.s (.one (.lp 4 0)))]) (fun b4 => [.box Zbd,.box [.fn 112 [] [.lp 2 0,.lp 3 0],Ii6 b4],.box [Ii6 v3.2.2],.box [.sl v1.2.2.length (v1.2.2.flatMap eU8)],.box [Ii6 (wI (v2.1.toNat : Int)),Ii6 (wI (v3.1.toNat : Int)),Ii6 0,Ii6 0,.b false,Znl,Znl]]) (fun b4 => Ey v1 v2 v3 b4 = some r) (fun _ _ => A6 rfl) (fun _ _ => Ar rfl) (fun _ _ => Nbl rfl) (fun b4 h => ?_) ?_))))))))
 ·unfold Ey at h
  refine csr (sv rfl (Bc rfl) ?_)
  obtain ⟨v5,hv5,h⟩ := Ag h
  refine Da (x' := .s (.one (.i .u64 (v5.1.toNat : Int)))) (M' := [.box Zbd,.box [.fn 112 [] [.lp 2 0,.lp 3 0],Ii6 v5.2.1],.box [Ii6 v5.2.2],.box [.sl v1.2.2.length (v1.2.2.flatMap eU8)],.box [Ii6 (wI (v2.1.toNat : Int)),Ii6 (wI (v3.1.toNat : Int)),Ii6 0,Ii6 0,.b false,Znl,Znl]]) [1,2,3] rfl Alu (.func _) (Ab rfl (Ab rfl Af)) (C5 hv5) rfl rfl (by decide) rfl rfl rfl ?_
  refine sv rfl (Gj Tryz.underlying112 Tryz.underlying38 rfl) (sv rfl (Aa S7 rfl) (An Ayw rfl rfl rfl rfl (Nbl rfl) (Bs [.box Zbd,.box [.fn 112 [] [.lp 2 0,.lp 3 0],Ii6 v5.2.1],.box [Ii6 v5.2.2],.box [.sl v1.2.2.length (v1.2.2.flatMap eU8)],.box [Ii6 (wI (v2.1.toNat : Int)),Ii6 (wI (v3.1.toNat : Int)),Ii6 (wI (v5.1.toNat : Int)),Ii6 0,.b false,Znl,Znl]] rfl (Al (csr (sv rfl (Bc rfl) ?_))))))
  obtain ⟨v6,hv6,h⟩ := Ag h
  refine Da (x' := .s (.one (.i .u64 (v6.1.toNat : Int)))) (M' := [.box Zbd,.box [.fn 112 [] [.lp 2 0,.lp 3 0],Ii6 v6.2.1],.box [Ii6 v6.2.2],.box [.sl v1.2.2.length (v1.2.2.flatMap eU8)],.box [Ii6 (wI (v2.1.toNat : Int)),Ii6 (wI (v3.1.toNat : Int)),Ii6 (wI (v5.1.toNat : Int)),Ii6 0,.b false,Znl,Znl]]) [1,2,3] rfl Alu (.func _) (Ab rfl (Ab rfl Af)) (C5 hv6) rfl rfl (by decide) rfl rfl rfl ?_
  refine sv rfl (Gj Tryz.underlying112 Tryz.underlying3 rfl) (sv rfl (Aa Tt rfl) (An sz3 rfl rfl rfl rfl (Nbl rfl) (Bs [.box Zbd,.box [.fn 112 [] [.lp 2 0,.lp 3 0],Ii6 v6.2.1],.box [Ii6 v6.2.2],.box [.sl v1.2.2.length (v1.2.2.flatMap eU8)],.box [Ii6 (wI (v2.1.toNat : Int)),Ii6 (wI (v3.1.toNat : Int)),Ii6 (wI (v5.1.toNat : Int)),Ii6 (wI (v6.1.toNat : Int)),.b false,Znl,Znl]] rfl (Al (csr (sv rfl (Bc rfl) ?_))))))
  obtain ⟨v7,hv7,h⟩ := Ag h
  refine Da (x' := .s (.one (.b v7.1))) (M' := [.box Zbd,.box [.fn 112 [] [.lp 2 0,.lp 3 0],Ii6 v7.2.1],.box [Ii6 v7.2.2],.box [.sl v1.2.2.length (v1.2.2.flatMap eU8)],.box [Ii6 (wI (v2.1.toNat : Int)),Ii6 (wI (v3.1.toNat : Int)),Ii6 (wI (v5.1.toNat : Int)),Ii6 (wI (v6.1.toNat : Int)),.b false,Znl,Znl]]) [1,2,3] rfl A1f (.func _) (Ab rfl Af) (Su hv7) rfl rfl (by decide) rfl rfl rfl ?_
  refine sv rfl (Aa Acw rfl) (An sz4 rfl rfl rfl rfl (Nbl rfl) (Bs [.box Zbd,.box [.fn 112 [] [.lp 2 0,.lp 3 0],Ii6 v7.2.1],.box [Ii6 v7.2.2],.box [.sl v1.2.2.length (v1.2.2.flatMap eU8)],.box [Ii6 (wI (v2.1.toNat : Int)),Ii6 (wI (v3.1.toNat : Int)),Ii6 (wI (v5.1.toNat : Int)),Ii6 (wI (v6.1.toNat : Int)),.b v7.1,Znl,Znl]] rfl (Al (csr (sv rfl (Bc rfl) ?_)))))
  obtain ⟨v8,hv8,h⟩ := Ag h
  refine Da (x' := .s (.one (.sl v8.1.length (v8.1.flatMap eU8)))) (M' := [.box Zbd,.box [.fn 112 [] [.lp 2 0,.lp 3 0],Ii6 v8.2.1],.box [Ii6 v8.2.2],.box [.sl v1.2.2.length (v1.2.2.flatMap eU8)],.box [Ii6 (wI (v2.1.toNat : Int)),Ii6 (wI (v3.1.toNat : Int)),Ii6 (wI (v5.1.toNat : Int)),Ii6 (wI (v6.1.toNat : Int)),.b v7.1,Znl,Znl]]) [1,2,3] rfl Avt (.func _) (Ab rfl (Ab rfl Af)) (Lb hv8) rfl rfl (by decide) rfl rfl rfl ?_
  refine sv rfl (Aa Adk rfl) (An Auy rfl rfl rfl rfl (Nbl rfl) (Bs [.box Zbd,.box [.fn 112 [] [.lp 2 0,.lp 3 0],Ii6 v8.2.1],.box [Ii6 v8.2.2],.box [.sl v1.2.2.length (v1.2.2.flatMap eU8)],.box [Ii6 (wI (v2.1.toNat : Int)),Ii6 (wI (v3.1.toNat : Int)),Ii6 (wI (v5.1.toNat : Int)),Ii6 (wI (v6.1.toNat : Int)),.b v7.1,.sl v8.1.length (v8.1.flatMap eU8),Znl]] rfl (Al (csr (sv rfl (Bc rfl) ?_)))))
  obtain ⟨v9,hv9,h⟩ := Ag h
  refine Da (x' := .s (.one (.sl v9.1.length (v9.1.flatMap Dw)))) (M' := [.box Zbd,.box [.fn 112 [] [.lp 2 0,.lp 3 0],Ii6 v9.2.1],.box [Ii6 v9.2.2],.box [.sl v1.2.2.length (v1.2.2.flatMap eU8)],.box [Ii6 (wI (v2.1.toNat : Int)),Ii6 (wI (v3.1.toNat : Int)),Ii6 (wI (v5.1.toNat : Int)),Ii6 (wI (v6.1.toNat : Int)),.b v7.1,.sl v8.1.length (v8.1.flatMap eU8),Znl]]) [1,2,3] rfl A0s (.func _) (Ab rfl Af) (U0 hv9) rfl rfl (by decide) rfl rfl rfl ?_
  refine sv rfl (Aa Xd rfl) (An A0f rfl rfl rfl rfl (Nbl rfl) (Bs [.box Zbd,.box [.fn 112 [] [.lp 2 0,.lp 3 0],Ii6 v9.2.1],.box [Ii6 v9.2.2],.box [.sl v1.2.2.length (v1.2.2.flatMap eU8)],.box [Ii6 (wI (v2.1.toNat : Int)),Ii6 (wI (v3.1.toNat : Int)),Ii6 (wI (v5.1.toNat : Int)),Ii6 (wI (v6.1.toNat : Int)),.b v7.1,.sl v8.1.length (v8.1.flatMap eU8),.sl v9.1.length (v9.1.flatMap Dw)]] rfl (Al (Bp (csr (sv rfl (Bc rfl) ?_))))))
  obtain ⟨v10,hv10,h⟩ := Ag h
  refine Da (x' := .s (.one (Ii6 v10.1))) (M' := [.box Zbd,.box [.fn 112 [] [.lp 2 0,.lp 3 0],Ii6 v9.2.1],.box [Ii6 v10.2],.box [.sl v1.2.2.length (v1.2.2.flatMap eU8)],.box [Ii6 (wI (v2.1.toNat : Int)),Ii6 (wI (v3.1.toNat : Int)),Ii6 (wI (v5.1.toNat : Int)),Ii6 (wI (v6.1.toNat : Int)),.b v7.1,.sl v8.1.length (v8.1.flatMap eU8),.sl v9.1.length (v9.1.flatMap Dw)]]) [1,2,3] rfl A1h (.func _) (Ab rfl Af) (Tl hv10) rfl rfl (by decide) rfl rfl rfl ?_
  refine rm 1 rfl (Al (csr (rm 1 rfl (sv rfl (Bt rfl rfl) (Al (ccI h rfl (fun h => ?_) (fun h => ?_)))))))
  ·refine csr (sv rfl (Be Alv Atc Ay (.nil _)) (rm 1 rfl (An Aqo rfl rfl rfl rfl (Nbl rfl) (Bs [.box Zbd,.box [.fn 112 [] [.lp 2 0,.lp 3 0],Ii6 v9.2.1],.box [Ii6 v10.2],.box [.sl v1.2.2.length (v1.2.2.flatMap eU8)],.box [Ii6 (wI (v2.1.toNat : Int)),Ii6 (wI (v3.1.toNat : Int)),Ii6 (wI (v5.1.toNat : Int)),Ii6 (wI (v6.1.toNat : Int)),.b v7.1,.sl v8.1.length (v8.1.flatMap eU8),.sl v9.1.length (v9.1.flatMap Dw)]] rfl (rm 1 rfl (Al (Bg (Ak ?_))))))))
   cases SJ h
   refine ⟨Or.inr rfl,_,_,_,(Aj (Cu.agg _ _ _ _ _ Ady rfl (.lp _ _ _ rfl) (Nbl rfl)) (Aj (Cu.tmp _ _ rfl) As)),(O4 rfl),?_⟩
   rfl
  ·refine Bi (Ac (Bp (csr (sv rfl (Ai Ady rfl (.lp _ _ _ rfl) (Nbl rfl)) ?_))))
   obtain ⟨v11,hv11,h⟩ := Ag h
   refine Av rfl Azb (Ab rfl Af) (Ao rfl) (P2 hv11) (sv rfl (B5 rfl) (Al (ccI h rfl (fun h => ?_) (fun h => ?_))))
   ·refine csr (sv rfl (Be Alv Atc Ay (.nil _)) (An Aqo rfl rfl rfl rfl (Nbl rfl) (Bs [.box Zbd,.box [.fn 112 [] [.lp 2 0,.lp 3 0],Ii6 v9.2.1],.box [Ii6 v10.2],.box [.sl v1.2.2.length (v1.2.2.flatMap eU8)],.box [Ii6 (wI (v2.1.toNat : Int)),Ii6 (wI (v3.1.toNat : Int)),Ii6 (wI (v5.1.toNat : Int)),Ii6 (wI (v6.1.toNat : Int)),.b v7.1,.sl v8.1.length (v8.1.flatMap eU8),.sl v9.1.length (v9.1.flatMap Dw)]] rfl (rm 1 rfl (Al (Bg (Ak ?_)))))))
    cases SJ h
    refine ⟨Or.inr rfl,_,_,_,(Aj (Cu.agg _ _ _ _ _ Ady rfl (.lp _ _ _ rfl) (Nbl rfl)) (Aj (Cu.tmp _ _ rfl) As)),(O4 rfl),?_⟩
    rfl
   ·refine Bi (Ac (csr (sv rfl (Ai Ady rfl (.lp _ _ _ rfl) (Nbl rfl)) (An Aqo rfl rfl rfl rfl (Nbl rfl) (Bs [.box [Ii6 (wI (v2.1.toNat : Int)),Ii6 (wI (v3.1.toNat : Int)),Ii6 (wI (v5.1.toNat : Int)),Ii6 (wI (v6.1.toNat : Int)),.b v7.1,.sl v8.1.length (v8.1.flatMap eU8),.sl v9.1.length (v9.1.flatMap Dw)],.box [.fn 112 [] [.lp 2 0,.lp 3 0],Ii6 v9.2.1],.box [Ii6 v10.2],.box [.sl v1.2.2.length (v1.2.2.flatMap eU8)],.box [Ii6 (wI (v2.1.toNat : Int)),Ii6 (wI (v3.1.toNat : Int)),Ii6 (wI (v5.1.toNat : Int)),Ii6 (wI (v6.1.toNat : Int)),.b v7.1,.sl v8.1.length (v8.1.flatMap eU8),.sl v9.1.length (v9.1.flatMap Dw)]] rfl (rm 1 rfl (Al (Bg ?_))))))))
    cases SJ h
    refine ⟨Or.inr rfl,_,_,_,(Aj (Cu.agg _ _ _ _ _ Ady rfl (.lp _ _ _ rfl) (Nbl rfl)) (Aj (Cu.tmp _ _ rfl) As)),(Ao rfl),?_⟩
    rfl
 ·skip
  refine Az (fl Rq ti3 rfl rfl rfl rfl rfl rfl (sv rfl (Bt rfl rfl) (rm 1 rfl (Bf 19 rfl (fun hc => ?_) (fun hc => ?_)))))
  ·replace h := Br hc h
   clear hc
   refine son rfl rfl rfl (sv rfl (Aa Rq rfl) (son rfl rfl rfl (sv rfl (Ae ti3 rfl (.lp _ _ _ rfl) rfl) (son rfl rfl rfl ?_))))
   obtain ⟨v12,hv12,h⟩ := Ag h
   refine Av rfl Au0 (Ab rfl Af) (Ao rfl) (M6 hv12) (son rfl rfl rfl (sv rfl (B5 rfl) (rm 1 rfl (Al (ccI h rfl (fun h => ?_) (fun h => ?_))))))
   ·refine Az (sv rfl (Bc rfl) ?_)
    obtain ⟨v13,hv13,h⟩ := Ag h
    refine Da (x' := .tup []) (M' := [.box Zbd,.box [.fn 112 [] [.lp 2 0,.lp 3 0],Ii6 v13],.box [Ii6 v3.2.2],.box [.sl v1.2.2.length (v1.2.2.flatMap eU8)],.box [Ii6 (wI (v2.1.toNat : Int)),Ii6 (wI (v3.1.toNat : Int)),Ii6 0,Ii6 0,.b false,Znl,Znl]]) [1,2,3] rfl Aqa (.func _) (Ab rfl (Ab rfl Af)) (D6 hv13) rfl rfl (by decide) rfl rfl rfl ?_
    refine Al ?_
    exact ⟨v13,_,h,⟨rfl,rfl,rfl,trivial⟩,rfl⟩
   ·refine Bi (Ac ?_)
    exact ⟨v3.2.1,_,h,⟨rfl,rfl,rfl,trivial⟩,rfl⟩
  ·replace h := Bq hc h
   clear hc
   refine rm 5 rfl (Al (Ei rfl (fun hx => Bool.noConfusion hx) (fun _ => ?_)))
   refine Bi (Ac ?_)
   exact ⟨v3.2.1,_,h,⟨rfl,rfl,rfl,trivial⟩,rfl⟩
def I4 (a0 : List Am) : Option (List Am) :=
 if (([] : List Am).length + a0.length) * 40 ≤ 140737488355328 then (some (([] : List Am) ++ a0)) else none
theorem Uh {a0 : List Am} {r : (List Am)} (h : I4 a0 = some r) : Hm Tryz.prog 106 [] [.one (.sl a0.length (a0.flatMap Ap))] (fun y m' => y = .s (.one (.ls 0 r.length)) ∧ m' = [.arr 94 3 0 (r.flatMap Ap)]) := by
 unfold I4 at h
 refine C3 Tryz.func106 rfl (nt := 8) rfl (Nbl rfl) ?_
 intro w0 S0 X0 H0
 refine csr (rm 1 rfl (Al (Bp (csr (rm 1 rfl (Aqi rfl Tryz.underlying29 rfl (fun nq hnq => ?_)))))))
 cases nq
 ·skip
  refine Al (Ei rfl (fun hx => Bool.noConfusion hx) (fun _ => ?_))
  refine Bi (Ac (csr (Ad3 rfl Tryz.underlying29 Atg (sv rfl (Bc rfl) ?_))))
  obtain ⟨hb1,h⟩ := Dx h
  refine Af4 (f := Ap) (xs := ([] : List Am)) (us := a0) rfl Tryz.underlying29 Atg Ayh (fun _ => rfl) rfl rfl (.one _ _ _ _ (.id _ rfl)) rfl rfl rfl (.sl _ _ _ (A7 (f := Ap) (fun _ => rfl) _)) rfl rfl hb1 (by decide) ?_
  refine rm 1 rfl (Al (Bg ?_))
  cases SJ h
  exact ⟨Or.inr rfl,_,[0],[.one (.ls 0 (([] : List Am) ++ a0).length)],[.arr 94 3 0 ((([] : List Am) ++ a0).flatMap Ap)],(Aj (Cu.tmp _ _ rfl) As),rfl,rfl,⟨by decide,rfl⟩,rfl,rfl,⟨rfl,rfl⟩⟩
 ·obtain rfl := List.eq_nil_of_length_eq_zero (hnq rfl)
  replace h : (some ([] : List Am)) = some r := by first | exact h | (rw [if_pos (by decide)] at h; exact h)
  refine Al (Ei rfl (fun _ => ?_) (fun hx => Bool.noConfusion hx))
  refine csr (rm 1 rfl (Al ?_))
  refine Qq 94 3 2 (by decide) rfl ?_
  refine Bg (Ak ?_)
  cases SJ h
  exact ⟨Or.inr rfl,_,[0],[.one (.ls 0 ([] : List Am).length)],[.arr 94 3 0 (([] : List Am).flatMap Ap)],(Aj (Cu.tmp _ _ rfl) As),rfl,rfl,⟨by decide,rfl⟩,rfl,rfl,⟨rfl,rfl⟩⟩
def E3 (a0 : Ad) : Option Ad :=
 (cut a0.Tasks 1 (a0.Tasks.length : Int)).bind fun c1 => (I4 c1).bind fun v2 => some (Ad.mk (Cx.mk a0.Cfg.Who (D3.mk a0.Cfg.Plan.Wait a0.Cfg.Plan.Most a0.Cfg.Plan.Tries) a0.Cfg.Attempts a0.Cfg.Budget) v2 a0.Phase a0.Epoch a0.Seq 0 a0.Sent a0.Left a0.Resets a0.Risk (A1.mk a0.St.PC (Ee.mk a0.St.Regs.R0 a0.St.Regs.R1 a0.St.Regs.R2 a0.St.Regs.R3 a0.St.Regs.R4 a0.St.Regs.R5 a0.St.Regs.R6 a0.St.Regs.R7) a0.St.Stopped) (B7.mk a0.Req.Kind a0.Req.Seq a0.Req.Token a0.Req.Attempt a0.Req.RO a0.Req.Key a0.Req.Val (B2.mk a0.Req.Rng.Lo a0.Req.Rng.Hi a0.Req.Rng.Open)) (A0.mk a0.In.Buf a0.In.Dead) a0.Out a0.Done a0.Tried)
theorem Nf {a0 : Ad} {r : Ad} (h : E3 a0 = some r) : Bl Tryz.prog 80 [.agg (el a0)] (· = .s (.agg (el r))) := by
 unfold E3 at h
 refine Au Tryz.func80 rfl (nt := 10) rfl (Nbl rfl) ?_
 intro w0 S0
 refine csr (Ih rfl rfl (Bw rfl O1 (Al (csr (sv rfl (Aa Lw rfl) (sv rfl (Ae Zp rfl (.lp _ _ _ rfl) rfl) ?_))))))
 obtain ⟨c1,hc1,h⟩ := Ag h
 refine sv rfl (Ut (f := Ap) (lo := 1) (hi := (a0.Tasks.length : Int)) Vl (fun _ => rfl) rfl rfl rfl (H8 rfl (L9 hc1).1.1) (by exact rfl) hc1) ?_
 obtain ⟨v2,hv2,h⟩ := Ag h
 refine Da (x' := .s (.one (.ls 2 v2.length))) (M' := [.box (el a0),.box Zba,.arr 94 3 0 (v2.flatMap Ap)]) [] rfl Awr (.func _) (Ab rfl Af) (Uh hv2) rfl rfl (by decide) rfl rfl rfl ?_
 refine sv rfl (Aa Lw rfl) (An Ax6 rfl rfl rfl rfl (Nbl rfl) (Bs [.box ((el a0).set 6 (.ls 2 v2.length)),.box Zba,.arr 94 3 0 (v2.flatMap Ap)] rfl (Al (csr (sv rfl (Aa Pd rfl) (An sz3 rfl rfl rfl rfl (Nbl rfl) (Bs [.box ((el {a0 with Attempt := 0}).set 6 (.ls 2 v2.length)),.box Zba,.arr 94 3 0 (v2.flatMap Ap)] rfl (Al (csr (sv rfl (Ai B6 rfl (.lp _ _ _ rfl) (Nbl rfl)) (An E2 rfl rfl rfl rfl (Nbl rfl) (Bs [.box ((el {a0 with Attempt := 0}).set 6 (.ls 2 v2.length)),.box ((el {a0 with Attempt := 0}).set 6 (.ls 2 v2.length)),.arr 94 3 0 (v2.flatMap Ap)] rfl (Al (Bg ?_))))))))))))))
 cases SJ h
 refine ⟨Or.inr rfl,_,_,_,(Aj (Cu.agg _ _ _ _ _ B6 rfl (.lp _ _ _ rfl) (Nbl rfl)) As),(by (repeat' first | exact Kf.nil _ | apply Kf.cons | apply Ke.one | apply Ke.agg | exact Em.nil | exact Em.ls _ _ _ _ _ _ rfl (A7 (f := Ap) (fun _ => rfl) _).symm | exact Em.id _ rfl | exact Dv.nil _ | apply Dv.cons)),?_⟩
 rfl
def Fc (b2 : Ad) : Option Ad :=
 some ({b2 with Phase := 1,Epoch := (wI (b2.Epoch + 1)),Left := 0})
def Ha (a0 : Ad) (b1 : Unit) : Option Ad :=
 if (decide (a0.Phase = 9)) then ((E3 ({a0 with Resets := (if 1001 < (wI (a0.Resets + 1)) then 1001 else (wI (a0.Resets + 1))),In := (A0.mk ([] : List UInt8) 0),Out := ([] : List UInt8)})).bind fun v3 => Fc v3) else (Fc ({a0 with Resets := (if 1001 < (wI (a0.Resets + 1)) then 1001 else (wI (a0.Resets + 1))),In := (A0.mk ([] : List UInt8) 0),Out := ([] : List UInt8)}))
def Cy (a0 : Ad) : Option Ad :=
 if (decide (a0.Cfg.Budget < (if 1001 < (wI (a0.Resets + 1)) then 1001 else (wI (a0.Resets + 1))))) then ((Ch ({a0 with Resets := (if 1001 < (wI (a0.Resets + 1)) then 1001 else (wI (a0.Resets + 1))),In := (A0.mk ([] : List UInt8) 0),Out := ([] : List UInt8)})).bind fun v4 => some v4) else (if (decide (65535 ≤ a0.Epoch)) then ((Ch ({a0 with Resets := (if 1001 < (wI (a0.Resets + 1)) then 1001 else (wI (a0.Resets + 1))),In := (A0.mk ([] : List UInt8) 0),Out := ([] : List UInt8)})).bind fun v5 => some v5) else (Ha a0 ()))
theorem Fy {a0 : Ad} {r : Ad} (h : Cy a0 = some r) : Bl Tryz.prog 47 [.agg (el a0)] (· = .s (.agg (el r))) := by
 unfold Cy at h
 refine Au Tryz.func47 rfl (nt := 36) rfl (Nbl rfl) ?_
 intro w0 S0
 refine csr (Ih rfl rfl (Bw rfl O1 (Al (csr (fl Acv ti3 rfl rfl rfl rfl rfl rfl (sv rfl (B4 rfl rfl) (sv rfl (Vf rfl rfl) (sv rfl (Aa Acv rfl) (An sz3 rfl rfl rfl rfl (Nbl rfl) (Bs [.box (el {a0 with Resets := if 1001 < (wI (a0.Resets + 1)) then 1001 else (wI (a0.Resets + 1))}),.box Zba] rfl (Al (csr (sv rfl (Aa Rt rfl) (An Auy rfl rfl rfl rfl (Nbl rfl) (Bs [.box ((el {a0 with Resets := if 1001 < (wI (a0.Resets + 1)) then 1001 else (wI (a0.Resets + 1))}).set 37 (Znl)),.box Zba] rfl (Al (csr (sv rfl (Be Ar1 Au4 Ay (.nil _)) (sv rfl (Aa Tf rfl) (An Ap5 rfl rfl rfl rfl (Nbl rfl) (Bs [.box (((el {a0 with Resets := if 1001 < (wI (a0.Resets + 1)) then 1001 else (wI (a0.Resets + 1)),In.Dead := 0}).set 35 (Znl)).set 37 (Znl)),.box Zba] rfl (Al (Bp (Bp (Jk (Unit) (fun b1 => [(1,.s (.one (.lp 0 0))),(2,.s (.one (.lp 1 0)))]) (fun b1 => [.box (((el {a0 with Resets := if 1001 < (wI (a0.Resets + 1)) then 1001 else (wI (a0.Resets + 1)),In.Dead := 0}).set 35 (Znl)).set 37 (Znl)),.box Zba]) (fun b1 => Ha a0 b1 = some r) (fun _ _ => A6 rfl) (fun _ _ => Ar rfl) (fun _ _ => Nbl rfl) (fun b1 h => ?_) ?_)))))))))))))))))))))))))
 ·unfold Ha at h
  refine Bp (csr (fl G8 ti3 rfl rfl rfl rfl rfl rfl (sv rfl (Bn rfl rfl) (Al (Gg (Ad) (fun b2 => [(1,.s (.one (.lp 0 0))),(2,.s (.one (.lp 1 0)))]) (fun b2 => [.box (el b2),.box Zba]) (fun b2 => Fc b2 = some r) (fun _ _ => A6 rfl) (fun _ _ => Ar rfl) (fun _ _ => Nbl rfl) (fun b2 h => ?_) ?_)))))
  ·unfold Fc at h
   refine csr (sv rfl (Aa G8 rfl) (An sz3 rfl rfl rfl rfl (Nbl rfl) (Bs [.box (el {b2 with Phase := 1}),.box Zba] rfl (Al (csr (fl Aar ti3 rfl rfl rfl rfl rfl rfl (sv rfl (B4 rfl rfl) (sv rfl (Aa Aar rfl) (An sz3 rfl rfl rfl rfl (Nbl rfl) (Bs [.box (el {b2 with Phase := 1,Epoch := wI (b2.Epoch + 1)}),.box Zba] rfl (Al (csr (sv rfl (Aa Sf rfl) (An sz3 rfl rfl rfl rfl (Nbl rfl) (Bs [.box (el {b2 with Phase := 1,Epoch := wI (b2.Epoch + 1),Left := 0}),.box Zba] rfl (Al (csr (sv rfl (Ai B6 rfl (.lp _ _ _ rfl) (Nbl rfl)) (An E2 rfl rfl rfl rfl (Nbl rfl) (Bs [.box (el {b2 with Phase := 1,Epoch := wI (b2.Epoch + 1),Left := 0}),.box (el {b2 with Phase := 1,Epoch := wI (b2.Epoch + 1),Left := 0})] rfl (Al (Bg ?_))))))))))))))))))))))
   cases SJ h
   exact dnA rfl B6 rfl (.lp _ _ _ rfl) (Nbl rfl) rfl rfl
  ·skip
   refine ccI h rfl (fun h => ?_) (fun h => ?_)
   ·refine Az (sv rfl (Ai B6 rfl (.lp _ _ _ rfl) (Nbl rfl)) ?_)
    obtain ⟨v3,hv3,h⟩ := Ag h
    refine Av rfl Ay8 (Ab rfl Af) (O4 rfl) (Nf hv3) (An E2 rfl rfl rfl rfl (Nbl rfl) (Bs [.box (el v3),.box Zba] rfl (Al ?_)))
    exact ⟨v3,_,h,⟨rfl,rfl,trivial⟩,rfl⟩
   ·refine Ab0 0 35 rfl rfl Em.nil rfl (Ab0 0 37 rfl rfl Em.nil rfl (Bi (Ac ?_)))
    exact ⟨{a0 with Resets := (if 1001 < (wI (a0.Resets + 1)) then 1001 else (wI (a0.Resets + 1))),In := (A0.mk ([] : List UInt8) 0),Out := ([] : List UInt8)},_,h,⟨rfl,rfl,trivial⟩,rfl⟩
 ·skip
  refine Az (fl Acv ti3 rfl rfl rfl rfl rfl rfl (sv rfl (Aa Sd rfl) (fl Aiq ti3 rfl rfl rfl rfl rfl rfl (sv rfl (Dr rfl rfl) (rm 1 rfl (Bf 17 rfl (fun hc => ?_) (fun hc => ?_)))))))
  ·replace h := Br hc h
   clear hc
   refine rm 4 rfl (Al (Ei rfl (fun _ => ?_) (fun hx => Bool.noConfusion hx)))
   refine csr (sv rfl (Ai B6 rfl (.lp _ _ _ rfl) (Nbl rfl)) ?_)
   obtain ⟨v4,hv4,h⟩ := Ag h
   refine Av rfl Art (Ab rfl Af) (O4 rfl) (Dt hv4) (An E2 rfl rfl rfl rfl (Nbl rfl) (Bs [.box (((el {a0 with Resets := if 1001 < (wI (a0.Resets + 1)) then 1001 else (wI (a0.Resets + 1)),In.Dead := 0}).set 35 (Znl)).set 37 (Znl)),.box (el v4)] rfl (Al (Bg (Ak ?_)))))
   cases SJ h
   exact dnA rfl B6 rfl (.lp _ _ _ rfl) (Nbl rfl) rfl rfl
  ·replace h := Bq hc h
   clear hc
   refine son rfl rfl rfl (sv rfl (Aa Aar rfl) (son rfl rfl rfl (sv rfl (Ae ti3 rfl (.lp _ _ _ rfl) rfl) (son rfl rfl rfl (sv rfl (Nc rfl rfl) (rm 1 rfl (Al (ccI h rfl (fun h => ?_) (fun h => ?_)))))))))
   ·refine csr (sv rfl (Ai B6 rfl (.lp _ _ _ rfl) (Nbl rfl)) ?_)
    obtain ⟨v5,hv5,h⟩ := Ag h
    refine Av rfl Art (Ab rfl Af) (O4 rfl) (Dt hv5) (An E2 rfl rfl rfl rfl (Nbl rfl) (Bs [.box (((el {a0 with Resets := if 1001 < (wI (a0.Resets + 1)) then 1001 else (wI (a0.Resets + 1)),In.Dead := 0}).set 35 (Znl)).set 37 (Znl)),.box (el v5)] rfl (Al (Bg (Ak ?_)))))
    cases SJ h
    exact dnA rfl B6 rfl (.lp _ _ _ rfl) (Nbl rfl) rfl rfl
   ·refine Bi (Ac ?_)
    exact ⟨(),_,h,⟨rfl,rfl,trivial⟩,rfl⟩
def Na  : Option Unit :=
 (Cs 2).bind fun v1 => if (!v1) then none else (some ())
theorem Ta  {r : Unit} (h : Na = some r) : Hm Tryz.prog 79 [] [.one (Ii6 2)] (fun y m' => y = .s (.one (.raw (.func (.func 99) #[] #[]))) ∧ m' = []) := by
 unfold Na at h
 refine C3 Tryz.func79 rfl (nt := 11) rfl (Nbl rfl) ?_
 intro w0 S0 X0 H0
 refine csr (rm 1 rfl (Al (csr (sv rfl (Hp Ua U8 (Ah rfl (Ah rfl (Ah rfl (Ah rfl (Ah rfl (Ah rfl (Ah rfl Ay))))))) (Cg [Nfu,Nfu,.raw (.func (.func 99) #[] #[]),Nfu,Nfu,Nfu,Nfu,Nfu,Nfu,Nfu] rfl rfl (Nbl rfl) rfl (Cg [Nfu,Nfu,.raw (.func (.func 99) #[] #[]),.raw (.func (.func 100) #[] #[]),Nfu,Nfu,Nfu,Nfu,Nfu,Nfu] rfl rfl (Nbl rfl) rfl (Cg [Nfu,Nfu,.raw (.func (.func 99) #[] #[]),.raw (.func (.func 100) #[] #[]),.raw (.func (.func 101) #[] #[]),Nfu,Nfu,Nfu,Nfu,Nfu] rfl rfl (Nbl rfl) rfl (Cg [Nfu,Nfu,.raw (.func (.func 99) #[] #[]),.raw (.func (.func 100) #[] #[]),.raw (.func (.func 101) #[] #[]),.raw (.func (.func 102) #[] #[]),Nfu,Nfu,Nfu,Nfu] rfl rfl (Nbl rfl) rfl (Cg [Nfu,Nfu,.raw (.func (.func 99) #[] #[]),.raw (.func (.func 100) #[] #[]),.raw (.func (.func 101) #[] #[]),.raw (.func (.func 102) #[] #[]),.raw (.func (.func 103) #[] #[]),Nfu,Nfu,Nfu] rfl rfl (Nbl rfl) rfl (Cg [Nfu,Nfu,.raw (.func (.func 99) #[] #[]),.raw (.func (.func 100) #[] #[]),.raw (.func (.func 101) #[] #[]),.raw (.func (.func 102) #[] #[]),.raw (.func (.func 103) #[] #[]),.raw (.func (.func 104) #[] #[]),Nfu,Nfu] rfl rfl (Nbl rfl) rfl (Cg [Nfu,Nfu,.raw (.func (.func 99) #[] #[]),.raw (.func (.func 100) #[] #[]),.raw (.func (.func 101) #[] #[]),.raw (.func (.func 102) #[] #[]),.raw (.func (.func 103) #[] #[]),.raw (.func (.func 104) #[] #[]),Nfu,.raw (.func (.func 105) #[] #[])] rfl rfl (Nbl rfl) rfl (.nil _))))))))) (Bw rfl Ua (An Ac8 rfl rfl rfl rfl (Nbl rfl) (Bs [.box [Nfu,Nfu,.raw (.func (.func 99) #[] #[]),.raw (.func (.func 100) #[] #[]),.raw (.func (.func 101) #[] #[]),.raw (.func (.func 102) #[] #[]),.raw (.func (.func 103) #[] #[]),.raw (.func (.func 104) #[] #[]),Nfu,.raw (.func (.func 105) #[] #[])]] rfl (Al (Bp (csr (sv rfl (Bc rfl) ?_)))))))))))
 obtain ⟨v1,hv1,h⟩ := Ag h
 refine Av rfl Anv (Ab rfl Af) (Ao rfl) (Eb hv1) (sv rfl (B5 rfl) (Al (ccI h rfl (fun h => ?_) (fun h => ?_))))
 ·refine Bp (Az ?_)
  cases h
 ·refine Bi (Ac (csr (sv rfl (Bc rfl) ?_)))
  refine sv rfl (Qr (o := 2) U8 rfl rfl (by decide)) ?_
  refine sv rfl (Ae Aeo rfl (.lp _ _ _ rfl) rfl) (rm 1 rfl (Al (Bg ?_)))
  cases SJ h
  exact ⟨Or.inr rfl,_,[],[.one (.raw (.func (.func 99) #[] #[]))],[],(Aj (Cu.tmp _ _ rfl) As),rfl,rfl,⟨by decide,rfl⟩,rfl,rfl,⟨rfl,rfl⟩⟩
def Ev (a0 : Ad) (a1 : Ba) : Option Ad :=
 if (!decide (a1.Code = 0)) then ((Cy a0).bind fun v1 => some v1) else ((D8 a0).bind fun v2 => some v2)
theorem Pk {a0 : Ad} {a1 : Ba} {r : Ad} (h : Ev a0 a1 = some r) : Bl Tryz.prog 99 [.agg (el a0),.agg (el a1)] (· = .s (.agg (el r))) := by
 unfold Ev at h
 refine Au Tryz.func99 rfl (nt := 12) rfl (Nbl rfl) ?_
 intro w0 S0
 refine csr (Ih rfl rfl (Ih rfl rfl (Bw rfl O1 (Al (Bp (csr (fl S7 Aah rfl rfl rfl rfl rfl rfl (sv rfl (Bt rfl rfl) (Al (ccI h rfl (fun h => ?_) (fun h => ?_)))))))))))
 ·refine csr (sv rfl (Ai B6 rfl (.lp _ _ _ rfl) (Nbl rfl)) ?_)
  obtain ⟨v1,hv1,h⟩ := Ag h
  refine Av rfl Asg (Ab rfl Af) (Ao rfl) (Fy hv1) (An E2 rfl rfl rfl rfl (Nbl rfl) (Bs [.box (el a0),.box (el a1),.box (el v1)] rfl (Al (Bg (Ak ?_)))))
  cases SJ h
  exact dnA rfl B6 rfl (.lp _ _ _ rfl) (Nbl rfl) rfl rfl
 ·refine Bi (Ac (csr (sv rfl (Ai B6 rfl (.lp _ _ _ rfl) (Nbl rfl)) ?_)))
  obtain ⟨v2,hv2,h⟩ := Ag h
  refine Av rfl Axm (Ab rfl Af) (Ao rfl) (Jt hv2) (An E2 rfl rfl rfl rfl (Nbl rfl) (Bs [.box (el a0),.box (el a1),.box (el v2)] rfl (Al (Bg ?_))))
  cases SJ h
  exact dnA rfl B6 rfl (.lp _ _ _ rfl) (Nbl rfl) rfl rfl
def Mt  : Option Unit :=
 (Cs 3).bind fun v1 => if (!v1) then none else (some ())
theorem Sp  {r : Unit} (h : Mt = some r) : Hm Tryz.prog 79 [] [.one (Ii6 3)] (fun y m' => y = .s (.one (.raw (.func (.func 100) #[] #[]))) ∧ m' = []) := by
 unfold Mt at h
 refine C3 Tryz.func79 rfl (nt := 11) rfl (Nbl rfl) ?_
 intro w0 S0 X0 H0
 refine csr (rm 1 rfl (Al (csr (sv rfl (Hp Ua U8 (Ah rfl (Ah rfl (Ah rfl (Ah rfl (Ah rfl (Ah rfl (Ah rfl Ay))))))) (Cg [Nfu,Nfu,.raw (.func (.func 99) #[] #[]),Nfu,Nfu,Nfu,Nfu,Nfu,Nfu,Nfu] rfl rfl (Nbl rfl) rfl (Cg [Nfu,Nfu,.raw (.func (.func 99) #[] #[]),.raw (.func (.func 100) #[] #[]),Nfu,Nfu,Nfu,Nfu,Nfu,Nfu] rfl rfl (Nbl rfl) rfl (Cg [Nfu,Nfu,.raw (.func (.func 99) #[] #[]),.raw (.func (.func 100) #[] #[]),.raw (.func (.func 101) #[] #[]),Nfu,Nfu,Nfu,Nfu,Nfu] rfl rfl (Nbl rfl) rfl (Cg [Nfu,Nfu,.raw (.func (.func 99) #[] #[]),.raw (.func (.func 100) #[] #[]),.raw (.func (.func 101) #[] #[]),.raw (.func (.func 102) #[] #[]),Nfu,Nfu,Nfu,Nfu] rfl rfl (Nbl rfl) rfl (Cg [Nfu,Nfu,.raw (.func (.func 99) #[] #[]),.raw (.func (.func 100) #[] #[]),.raw (.func (.func 101) #[] #[]),.raw (.func (.func 102) #[] #[]),.raw (.func (.func 103) #[] #[]),Nfu,Nfu,Nfu] rfl rfl (Nbl rfl) rfl (Cg [Nfu,Nfu,.raw (.func (.func 99) #[] #[]),.raw (.func (.func 100) #[] #[]),.raw (.func (.func 101) #[] #[]),.raw (.func (.func 102) #[] #[]),.raw (.func (.func 103) #[] #[]),.raw (.func (.func 104) #[] #[]),Nfu,Nfu] rfl rfl (Nbl rfl) rfl (Cg [Nfu,Nfu,.raw (.func (.func 99) #[] #[]),.raw (.func (.func 100) #[] #[]),.raw (.func (.func 101) #[] #[]),.raw (.func (.func 102) #[] #[]),.raw (.func (.func 103) #[] #[]),.raw (.func (.func 104) #[] #[]),Nfu,.raw (.func (.func 105) #[] #[])] rfl rfl (Nbl rfl) rfl (.nil _))))))))) (Bw rfl Ua (An Ac8 rfl rfl rfl rfl (Nbl rfl) (Bs [.box [Nfu,Nfu,.raw (.func (.func 99) #[] #[]),.raw (.func (.func 100) #[] #[]),.raw (.func (.func 101) #[] #[]),.raw (.func (.func 102) #[] #[]),.raw (.func (.func 103) #[] #[]),.raw (.func (.func 104) #[] #[]),Nfu,.raw (.func (.func 105) #[] #[])]] rfl (Al (Bp (csr (sv rfl (Bc rfl) ?_)))))))))))
 obtain ⟨v1,hv1,h⟩ := Ag h
 refine Av rfl Anv (Ab rfl Af) (Ao rfl) (Eb hv1) (sv rfl (B5 rfl) (Al (ccI h rfl (fun h => ?_) (fun h => ?_))))
 ·refine Bp (Az ?_)
  cases h
 ·refine Bi (Ac (csr (sv rfl (Bc rfl) ?_)))
  refine sv rfl (Qr (o := 3) U8 rfl rfl (by decide)) ?_
  refine sv rfl (Ae Aeo rfl (.lp _ _ _ rfl) rfl) (rm 1 rfl (Al (Bg ?_)))
  cases SJ h
  exact ⟨Or.inr rfl,_,[],[.one (.raw (.func (.func 100) #[] #[]))],[],(Aj (Cu.tmp _ _ rfl) As),rfl,rfl,⟨by decide,rfl⟩,rfl,rfl,⟨rfl,rfl⟩⟩
def C2 (a0 : Ad) (b2 : A8) : Option Ad :=
 (De a0 b2).bind fun v3 => (Cc ({v3 with Phase := 9,Risk := false}) (B7.mk 10 0 b2.Token 0 false ([] : List UInt8) ([] : List UInt8) Bu)).bind fun v4 => some v4
def Bv (a0 : Ad) (a1 : Int) (a2 : Int) : Option Ad :=
 (idx a0.Tasks 0).bind fun u1 => if (decide (a1 = 1)) then (C2 a0 (A8.mk u1.Token a1 a0.Attempt a2 a0.St.Regs)) else (C2 a0 (A8.mk u1.Token a1 a0.Attempt a2 (Ee.mk 0 0 0 0 0 0 0 0)))
theorem Cd {a0 : Ad} {a1 : Int} {a2 : Int} {r : Ad} (h : Bv a0 a1 a2 = some r) : Bl Tryz.prog 119 [.agg (el a0),.one (Ii6 a1),.one (Ii6 a2)] (· = .s (.agg (el r))) := by
 unfold Bv at h
 refine Au Tryz.func119 rfl (nt := 34) rfl (Nbl rfl) ?_
 intro w0 S0
 refine csr (Ih rfl rfl (Bw rfl O1 (Al (Bp (Aey ?_)))))
 obtain ⟨u1,hu1,h⟩ := Ag h
 refine Jj [10,11] [0,1,3,7,15,0,0,64,0,511,0,2047] [[.box (el a0),.box Zba,.hole],[.box (el a0),.box Zba,.box Zbe],[.box (el a0),.box Zba,.box [Ii6 u1.Token,Ii6 a1,Ii6 a0.Attempt,Ii6 a2,Ii6 0,Ii6 0,Ii6 0,Ii6 0,Ii6 0,Ii6 0,Ii6 0,Ii6 0]]] (by kernel_rfl) Kd (by kernel_rfl) (by decide) rfl rfl rfl rfl ?_
 refine evs (md := [.box (el a0),.box Zba,.dead]) (fun hS => ev (Bh hS) rfl rfl (Aa Lw rfl) (ev (Bh hS) rfl rfl (Ae Zp rfl (.lp _ _ _ rfl) rfl) (ev (Bh hS) rfl rfl (Db (f := Ap) Vl (fun _ => rfl) rfl rfl rfl rfl hu1) ?_))) ⟨⟨rfl,⟨rfl,⟨trivial,trivial⟩⟩⟩,⟨⟨rfl,⟨rfl,⟨trivial,trivial⟩⟩⟩,⟨⟨rfl,⟨rfl,⟨trivial,trivial⟩⟩⟩,trivial⟩⟩⟩
 refine evs (md := [.box (el a0),.box Zba,.dead]) (fun hS => ev (Bh hS) rfl rfl (Bj Sx rfl) (ev (Bh hS) rfl rfl (Ae ti3 rfl (.cp _) rfl) (emv rfl rfl (fun _ => Bc rfl) ?_))) ⟨⟨rfl,⟨rfl,⟨trivial,trivial⟩⟩⟩,⟨⟨rfl,⟨rfl,⟨trivial,trivial⟩⟩⟩,⟨⟨rfl,⟨rfl,⟨trivial,trivial⟩⟩⟩,trivial⟩⟩⟩
 refine evs (md := [.box (el a0),.box Zba,.dead]) (fun hS => ev (Bh hS) rfl rfl (Aa Pd rfl) (ev (Bh hS) rfl rfl (Ae ti3 rfl (.lp _ _ _ rfl) rfl) (emv rfl rfl (fun _ => Bc rfl) ?_))) ⟨⟨rfl,⟨rfl,⟨trivial,trivial⟩⟩⟩,⟨⟨rfl,⟨rfl,⟨trivial,trivial⟩⟩⟩,⟨⟨rfl,⟨rfl,⟨trivial,trivial⟩⟩⟩,trivial⟩⟩⟩
 refine ev (Bh (md := [.box (el a0),.box Zba,.dead]) ⟨⟨rfl,⟨rfl,⟨trivial,trivial⟩⟩⟩,⟨⟨rfl,⟨rfl,⟨trivial,trivial⟩⟩⟩,⟨⟨rfl,⟨rfl,⟨trivial,trivial⟩⟩⟩,trivial⟩⟩⟩) rfl rfl (Be Asq Ax1 (Ah rfl (Ah rfl (Ah rfl (Ah rfl Ay)))) (.cons _ _ _ _ _ _ _ rfl rfl (Nbl rfl) (.cons _ _ _ _ _ _ _ rfl rfl (Nbl rfl) (.cons _ _ _ _ _ _ _ rfl rfl (Nbl rfl) (.cons _ _ _ _ _ _ _ rfl rfl (Nbl rfl) (.nil _)))))) (ee (x := .s (.one (.lp 2 0))) 0 rfl rfl rfl rfl rfl (fun ζ => ?_) ?_)
 ·refine Nq 2 rfl Asq rfl ?_
  exact Sv
 refine ee0 1 rfl rfl rfl rfl (fun ζ => ?_) ?_
 ·refine An Ayt rfl rfl rfl rfl (Nbl rfl) (Bs [.box (el a0),.box Zba,.box [Ii6 u1.Token,Ii6 a1,Ii6 a0.Attempt,Ii6 a2,Ii6 0,Ii6 0,Ii6 0,Ii6 0,Ii6 0,Ii6 0,Ii6 0,Ii6 0]] rfl ?_)
  exact Sv
 refine Z1 (Ac (Bp (csr (rm 1 rfl (sv rfl (Bn rfl rfl) (Al (Gg (A8) (fun b2 => [(3,.s (.one (.lp 0 0))),(6,.s (.one (.lp 1 0))),(7,.s (.one (.lp 2 0)))]) (fun b2 => [.box (el a0),.box Zba,.box (el b2)]) (fun b2 => C2 a0 b2 = some r) (fun _ _ => A6 rfl) (fun _ _ => Ar rfl) (fun _ _ => Nbl rfl) (fun b2 h => ?_) ?_)))))))
 ·unfold C2 at h
  refine csr (sv rfl (Ai B6 rfl (.lp _ _ _ rfl) (Nbl rfl)) (sv rfl (Ai Axy rfl (.lp _ _ _ rfl) (Nbl rfl)) ?_))
  obtain ⟨v3,hv3,h⟩ := Ag h
  refine Av rfl Aw1 (Ab rfl (Ab rfl Af)) (Ao rfl) (Iz hv3) (An E2 rfl rfl rfl rfl (Nbl rfl) (Bs [.box (el v3),.box Zba,.box (el b2)] rfl (Al (csr (sv rfl (Aa Yi rfl) (An sz4 rfl rfl rfl rfl (Nbl rfl) (Bs [.box (el {v3 with Risk := false}),.box Zba,.box (el b2)] rfl (Al (csr (sv rfl (Aa G8 rfl) (An sz3 rfl rfl rfl rfl (Nbl rfl) (Bs [.box (el {v3 with Phase := 9,Risk := false}),.box Zba,.box (el b2)] rfl (Al (csr (sv rfl (Ai B6 rfl (.lp _ _ _ rfl) (Nbl rfl)) (fl Apd ti3 rfl rfl rfl rfl rfl rfl (sv rfl (Be Adp Ahn (Ah rfl (Ah rfl Ay)) (.cons _ _ _ _ _ _ _ rfl rfl (Nbl rfl) (.cons _ _ _ _ _ _ _ rfl rfl (Nbl rfl) (.nil _)))) ?_)))))))))))))))))
  obtain ⟨v4,hv4,h⟩ := Ag h
  refine Av rfl Aq7 (Ab rfl (Ab rfl Af)) (O4 rfl) (Dd hv4) (An E2 rfl rfl rfl rfl (Nbl rfl) (Bs [.box (el {v3 with Phase := 9,Risk := false}),.box (el v4),.box (el b2)] rfl (Al (Bg ?_))))
  cases SJ h
  exact dnA rfl B6 rfl (.lp _ _ _ rfl) (Nbl rfl) rfl rfl
 ·skip
  refine ccI h rfl (fun h => ?_) (fun h => ?_)
  ·refine Az (sv rfl (Aa Qs rfl) (sv rfl (Aa Ps rfl) (sv rfl (Ai Auk rfl (.lp _ _ _ rfl) (Nbl rfl)) (sv rfl (Aa App rfl) (An Azx rfl rfl rfl rfl (Nbl rfl) (Bs [.box (el a0),.box Zba,.box (el (Di.mk u1.Token a1 a0.Attempt a2 a0.St.Regs))] rfl (Al ?_)))))))
   exact ⟨(A8.mk u1.Token a1 a0.Attempt a2 a0.St.Regs),_,h,⟨rfl,rfl,rfl,trivial⟩,rfl⟩
  ·refine Bi (Ac ?_)
   exact ⟨(A8.mk u1.Token a1 a0.Attempt a2 (Ee.mk 0 0 0 0 0 0 0 0)),_,h,⟨rfl,rfl,rfl,trivial⟩,rfl⟩
def Dz (a0 : D3) (a1 : Int) (a2 : BitVec 64) : Option (Int × Bool) :=
 (Hg a0 a1).bind fun v1 => if (!v1.2) then (some (0,false)) else (if (BitVec.ofInt 64 (wI ((wI (v1.1.tdiv 2)) + 1))) ≠ 0 then (some ((wI (v1.1 + (wI (((((a2 + (BitVec.ofInt 64 a1)) * (11400714819323198485#64)) ^^^ (((a2 + (BitVec.ofInt 64 a1)) * (11400714819323198485#64)) >>> (32 : Int).toNat)) % (BitVec.ofInt 64 (wI ((wI (v1.1.tdiv 2)) + 1)))).toNat : Int)))),true)) else none)
theorem U1 {a0 : D3} {a1 : Int} {a2 : BitVec 64} {r : Int × Bool} (h : Dz a0 a1 a2 = some r) : Bl Tryz.prog 129 [.agg (el a0),.one (Ii6 a1),.one (.i .u64 (a2.toNat : Int))] (· = .tup [.one (Ii6 r.1),.one (.b r.2)]) := by
 unfold Dz at h
 refine Au Tryz.func129 rfl (nt := 38) rfl (Nbl rfl) ?_
 intro w0 S0
 refine csr (Ih rfl rfl (rm 2 rfl (Al (csr (sv rfl (Ai Aos rfl (.lp _ _ _ rfl) (Nbl rfl)) (sv rfl (Bc rfl) ?_))))))
 obtain ⟨v1,hv1,h⟩ := Ag h
 refine Av rfl Avc (Ab rfl (Ab rfl Af)) (Ao rfl) (Mg hv1) (sv rfl (Gc rfl) (sv rfl (A4 rfl rfl) (sv rfl (A4 rfl rfl) (rm 2 rfl (Al (Bp (csr (rm 1 rfl (sv rfl (B5 rfl) (Al (ccI h rfl (fun h => ?_) (fun h => ?_))))))))))))
 ·refine csr (rm 2 rfl (Al (Bg (Ak ?_))))
  cases SJ h
  refine ⟨Or.inr rfl,_,_,_,(Aj (Cu.tmp _ _ rfl) (Aj (Cu.tmp _ _ rfl) As)),(Ao rfl),?_⟩
  rfl
 ·refine Bi (Ac (csr (rm 2 rfl (sv rfl (Dc rfl Tryz.underlying3 Tryz.underlying112 rfl) (sv rfl (Afj (a := a2) (b := (BitVec.ofInt 64 a1)) rfl rfl rfl rfl) (sv rfl (Afd (a := (a2 + (BitVec.ofInt 64 a1))) (b := 11400714819323198485#64) rfl rfl rfl rfl) (rm 1 rfl (Al (csr (rm 1 rfl (sv rfl (Bc rfl) ?_)))))))))))
  refine sv rfl (Ym (a := ((a2 + (BitVec.ofInt 64 a1)) * (11400714819323198485#64))) rfl rfl rfl (by decide)) ?_
  refine sv rfl (Ad8 (a := ((a2 + (BitVec.ofInt 64 a1)) * (11400714819323198485#64))) (b := (((a2 + (BitVec.ofInt 64 a1)) * (11400714819323198485#64)) >>> (32 : Int).toNat)) rfl rfl rfl rfl) (rm 1 rfl (Al (csr (rm 2 rfl (sv rfl (Bc rfl) ?_)))))
  refine sv rfl (Anf rfl rfl (by decide)) ?_
  refine sv rfl (B4 rfl rfl) (sv rfl (Dc rfl Tryz.underlying3 Tryz.underlying112 rfl) ?_)
  obtain ⟨hz2,h⟩ := Dx h
  refine sv rfl (Afm (a := (((a2 + (BitVec.ofInt 64 a1)) * (11400714819323198485#64)) ^^^ (((a2 + (BitVec.ofInt 64 a1)) * (11400714819323198485#64)) >>> (32 : Int).toNat))) (b := (BitVec.ofInt 64 (wI ((wI (v1.1.tdiv 2)) + 1)))) rfl rfl rfl rfl hz2) (sv rfl (Gj Tryz.underlying112 Tryz.underlying3 rfl) (sv rfl (B4 rfl rfl) (rm 2 rfl (Al (Bg ?_)))))
  cases SJ h
  refine ⟨Or.inr rfl,_,_,_,(Aj (Cu.tmp _ _ rfl) (Aj (Cu.tmp _ _ rfl) As)),(Ao rfl),?_⟩
  rfl
def Cj (a0 : Ad) : Option Ad :=
 if (decide (a0.Cfg.Attempts ≤ a0.Attempt)) then ((Bv a0 3 0).bind fun v1 => some v1) else ((Dz a0.Cfg.Plan (if (wI (a0.Cfg.Plan.Tries - 1)) < (wI ((wI (a0.Attempt + 1)) - 1)) then (wI (a0.Cfg.Plan.Tries - 1)) else (wI ((wI (a0.Attempt + 1)) - 1))) (BitVec.ofInt 64 a0.Cfg.Who)).bind fun v2 => some ({a0 with Phase := 8,Attempt := (wI (a0.Attempt + 1)),Left := v2.1,Risk := false}))
theorem Eu {a0 : Ad} {r : Ad} (h : Cj a0 = some r) : Bl Tryz.prog 117 [.agg (el a0)] (· = .s (.agg (el r))) := by
 unfold Cj at h
 refine Au Tryz.func117 rfl (nt := 41) rfl (Nbl rfl) ?_
 intro w0 S0
 refine csr (Ih rfl rfl (Bw rfl O1 (Al (Bp (csr (fl Pd ti3 rfl rfl rfl rfl rfl rfl (sv rfl (Aa Sd rfl) (fl Afp ti3 rfl rfl rfl rfl rfl rfl (sv rfl (Nc rfl rfl) (Al (ccI h rfl (fun h => ?_) (fun h => ?_))))))))))))
 ·refine csr (sv rfl (Ai B6 rfl (.lp _ _ _ rfl) (Nbl rfl)) ?_)
  obtain ⟨v1,hv1,h⟩ := Ag h
  refine Av rfl Ac7 (Ab rfl (Ab rfl (Ab rfl Af))) (Ao rfl) (Cd hv1) (An E2 rfl rfl rfl rfl (Nbl rfl) (Bs [.box (el a0),.box (el v1)] rfl (Al (Bg (Ak ?_)))))
  cases SJ h
  exact dnA rfl B6 rfl (.lp _ _ _ rfl) (Nbl rfl) rfl rfl
 ·refine Bi (Ac (csr (fl Pd ti3 rfl rfl rfl rfl rfl rfl (sv rfl (B4 rfl rfl) (sv rfl (Aa Pd rfl) (An sz3 rfl rfl rfl rfl (Nbl rfl) (Bs [.box (el {a0 with Attempt := wI (a0.Attempt + 1)}),.box Zba] rfl (Al (csr (sv rfl (Aa Yi rfl) (An sz4 rfl rfl rfl rfl (Nbl rfl) (Bs [.box (el {a0 with Attempt := wI (a0.Attempt + 1),Risk := false}),.box Zba] rfl (Al (csr (sv rfl (Aa G8 rfl) (An sz3 rfl rfl rfl rfl (Nbl rfl) (Bs [.box (el {a0 with Phase := 8,Attempt := wI (a0.Attempt + 1),Risk := false}),.box Zba] rfl (Al (csr (fl Pd ti3 rfl rfl rfl rfl rfl rfl (sv rfl (Om rfl rfl) (sv rfl (Aa Sd rfl) (sv rfl (Aa Ur rfl) (fl Aak ti3 rfl rfl rfl rfl rfl rfl (sv rfl (Om rfl rfl) (sv rfl (Vf rfl rfl) (rm 1 rfl (Al (csr (sv rfl (Aa Sd rfl) (sv rfl (Aa Ur rfl) (sv rfl (Ai Aos rfl (.lp _ _ _ rfl) (Nbl rfl)) (rm 1 rfl (sv rfl (Aa Sd rfl) (fl Agg ti3 rfl rfl rfl rfl rfl rfl (sv rfl (Dc rfl Tryz.underlying3 Tryz.underlying112 rfl) ?_))))))))))))))))))))))))))))))))))))
  obtain ⟨v2,hv2,h⟩ := Ag h
  refine Av rfl Avr (Ab rfl (Ab rfl (Ab rfl Af))) (Ao rfl) (U1 hv2) (sv rfl (Gc rfl) (sv rfl (A4 rfl rfl) (sv rfl (A4 rfl rfl) (sv rfl (Aa Sf rfl) (An sz3 rfl rfl rfl rfl (Nbl rfl) (Bs [.box (el {a0 with Phase := 8,Attempt := wI (a0.Attempt + 1),Left := v2.1,Risk := false}),.box Zba] rfl (Al (csr (sv rfl (Ai B6 rfl (.lp _ _ _ rfl) (Nbl rfl)) (An E2 rfl rfl rfl rfl (Nbl rfl) (Bs [.box (el {a0 with Phase := 8,Attempt := wI (a0.Attempt + 1),Left := v2.1,Risk := false}),.box (el {a0 with Phase := 8,Attempt := wI (a0.Attempt + 1),Left := v2.1,Risk := false})] rfl (Al (Bg ?_)))))))))))))
  cases SJ h
  exact dnA rfl B6 rfl (.lp _ _ _ rfl) (Nbl rfl) rfl rfl
def Dn (a0 : Ad) (a1 : Int) : Option Ad :=
 if (decide (a1 = 7)) then ((Ej a0).bind fun v1 => some v1) else ((Cj a0).bind fun v2 => some v2)
theorem Ln {a0 : Ad} {a1 : Int} {r : Ad} (h : Dn a0 a1 = some r) : Bl Tryz.prog 115 [.agg (el a0),.one (Ii6 a1)] (· = .s (.agg (el r))) := by
 unfold Dn at h
 refine Au Tryz.func115 rfl (nt := 11) rfl (Nbl rfl) ?_
 intro w0 S0
 refine csr (Ih rfl rfl (Bw rfl O1 (Al (Bp (csr (rm 1 rfl (sv rfl (Bn rfl rfl) (Al (ccI h rfl (fun h => ?_) (fun h => ?_))))))))))
 ·refine csr (sv rfl (Ai B6 rfl (.lp _ _ _ rfl) (Nbl rfl)) ?_)
  obtain ⟨v1,hv1,h⟩ := Ag h
  refine Av rfl Axi (Ab rfl Af) (Ao rfl) (Kq hv1) (An E2 rfl rfl rfl rfl (Nbl rfl) (Bs [.box (el a0),.box (el v1)] rfl (Al (Bg (Ak ?_)))))
  cases SJ h
  exact dnA rfl B6 rfl (.lp _ _ _ rfl) (Nbl rfl) rfl rfl
 ·refine Bi (Ac (csr (sv rfl (Ai B6 rfl (.lp _ _ _ rfl) (Nbl rfl)) ?_)))
  obtain ⟨v2,hv2,h⟩ := Ag h
  refine Av rfl Aj5 (Ab rfl Af) (Ao rfl) (Eu hv2) (An E2 rfl rfl rfl rfl (Nbl rfl) (Bs [.box (el a0),.box (el v2)] rfl (Al (Bg ?_))))
  cases SJ h
  exact dnA rfl B6 rfl (.lp _ _ _ rfl) (Nbl rfl) rfl rfl
def K7 (a0 : B9) : Option Bool :=
 (G7 a0.What).bind fun v1 => some (!((v1.R0 == false) && ((v1.R1 == false) && ((v1.R2 == false) && true))))
theorem Sb {a0 : B9} {r : Bool} (h : K7 a0 = some r) : Bl Tryz.prog 130 [.agg (el a0)] (· = .s (.one (.b r))) := by
 unfold K7 at h
 refine Au Tryz.func130 rfl (nt := 8) rfl (Nbl rfl) ?_
 intro w0 S0
 refine csr (Ih rfl rfl (rm 1 rfl (Al (csr (sv rfl (Aa Xg rfl) (sv rfl (Ae ti3 rfl (.lp _ _ _ rfl) rfl) ?_))))))
 obtain ⟨v1,hv1,h⟩ := Ag h
 refine Av rfl As6 (Ab rfl Af) (Ao rfl) (P7 hv1) (sv rfl (Hp Ado Aez Ay (.nil _)) (sv rfl (T3 Asm rfl rfl rfl rfl rfl) (rm 1 rfl (Al (Bg ?_)))))
 cases SJ h
 exact dnT rfl rfl rfl rfl
def Ph (a0 : Int) : Option (List UInt8) :=
 (Et ([] : List UInt8) (BitVec.ofInt 64 a0) 4).bind fun v1 => some v1
theorem Yu {a0 : Int} {r : (List UInt8)} (h : Ph a0 = some r) : Bl Tryz.prog 140 [.one (Ii6 a0)] (· = .s (.one (.sl r.length (r.flatMap eU8)))) := by
 unfold Ph at h
 refine Au Tryz.func140 rfl (nt := 6) rfl (Nbl rfl) ?_
 intro w0 S0
 refine csr (rm 1 rfl (Al (csr (rm 1 rfl (sv rfl (Dc rfl Tryz.underlying3 Tryz.underlying112 rfl) ?_)))))
 obtain ⟨v1,hv1,h⟩ := Ag h
 refine Av rfl Adz (Ab rfl (Ab rfl (Ab rfl Af))) (O4 rfl) (Ez hv1) (rm 1 rfl (Al (Bg ?_)))
 cases SJ h
 exact dnT rfl rfl rfl rfl
def Er (a0 : B9) (a1 : A1) : Option B7 :=
 if (decide (a0.What = 1)) then (some (B7.mk 3 0 0 0 false a0.Key ([] : List UInt8) Bu)) else (if (decide (a0.What = 2)) then (if 0 ≤ a0.B ∧ a0.B < ((8 : Nat) : Int) then ((idx [a1.Regs.R0,a1.Regs.R1,a1.Regs.R2,a1.Regs.R3,a1.Regs.R4,a1.Regs.R5,a1.Regs.R6,a1.Regs.R7] a0.B).bind fun u2 => (Ph u2).bind fun v3 => some (B7.mk 4 0 0 0 false a0.Key v3 Bu)) else none) else (if (decide (a0.What = 3)) then (some (B7.mk 5 0 0 0 false a0.Key ([] : List UInt8) Bu)) else (some (B7.mk 6 0 0 0 false ([] : List UInt8) ([] : List UInt8) a0.Rng))))
theorem U3 {a0 : B9} {a1 : A1} {r : B7} (h : Er a0 a1 = some r) : Bl Tryz.prog 135 [.agg (el a0),.agg (el a1)] (· = .s (.agg (el r))) := by
 unfold Er at h
 refine Au Tryz.func135 rfl (nt := 31) rfl (Nbl rfl) ?_
 intro w0 S0
 refine csr (Ih rfl rfl (Ih rfl rfl (Bw rfl Adp (Al (Bp (csr (fl Xg ti3 rfl rfl rfl rfl rfl rfl (Al (B3 (csr (sv rfl (Bn rfl rfl) (rm 1 rfl (Al (ccI h rfl (fun h => ?_) (fun h => ?_)))))))))))))))
 ·refine csr (fl Aab I9 rfl rfl rfl rfl rfl rfl (sv rfl (Be Adp Ahn (Ah rfl (Ah rfl Ay)) (.cons _ _ _ _ _ _ _ rfl rfl (Nbl rfl) (.cons _ _ _ _ _ _ _ rfl rfl (Nbl rfl) (.nil _)))) (An Alq rfl rfl rfl rfl (Nbl rfl) (Bs [.box (el a0),.box (el a1),.box [Ii6 3,Ii6 0,Ii6 0,Ii6 0,.b false,.sl a0.Key.length (a0.Key.flatMap eU8),Znl,Znl,Znl,.b false]] rfl (Al (Bg (A2 (Ak ?_))))))))
  cases SJ h
  refine ⟨Or.inr rfl,_,_,_,(Aj (Cu.agg _ _ _ _ _ Agc rfl (.lp _ _ _ rfl) (Nbl rfl)) As),(O4 rfl),?_⟩
  rfl
 ·refine csr (sv rfl (Bn rfl rfl) (rm 1 rfl (Al (ccI h rfl (fun h => ?_) (fun h => ?_)))))
  ·refine Bp ?_
   obtain ⟨hj1,h⟩ := Dx h
   obtain ⟨u2,hu2,h⟩ := Ag h
   obtain ⟨v3,hv3,h⟩ := Ag h
   refine Jj [9] [0,1,0,4,0,28,60,124,255,511] [[.box (el a0),.box (el a1),.box Zbc],[.box (el a0),.box (el a1),.box [Ii6 4,Ii6 0,Ii6 0,Ii6 0,.b false,.sl a0.Key.length (a0.Key.flatMap eU8),.sl v3.length (v3.flatMap eU8),Znl,Znl,.b false]]] (by kernel_rfl) Kd (by kernel_rfl) (by decide) rfl rfl rfl rfl ?_
   refine ev (Bb 0 rfl rfl) rfl rfl (Aa Aab rfl) (ev (Bb 0 rfl rfl) rfl rfl (Ae I9 rfl (.lp _ _ _ rfl) rfl) (ev (Bb 0 rfl rfl) rfl rfl (Aa Zh rfl) (ev (Bb 0 rfl rfl) rfl rfl (Ae ti3 rfl (.lp _ _ _ rfl) rfl) (ev (Bb 0 rfl rfl) rfl rfl (Aa Ps rfl) (ev (Bb 0 rfl rfl) rfl rfl (M5 Ah5 rfl rfl hj1) (ev (Bb 0 rfl rfl) rfl rfl (X2 (fun x => Ii6 x) [.b a1.Stopped] ti3 rfl rfl rfl hu2) ?_))))))
   refine ed (Bb 0 rfl rfl) rfl rfl (Cm Axr (Ab rfl Af) rfl (Yu hv3)) (ev (Bb 0 rfl rfl) rfl rfl (Be Adp Ahn (Ah rfl (Ah rfl (Ah rfl Ay))) (.cons _ _ _ _ _ _ _ rfl rfl (Nbl rfl) (.cons _ _ _ _ _ _ _ rfl rfl (Nbl rfl) (.cons _ _ _ _ _ _ _ rfl rfl (Nbl rfl) (.nil _))))) (ee0 0 rfl rfl rfl rfl (fun ζ => ?_) ?_))
   ·refine An Alq rfl rfl rfl rfl (Nbl rfl) (Bs [.box (el a0),.box (el a1),.box [Ii6 4,Ii6 0,Ii6 0,Ii6 0,.b false,.sl a0.Key.length (a0.Key.flatMap eU8),.sl v3.length (v3.flatMap eU8),Znl,Znl,.b false]] rfl ?_)
    exact Sv
   refine Z1 (Ac (Bg (A2 (Ak ?_))))
   cases SJ h
   refine ⟨Or.inr rfl,_,_,_,(Aj (Cu.agg _ _ _ _ _ Agc rfl (.lp _ _ _ rfl) (Nbl rfl)) As),(O4 rfl),?_⟩
   rfl
  ·refine csr (sv rfl (Bn rfl rfl) (rm 1 rfl (Al (ccI h rfl (fun h => ?_) (fun h => ?_)))))
   ·refine csr (fl Aab I9 rfl rfl rfl rfl rfl rfl (sv rfl (Be Adp Ahn (Ah rfl (Ah rfl Ay)) (.cons _ _ _ _ _ _ _ rfl rfl (Nbl rfl) (.cons _ _ _ _ _ _ _ rfl rfl (Nbl rfl) (.nil _)))) (An Alq rfl rfl rfl rfl (Nbl rfl) (Bs [.box (el a0),.box (el a1),.box [Ii6 5,Ii6 0,Ii6 0,Ii6 0,.b false,.sl a0.Key.length (a0.Key.flatMap eU8),Znl,Znl,Znl,.b false]] rfl (Al (Bg (A2 (Ak ?_))))))))
    cases SJ h
    refine ⟨Or.inr rfl,_,_,_,(Aj (Cu.agg _ _ _ _ _ Agc rfl (.lp _ _ _ rfl) (Nbl rfl)) As),(O4 rfl),?_⟩
    rfl
   ·refine Bi (Aw (Ac (csr (sv rfl (Aa Agp rfl) (sv rfl (Ai Ahk rfl (.lp _ _ _ rfl) (Nbl rfl)) (sv rfl (Be Adp Ahn (Ah rfl (Ah rfl Ay)) (.cons _ _ _ _ _ _ _ rfl rfl (Nbl rfl) (.cons _ _ _ _ _ _ _ rfl rfl (Nbl rfl) (.nil _)))) (An Alq rfl rfl rfl rfl (Nbl rfl) (Bs [.box (el a0),.box (el a1),.box [Ii6 6,Ii6 0,Ii6 0,Ii6 0,.b false,Znl,Znl,.sl a0.Rng.Lo.length (a0.Rng.Lo.flatMap eU8),.sl a0.Rng.Hi.length (a0.Rng.Hi.flatMap eU8),.b a0.Rng.Open]] rfl (Al (Bg ?_))))))))))
    cases SJ h
    refine ⟨Or.inr rfl,_,_,_,(Aj (Cu.agg _ _ _ _ _ Agc rfl (.lp _ _ _ rfl) (Nbl rfl)) As),(O4 rfl),?_⟩
    rfl
def I0 (a0 : Int) : Option Int :=
 some (wI ((BitVec.ofInt 32 a0).toNat : Int))
theorem Qi {a0 : Int} {r : Int} (h : I0 a0 = some r) : Bl Tryz.prog 138 [.one (Ii6 a0)] (· = .s (.one (Ii6 r))) := by
 unfold I0 at h
 refine Au Tryz.func138 rfl (nt := 6) rfl (Nbl rfl) ?_
 intro w0 S0
 refine csr (rm 1 rfl (Al (csr (rm 1 rfl (sv rfl (Dc rfl Tryz.underlying3 Tryz.underlying117 rfl) (sv rfl (Gj Tryz.underlying117 Tryz.underlying3 rfl) (rm 1 rfl (Al (Bg ?_)))))))))
 cases SJ h
 exact dnT rfl rfl rfl rfl
def Lz (a0 : B9) (a1 : A1) : Option A1 :=
 if (decide (a0.What = 5)) then (if 0 ≤ a0.A ∧ a0.A < ((8 : Nat) : Int) then ((I1 (Ee.mk a1.Regs.R0 a1.Regs.R1 a1.Regs.R2 a1.Regs.R3 a1.Regs.R4 a1.Regs.R5 a1.Regs.R6 a1.Regs.R7) a0.A a0.N).bind fun q2 => some (A1.mk (wI (a1.PC + 1)) q2 a1.Stopped)) else none) else (if (decide (a0.What = 6)) then (if 0 ≤ a0.A ∧ a0.A < ((8 : Nat) : Int) then ((idx [a1.Regs.R0,a1.Regs.R1,a1.Regs.R2,a1.Regs.R3,a1.Regs.R4,a1.Regs.R5,a1.Regs.R6,a1.Regs.R7] a0.A).bind fun u4 => if 0 ≤ a0.B ∧ a0.B < ((8 : Nat) : Int) then ((idx [a1.Regs.R0,a1.Regs.R1,a1.Regs.R2,a1.Regs.R3,a1.Regs.R4,a1.Regs.R5,a1.Regs.R6,a1.Regs.R7] a0.B).bind fun u6 => (I0 (wI ((wI (u4 + u6)) + a0.N))).bind fun v7 => if 0 ≤ a0.A ∧ a0.A < ((8 : Nat) : Int) then ((I1 (Ee.mk a1.Regs.R0 a1.Regs.R1 a1.Regs.R2 a1.Regs.R3 a1.Regs.R4 a1.Regs.R5 a1.Regs.R6 a1.Regs.R7) a0.A v7).bind fun q9 => some (A1.mk (wI (a1.PC + 1)) q9 a1.Stopped)) else none) else none) else none) else (if (decide (a0.What = 7)) then (if 0 ≤ a0.A ∧ a0.A < ((8 : Nat) : Int) then ((idx [a1.Regs.R0,a1.Regs.R1,a1.Regs.R2,a1.Regs.R3,a1.Regs.R4,a1.Regs.R5,a1.Regs.R6,a1.Regs.R7] a0.A).bind fun u11 => if (decide (u11 = 0)) then (some (A1.mk (wI ((wI (a1.PC + 1)) + a0.N)) a1.Regs a1.Stopped)) else (some (A1.mk (wI (a1.PC + 1)) a1.Regs a1.Stopped))) else none) else (if (decide (a0.What = 8)) then (some (A1.mk (wI (a1.PC + 1)) a1.Regs true)) else (some (A1.mk (wI (a1.PC + 1)) a1.Regs a1.Stopped)))))
theorem Wr {a0 : B9} {a1 : A1} {r : A1} (h : Lz a0 a1 = some r) : Bl Tryz.prog 136 [.agg (el a0),.agg (el a1)] (· = .s (.agg (el r))) := by
 unfold Lz at h
 refine Au Tryz.func136 rfl (nt := 58) rfl (Nbl rfl) ?_
 intro w0 S0
 refine csr (Ih rfl rfl (Ih rfl rfl (Bw rfl Alm (Al (csr (fl Pq ti3 rfl rfl rfl rfl rfl rfl (sv rfl (B4 rfl rfl) (sv rfl (Aa Pq rfl) (An sz3 rfl rfl rfl rfl (Nbl rfl) (Bs [.box (el a0),.box (el {a1 with PC := wI (a1.PC + 1)}),.box Zbb] rfl (Al (Bp (csr (fl Xg ti3 rfl rfl rfl rfl rfl rfl (Al (B3 (csr (sv rfl (Bn rfl rfl) (rm 1 rfl (Al (ccI h rfl (fun h => ?_) (fun h => ?_))))))))))))))))))))))
 ·refine Az (fl Vz ti3 rfl rfl rfl rfl rfl rfl (fl Aag ti3 rfl rfl rfl rfl rfl rfl (sv rfl (Aa Ps rfl) ?_)))
  obtain ⟨hj1,h⟩ := Dx h
  refine sv rfl (M5 Ah5 rfl rfl hj1) ?_
  obtain ⟨q2,hq2,h⟩ := Ag h
  refine An sz3 rfl rfl rfl rfl (Ac3 hj1 (Nbl rfl)) (Bs [.box (el a0),.box [Ii6 (wI (a1.PC + 1)),Ii6 q2.R0,Ii6 q2.R1,Ii6 q2.R2,Ii6 q2.R3,Ii6 q2.R4,Ii6 q2.R5,Ii6 q2.R6,Ii6 q2.R7,.b a1.Stopped],.box Zbb] (Tc (Ao5 hq2 [Ii6 (wI (a1.PC + 1))] [.b a1.Stopped])) (Mp (Aw (Ac (csr (sv rfl (Ai Uf rfl (.lp _ _ _ rfl) (Nbl rfl)) (An Zq rfl rfl rfl rfl (Nbl rfl) (Bs [.box (el a0),.box [Ii6 (wI (a1.PC + 1)),Ii6 q2.R0,Ii6 q2.R1,Ii6 q2.R2,Ii6 q2.R3,Ii6 q2.R4,Ii6 q2.R5,Ii6 q2.R6,Ii6 q2.R7,.b a1.Stopped],.box [Ii6 (wI (a1.PC + 1)),Ii6 q2.R0,Ii6 q2.R1,Ii6 q2.R2,Ii6 q2.R3,Ii6 q2.R4,Ii6 q2.R5,Ii6 q2.R6,Ii6 q2.R7,.b a1.Stopped]] rfl (Al (Bg ?_))))))))))
  cases SJ h
  exact dnA rfl Uf rfl (.lp _ _ _ rfl) (Nbl rfl) rfl rfl
 ·refine csr (sv rfl (Bn rfl rfl) (rm 1 rfl (Al (ccI h rfl (fun h => ?_) (fun h => ?_)))))
  ·obtain ⟨hj3,h⟩ := Dx h
   obtain ⟨u4,hu4,h⟩ := Ag h
   obtain ⟨hj5,h⟩ := Dx h
   obtain ⟨u6,hu6,h⟩ := Ag h
   obtain ⟨v7,hv7,h⟩ := Ag h
   obtain ⟨hj8,h⟩ := Dx h
   obtain ⟨q9,hq9,h⟩ := Ag h
   refine Jj [19] [0,1,0,4,0,28,60,0,128,0,896,1920,4092,0,8192,32764,65532,0,262143,524287] [[.box (el a0),.box (el {a1 with PC := wI (a1.PC + 1)}),.box Zbb],[.box (el a0),.box [Ii6 (wI (a1.PC + 1)),Ii6 q9.R0,Ii6 q9.R1,Ii6 q9.R2,Ii6 q9.R3,Ii6 q9.R4,Ii6 q9.R5,Ii6 q9.R6,Ii6 q9.R7,.b a1.Stopped],.box Zbb]] (by kernel_rfl) Kd (by kernel_rfl) (by decide) rfl rfl rfl rfl ?_
   refine ev (Bb 0 rfl rfl) rfl rfl (Aa Vz rfl) (ev (Bb 0 rfl rfl) rfl rfl (Ae ti3 rfl (.lp _ _ _ rfl) rfl) (ev (Bb 0 rfl rfl) rfl rfl (Aa Vz rfl) (ev (Bb 0 rfl rfl) rfl rfl (Ae ti3 rfl (.lp _ _ _ rfl) rfl) (ev (Bb 0 rfl rfl) rfl rfl (Aa Ps rfl) (ev (Bb 0 rfl rfl) rfl rfl (M5 Ah5 rfl rfl hj3) (ev (Bb 0 rfl rfl) rfl rfl (X2 (fun x => Ii6 x) [.b a1.Stopped] ti3 rfl rfl rfl hu4) ?_))))))
   refine ev (Bb 0 rfl rfl) rfl rfl (Aa Zh rfl) (ev (Bb 0 rfl rfl) rfl rfl (Ae ti3 rfl (.lp _ _ _ rfl) rfl) (ev (Bb 0 rfl rfl) rfl rfl (Aa Ps rfl) (ev (Bb 0 rfl rfl) rfl rfl (M5 Ah5 rfl rfl hj5) (ev (Bb 0 rfl rfl) rfl rfl (X2 (fun x => Ii6 x) [.b a1.Stopped] ti3 rfl rfl rfl hu6) ?_))))
   refine ev (Bb 0 rfl rfl) rfl rfl (B4 rfl rfl) (ev (Bb 0 rfl rfl) rfl rfl (Aa Aag rfl) (ev (Bb 0 rfl rfl) rfl rfl (Ae ti3 rfl (.lp _ _ _ rfl) rfl) (ev (Bb 0 rfl rfl) rfl rfl (B4 rfl rfl) (ed (Bb 0 rfl rfl) rfl rfl (Cm Aso (Ab rfl Af) rfl (Qi hv7)) (ev (Bb 0 rfl rfl) rfl rfl (Aa Ps rfl) (ev (Bb 0 rfl rfl) rfl rfl (M5 Ah5 rfl rfl hj8) (ee0 0 rfl rfl rfl rfl (fun ζ => ?_) ?_)))))))
   ·refine An sz3 rfl rfl rfl rfl (Ac3 hj8 (Nbl rfl)) (Bs [.box (el a0),.box [Ii6 (wI (a1.PC + 1)),Ii6 q9.R0,Ii6 q9.R1,Ii6 q9.R2,Ii6 q9.R3,Ii6 q9.R4,Ii6 q9.R5,Ii6 q9.R6,Ii6 q9.R7,.b a1.Stopped],.box Zbb] (Tc (Ao5 hq9 [Ii6 (wI (a1.PC + 1))] [.b a1.Stopped])) ?_)
    exact Sv
   refine Z1 (Aw (Ac (csr (sv rfl (Ai Uf rfl (.lp _ _ _ rfl) (Nbl rfl)) (An Zq rfl rfl rfl rfl (Nbl rfl) (Bs [.box (el a0),.box [Ii6 (wI (a1.PC + 1)),Ii6 q9.R0,Ii6 q9.R1,Ii6 q9.R2,Ii6 q9.R3,Ii6 q9.R4,Ii6 q9.R5,Ii6 q9.R6,Ii6 q9.R7,.b a1.Stopped],.box [Ii6 (wI (a1.PC + 1)),Ii6 q9.R0,Ii6 q9.R1,Ii6 q9.R2,Ii6 q9.R3,Ii6 q9.R4,Ii6 q9.R5,Ii6 q9.R6,Ii6 q9.R7,.b a1.Stopped]] rfl (Al (Bg ?_))))))))
   cases SJ h
   exact dnA rfl Uf rfl (.lp _ _ _ rfl) (Nbl rfl) rfl rfl
  ·refine csr (sv rfl (Bn rfl rfl) (rm 1 rfl (Al (ccI h rfl (fun h => ?_) (fun h => ?_)))))
   ·refine csr (fl Vz ti3 rfl rfl rfl rfl rfl rfl (sv rfl (Aa Ps rfl) ?_))
    obtain ⟨hj10,h⟩ := Dx h
    refine sv rfl (M5 Ah5 rfl rfl hj10) ?_
    obtain ⟨u11,hu11,h⟩ := Ag h
    refine sv rfl (X2 (fun x => Ii6 x) [.b a1.Stopped] ti3 rfl rfl rfl hu11) ?_
    refine sv rfl (Bn rfl rfl) (Al (ccI h rfl (fun h => ?_) (fun h => ?_)))
    ·refine Az (fl Pq ti3 rfl rfl rfl rfl rfl rfl (fl Aag ti3 rfl rfl rfl rfl rfl rfl (sv rfl (B4 rfl rfl) (sv rfl (Aa Pq rfl) (An sz3 rfl rfl rfl rfl (Nbl rfl) (Bs [.box (el a0),.box (el {a1 with PC := wI ((wI (a1.PC + 1)) + a0.N)}),.box Zbb] rfl (Mp (Aw (Ac (csr (sv rfl (Ai Uf rfl (.lp _ _ _ rfl) (Nbl rfl)) (An Zq rfl rfl rfl rfl (Nbl rfl) (Bs [.box (el a0),.box (el {a1 with PC := wI ((wI (a1.PC + 1)) + a0.N)}),.box (el {a1 with PC := wI ((wI (a1.PC + 1)) + a0.N)})] rfl (Al (Bg ?_)))))))))))))))
     cases SJ h
     exact dnA rfl Uf rfl (.lp _ _ _ rfl) (Nbl rfl) rfl rfl
    ·refine Bi (Aw (Ac (csr (sv rfl (Ai Uf rfl (.lp _ _ _ rfl) (Nbl rfl)) (An Zq rfl rfl rfl rfl (Nbl rfl) (Bs [.box (el a0),.box (el {a1 with PC := wI (a1.PC + 1)}),.box (el {a1 with PC := wI (a1.PC + 1)})] rfl (Al (Bg ?_))))))))
     cases SJ h
     exact dnA rfl Uf rfl (.lp _ _ _ rfl) (Nbl rfl) rfl rfl
   ·refine csr (sv rfl (Bn rfl rfl) (rm 1 rfl (Al (ccI h rfl (fun h => ?_) (fun h => ?_)))))
    ·refine Az (sv rfl (Aa W6 rfl) (An sz4 rfl rfl rfl rfl (Nbl rfl) (Bs [.box (el a0),.box (el (J9.mk (wI (a1.PC + 1)) a1.Regs true)),.box Zbb] rfl (Mp (Aw (Ac (csr (sv rfl (Ai Uf rfl (.lp _ _ _ rfl) (Nbl rfl)) (An Zq rfl rfl rfl rfl (Nbl rfl) (Bs [.box (el a0),.box (el (J9.mk (wI (a1.PC + 1)) a1.Regs true)),.box (el (J9.mk (wI (a1.PC + 1)) a1.Regs true))] rfl (Al (Bg ?_))))))))))))
     cases SJ h
     exact dnA rfl Uf rfl (.lp _ _ _ rfl) (Nbl rfl) rfl rfl
    ·refine Bi (Aw (Ac (csr (sv rfl (Ai Uf rfl (.lp _ _ _ rfl) (Nbl rfl)) (An Zq rfl rfl rfl rfl (Nbl rfl) (Bs [.box (el a0),.box (el {a1 with PC := wI (a1.PC + 1)}),.box (el {a1 with PC := wI (a1.PC + 1)})] rfl (Al (Bg ?_))))))))
     cases SJ h
     exact dnA rfl Uf rfl (.lp _ _ _ rfl) (Nbl rfl) rfl rfl
def Og (a0 : Cv) (b2 : A1) : Option (B7 × A1 × Bool) :=
 some (Pl,(A1.mk (if (a0.Ops.length : Int) < b2.PC then (a0.Ops.length : Int) else b2.PC) b2.Regs b2.Stopped),false)
def Mm (a0 : Cv) (s3 : A1) (b4 : Unit) : Option (LR (A1) (A1) (B7 × A1 × Bool)) :=
 (idx a0.Ops s3.PC).bind fun u5 => (K7 u5).bind fun v6 => if v6 then ((Er u5 s3).bind fun v7 => some (.ret (v7,s3,true))) else ((Lz u5 s3).bind fun v8 => some (.cont v8))
def G0 (a0 : Cv) (s3 : A1) : Option (LR (A1) (A1) (B7 × A1 × Bool)) :=
 if (decide (s3.PC < (a0.Ops.length : Int))) then (if (!s3.Stopped) then (Mm a0 s3 ()) else (some (.brk s3))) else (some (.brk s3))
def Mk (a0 : Cv) (a1 : A1) (b1 : Unit) : Option (B7 × A1 × Bool) :=
 (Qx (G0 a0) fuel a1).bind fun x => match x with | .inl r => some r | .inr e9 => Og a0 e9
def F3 (a0 : Cv) (a1 : A1) : Option (B7 × A1 × Bool) :=
 (D9 a0).bind fun v10 => if (!v10) then (some (Pl,a1,false)) else (if (decide (a1.PC < 0)) then (some (Pl,a1,false)) else (Mk a0 a1 ()))
theorem Xr {a0 : Cv} {a1 : A1} {r : B7 × A1 × Bool} (h : F3 a0 a1 = some r) : Bl Tryz.prog 127 [.agg (el a0),.agg (el a1)] (· = .tup [.agg (el r.1),.agg (el r.2.1),.one (.b r.2.2)]) := by
 unfold F3 at h
 refine Au Tryz.func127 rfl (nt := 53) rfl (Nbl rfl) ?_
 intro w0 S0
 refine csr (Ih rfl rfl (Ih rfl rfl (Bw rfl Adp (Bw rfl Alm (rm 1 rfl (Al (Bp (Bp (Jk (Unit) (fun b1 => [(2,.s (.one (.lp 0 0))),(3,.s (.one (.lp 1 0))),(4,.s (.one (.lp 2 0))),(5,.s (.one (.lp 3 0)))]) (fun b1 => [.box (el a0),.box (el a1),.box Zbc,.box Zbb]) (fun b1 => Mk a0 a1 b1 = some r) (fun _ _ => A6 rfl) (fun _ _ => Ar rfl) (fun _ _ => Nbl rfl) (fun b1 h => ?_) ?_)))))))))
 ·unfold Mk at h
  refine Bp (Gg (A1) (fun b2 => [(2,.s (.one (.lp 0 0))),(3,.s (.one (.lp 1 0))),(4,.s (.one (.lp 2 0))),(5,.s (.one (.lp 3 0)))]) (fun b2 => [.box (el a0),.box (el b2),.box Zbc,.box Zbb]) (fun b2 => Og a0 b2 = some r) (fun _ _ => A6 rfl) (fun _ _ => Ar rfl) (fun _ _ => Nbl rfl) (fun b2 h => ?_) ?_)
  ·unfold Og at h
   refine csr (fl Pq ti3 rfl rfl rfl rfl rfl rfl (fl Si Ald rfl rfl rfl rfl rfl rfl (sv rfl (Aq Aki rfl) (sv rfl (Vf rfl rfl) (sv rfl (Aa Pq rfl) (An sz3 rfl rfl rfl rfl (Nbl rfl) (Bs [.box (el a0),.box (el {b2 with PC := if (a0.Ops.length : Int) < b2.PC then (a0.Ops.length : Int) else b2.PC}),.box Zbc,.box Zbb] rfl (Al (Bp ?_)))))))))
   refine Jj [2,3] [0,0,1,7,15] [[.box (el a0),.box (el {b2 with PC := if (a0.Ops.length : Int) < b2.PC then (a0.Ops.length : Int) else b2.PC}),.box Zbc,.box Zbb],[.box (el a0),.box (el {b2 with PC := if (a0.Ops.length : Int) < b2.PC then (a0.Ops.length : Int) else b2.PC}),.box Zbc,.box Zbb],[.box (el a0),.box (el {b2 with PC := if (a0.Ops.length : Int) < b2.PC then (a0.Ops.length : Int) else b2.PC}),.box Zbc,.box (el {b2 with PC := if (a0.Ops.length : Int) < b2.PC then (a0.Ops.length : Int) else b2.PC})]] (by kernel_rfl) Kd (by kernel_rfl) (by decide) rfl rfl rfl rfl ?_
   refine ev (Bb 0 rfl rfl) rfl rfl (Be Adp Ahn Ay (.nil _)) (ev (Bh (md := [.box (el a0),.box (el {b2 with PC := if (a0.Ops.length : Int) < b2.PC then (a0.Ops.length : Int) else b2.PC}),.box Zbc,.dead]) ⟨⟨rfl,⟨rfl,⟨rfl,⟨trivial,trivial⟩⟩⟩⟩,⟨⟨rfl,⟨rfl,⟨rfl,⟨trivial,trivial⟩⟩⟩⟩,⟨⟨rfl,⟨rfl,⟨rfl,⟨trivial,trivial⟩⟩⟩⟩,trivial⟩⟩⟩) rfl rfl (Ai Uf rfl (.lp _ _ _ rfl) (Nbl rfl)) (ee0 0 rfl rfl rfl rfl (fun ζ => ?_) ?_))
   ·refine An Alq rfl rfl rfl rfl (Nbl rfl) (Bs [.box (el a0),.box (el {b2 with PC := if (a0.Ops.length : Int) < b2.PC then (a0.Ops.length : Int) else b2.PC}),.box Zbc,.box Zbb] rfl ?_)
    exact Sv
   refine ee0 1 rfl rfl rfl rfl (fun ζ => ?_) ?_
   ·refine An Zq rfl rfl rfl rfl (Nbl rfl) (Bs [.box (el a0),.box (el {b2 with PC := if (a0.Ops.length : Int) < b2.PC then (a0.Ops.length : Int) else b2.PC}),.box Zbc,.box (el {b2 with PC := if (a0.Ops.length : Int) < b2.PC then (a0.Ops.length : Int) else b2.PC})] rfl ?_)
    exact Sv
   refine ev (Bb 2 rfl rfl) rfl rfl (K5 rfl) (Z1 (Ac (Bg ?_)))
   cases SJ h
   refine ⟨Or.inr rfl,_,_,_,(Aj (Cu.agg _ _ _ _ _ Agc rfl (.lp _ _ _ rfl) (Nbl rfl)) (Aj (Cu.agg _ _ _ _ _ Uf rfl (.lp _ _ _ rfl) (Nbl rfl)) (Aj (Cu.tmp _ _ rfl) As))),(O4 rfl),?_⟩
   rfl
  ·skip
   refine B3 ?_
   obtain ⟨x3,hx3,ho3⟩ := Ag h
   refine Ct (G := Nat × (A1)) (fun g => [(2,.s (.one (.lp 0 0))),(3,.s (.one (.lp 1 0))),(4,.s (.one (.lp 2 0))),(5,.s (.one (.lp 3 0)))]) (fun g => [.box (el a0),.box (el g.2),.box Zbc,.box Zbb]) (fun g => Qx (G0 a0) g.1 g.2 = some x3) (fun g => g.1) (fuel,a1) hx3 ⟨rfl,rfl,rfl,rfl,trivial⟩ [] rfl (fun _ _ => A6 rfl) (fun _ _ => Ar rfl) (fun _ _ => Nbl rfl) ?_
   clear hx3 h
   rintro ⟨n3,s3⟩ h
   obtain ⟨n3,y3,rfl,h,hk3⟩ := Oa h
   unfold G0 at h
   refine Bp (Bp (Jk (Unit) (fun b4 => [(2,.s (.one (.lp 0 0))),(3,.s (.one (.lp 1 0))),(4,.s (.one (.lp 2 0))),(5,.s (.one (.lp 3 0)))]) (fun b4 => [.box (el a0),.box (el s3),.box Zbc,.box Zbb]) (fun b4 => Mm a0 s3 b4 = some y3) (fun _ _ => A6 rfl) (fun _ _ => Ar rfl) (fun _ _ => Nbl rfl) (fun b4 h => ?_) ?_))
   ·unfold Mm at h
    refine B3 (csr (fl Si Ald rfl rfl rfl rfl rfl rfl (sv rfl (Aa Pq rfl) (sv rfl (Ae ti3 rfl (.lp _ _ _ rfl) rfl) ?_))))
    obtain ⟨u5,hu5,h⟩ := Ag h
    refine sv rfl (Db (f := Ce) Aki (fun _ => rfl) rfl rfl rfl rfl hu5) ?_
    refine sv rfl (Cb (ys := [Ii6 u5.What,Ii6 u5.A,Ii6 u5.B,Ii6 u5.N,.sl u5.Key.length (u5.Key.flatMap eU8),.sl u5.Rng.Lo.length (u5.Rng.Lo.flatMap eU8),.sl u5.Rng.Hi.length (u5.Rng.Hi.flatMap eU8),.b u5.Rng.Open]) Ame rfl (.cp _) rfl rfl) (Bw rfl Ar0 (An Au1 rfl rfl rfl rfl (Nbl rfl) (Bs [.box (el a0),.box (el s3),.box Zbc,.box Zbb,.box (el u5)] rfl (Al (Bp (csr (sv rfl (Ai Ame rfl (.lp _ _ _ rfl) (Nbl rfl)) ?_)))))))
    obtain ⟨v6,hv6,h⟩ := Ag h
    refine Av rfl As5 (Ab rfl Af) (Ao rfl) (Sb hv6) (Al (ccI h rfl (fun h => ?_) (fun h => ?_)))
    ·refine Bp ?_
     obtain ⟨v7,hv7,h⟩ := Ag h
     refine Jj [4,5] [0,0,3,0,7,31,63] [[.box (el a0),.box (el s3),.box Zbc,.box Zbb,.box (el u5)],[.box (el a0),.box (el s3),.box (el v7),.box Zbb,.box (el u5)],[.box (el a0),.box (el s3),.box (el v7),.box (el s3),.box (el u5)]] (by kernel_rfl) Kd (by kernel_rfl) (by decide) rfl rfl rfl rfl ?_
     refine ev (Bb 0 rfl rfl) rfl rfl (Ai Ame rfl (.lp _ _ _ rfl) (Nbl rfl)) (ev (Bb 0 rfl rfl) rfl rfl (Ai Uf rfl (.lp _ _ _ rfl) (Nbl rfl)) (ed (Bb 0 rfl rfl) rfl rfl (Cm Axa (Ab rfl (Ab rfl Af)) rfl (U3 hv7)) (ev (Bh (md := [.box (el a0),.box (el s3),.dead,.dead,.box (el u5)]) ⟨⟨rfl,⟨rfl,⟨trivial,⟨trivial,⟨rfl,trivial⟩⟩⟩⟩⟩,⟨⟨rfl,⟨rfl,⟨trivial,⟨trivial,⟨rfl,trivial⟩⟩⟩⟩⟩,⟨⟨rfl,⟨rfl,⟨trivial,⟨trivial,⟨rfl,trivial⟩⟩⟩⟩⟩,trivial⟩⟩⟩) rfl rfl (Ai Uf rfl (.lp _ _ _ rfl) (Nbl rfl)) (ee0 0 rfl rfl rfl rfl (fun ζ => ?_) ?_))))
     ·refine An Alq rfl rfl rfl rfl (Nbl rfl) (Bs [.box (el a0),.box (el s3),.box (el v7),.box Zbb,.box (el u5)] rfl ?_)
      exact Sv
     refine ee0 1 rfl rfl rfl rfl (fun ζ => ?_) ?_
     ·refine An Zq rfl rfl rfl rfl (Nbl rfl) (Bs [.box (el a0),.box (el s3),.box (el v7),.box (el s3),.box (el u5)] rfl ?_)
      exact Sv
     refine ev (Bb 2 rfl rfl) rfl rfl (K5 rfl) (Z1 (Ac (Bg (Ak (A2 (Ak (A2 (Ak ?_))))))))
     cases SJ h
     obtain rfl : Sum.inl _ = x3 := hk3
     replace ho3 : some _ = some _ := ho3
     obtain rfl := Option.some.inj ho3
     refine ⟨Or.inr rfl,_,_,_,(Aj (Cu.agg _ _ _ _ _ Agc rfl (.lp _ _ _ rfl) (Nbl rfl)) (Aj (Cu.agg _ _ _ _ _ Uf rfl (.lp _ _ _ rfl) (Nbl rfl)) (Aj (Cu.tmp _ _ rfl) As))),(Ao rfl),?_⟩
     rfl
    ·refine Bi (Ac (Az (sv rfl (Ai Ame rfl (.lp _ _ _ rfl) (Nbl rfl)) (sv rfl (Ai Uf rfl (.lp _ _ _ rfl) (Nbl rfl)) ?_))))
     obtain ⟨v8,hv8,h⟩ := Ag h
     refine Av rfl Avi (Ab rfl (Ab rfl Af)) (Ao rfl) (Wr hv8) (An Zq rfl rfl rfl rfl (Nbl rfl) (Bs [.box (el a0),.box (el v8),.box Zbc,.box Zbb,.box (el u5)] rfl (Mp (Aw (Ac ?_)))))
     cases SJ h
     exact ⟨(n3,v8),_,hk3,⟨rfl,rfl,rfl,rfl,trivial⟩,rfl,Nat.lt_succ_self _⟩
   ·skip
    refine Az (fl Pq ti3 rfl rfl rfl rfl rfl rfl (fl Si Ald rfl rfl rfl rfl rfl rfl (sv rfl (Aq Aki rfl) (sv rfl (Ci rfl rfl) (rm 1 rfl (Bf 24 rfl (fun hc => ?_) (fun hc => ?_)))))))
    ·replace h := Br hc h
     clear hc
     refine son rfl rfl rfl (sv rfl (Aa W6 rfl) (son rfl rfl rfl (sv rfl (Ae ti4 rfl (.lp _ _ _ rfl) rfl) (son rfl rfl rfl (sv rfl (B5 rfl) (rm 1 rfl (Al (ccI h rfl (fun h => ?_) (fun h => ?_)))))))))
     ·refine Bi (Ac ?_)
      exact ⟨(),_,h,⟨rfl,rfl,rfl,rfl,trivial⟩,rfl⟩
     ·refine Kk (Bd (Bd (B8 (Ac ?_))))
      cases SJ h
      obtain rfl : _ = x3 := hk3
      exact ⟨s3,_,ho3,⟨rfl,rfl,rfl,rfl,trivial⟩,rfl⟩
    ·replace h := Bq hc h
     clear hc
     refine rm 4 rfl (Al (Ei rfl (fun hx => Bool.noConfusion hx) (fun _ => ?_)))
     refine Kk (Bd (Bd (B8 (Ac ?_))))
     cases SJ h
     obtain rfl : _ = x3 := hk3
     exact ⟨s3,_,ho3,⟨rfl,rfl,rfl,rfl,trivial⟩,rfl⟩
 ·skip
  refine Az (sv rfl (Ai Ara rfl (.lp _ _ _ rfl) (Nbl rfl)) ?_)
  obtain ⟨v10,hv10,h⟩ := Ag h
  refine Av rfl Avy (Ab rfl Af) (Ao rfl) (Po hv10) (sv rfl (B5 rfl) (rm 1 rfl (Bf 11 rfl (fun hc => ?_) (fun hc => ?_))))
  ·replace h := Br hc h
   clear hc
   refine rm 4 rfl (Al (Ei rfl (fun _ => ?_) (fun hx => Bool.noConfusion hx)))
   refine Bp ?_
   refine Jj [2,3] [0,0,1,7,15] [[.box (el a0),.box (el a1),.box Zbc,.box Zbb],[.box (el a0),.box (el a1),.box Zbc,.box Zbb],[.box (el a0),.box (el a1),.box Zbc,.box (el a1)]] (by kernel_rfl) Kd (by kernel_rfl) (by decide) rfl rfl rfl rfl ?_
   refine ev (Bb 0 rfl rfl) rfl rfl (Be Adp Ahn Ay (.nil _)) (ev (Bh (md := [.box (el a0),.box (el a1),.box Zbc,.dead]) ⟨⟨rfl,⟨rfl,⟨rfl,⟨trivial,trivial⟩⟩⟩⟩,⟨⟨rfl,⟨rfl,⟨rfl,⟨trivial,trivial⟩⟩⟩⟩,⟨⟨rfl,⟨rfl,⟨rfl,⟨trivial,trivial⟩⟩⟩⟩,trivial⟩⟩⟩) rfl rfl (Ai Uf rfl (.lp _ _ _ rfl) (Nbl rfl)) (ee0 0 rfl rfl rfl rfl (fun ζ => ?_) ?_))
   ·refine An Alq rfl rfl rfl rfl (Nbl rfl) (Bs [.box (el a0),.box (el a1),.box Zbc,.box Zbb] rfl ?_)
    exact Sv
   refine ee0 1 rfl rfl rfl rfl (fun ζ => ?_) ?_
   ·refine An Zq rfl rfl rfl rfl (Nbl rfl) (Bs [.box (el a0),.box (el a1),.box Zbc,.box (el a1)] rfl ?_)
    exact Sv
   refine ev (Bb 2 rfl rfl) rfl rfl (K5 rfl) (Z1 (Ac (Bg (Ak ?_))))
   cases SJ h
   refine ⟨Or.inr rfl,_,_,_,(Aj (Cu.agg _ _ _ _ _ Agc rfl (.lp _ _ _ rfl) (Nbl rfl)) (Aj (Cu.agg _ _ _ _ _ Uf rfl (.lp _ _ _ rfl) (Nbl rfl)) (Aj (Cu.tmp _ _ rfl) As))),(O4 rfl),?_⟩
   rfl
  ·replace h := Bq hc h
   clear hc
   refine son rfl rfl rfl (sv rfl (Aa Pq rfl) (son rfl rfl rfl (sv rfl (Ae ti3 rfl (.lp _ _ _ rfl) rfl) (son rfl rfl rfl (sv rfl (Ci rfl rfl) (rm 1 rfl (Al (ccI h rfl (fun h => ?_) (fun h => ?_)))))))))
   ·refine Bp ?_
    refine Jj [2,3] [0,0,1,7,15] [[.box (el a0),.box (el a1),.box Zbc,.box Zbb],[.box (el a0),.box (el a1),.box Zbc,.box Zbb],[.box (el a0),.box (el a1),.box Zbc,.box (el a1)]] (by kernel_rfl) Kd (by kernel_rfl) (by decide) rfl rfl rfl rfl ?_
    refine ev (Bb 0 rfl rfl) rfl rfl (Be Adp Ahn Ay (.nil _)) (ev (Bh (md := [.box (el a0),.box (el a1),.box Zbc,.dead]) ⟨⟨rfl,⟨rfl,⟨rfl,⟨trivial,trivial⟩⟩⟩⟩,⟨⟨rfl,⟨rfl,⟨rfl,⟨trivial,trivial⟩⟩⟩⟩,⟨⟨rfl,⟨rfl,⟨rfl,⟨trivial,trivial⟩⟩⟩⟩,trivial⟩⟩⟩) rfl rfl (Ai Uf rfl (.lp _ _ _ rfl) (Nbl rfl)) (ee0 0 rfl rfl rfl rfl (fun ζ => ?_) ?_))
    ·refine An Alq rfl rfl rfl rfl (Nbl rfl) (Bs [.box (el a0),.box (el a1),.box Zbc,.box Zbb] rfl ?_)
     exact Sv
    refine ee0 1 rfl rfl rfl rfl (fun ζ => ?_) ?_
    ·refine An Zq rfl rfl rfl rfl (Nbl rfl) (Bs [.box (el a0),.box (el a1),.box Zbc,.box (el a1)] rfl ?_)
     exact Sv
    refine ev (Bb 2 rfl rfl) rfl rfl (K5 rfl) (Z1 (Ac (Bg (Ak ?_))))
    cases SJ h
    refine ⟨Or.inr rfl,_,_,_,(Aj (Cu.agg _ _ _ _ _ Agc rfl (.lp _ _ _ rfl) (Nbl rfl)) (Aj (Cu.agg _ _ _ _ _ Uf rfl (.lp _ _ _ rfl) (Nbl rfl)) (Aj (Cu.tmp _ _ rfl) As))),(O4 rfl),?_⟩
    rfl
   ·refine Bi (Ac ?_)
    exact ⟨(),_,h,⟨rfl,rfl,rfl,rfl,trivial⟩,rfl⟩
def Jl (a0 : Int) (b1 : Unit) : Option (List A9) :=
 if (decide (0 < (wI (a0 - (wI (0 - 0)))))) then (if 0 < (wI (a0 - (wI (0 - 0)))) ∧ (wI (a0 - (wI (0 - 0)))) * ((80 : Nat) : Int) ≤ 281474976710656 then (if (0 : Int) ≤ 0 ∧ 0 ≤ ((List.replicate (wI (a0 - (wI (0 - 0)))).toNat Nx).length : Int) then (some ((List.replicate (wI (a0 - (wI (0 - 0)))).toNat Nx).take (0 : Int).toNat)) else none) else none) else (some ([] : List A9))
def Ka (a0 : Int) : Option (List A9) :=
 if (decide (a0 < 0)) then none else (Jl a0 ())
theorem Vd {a0 : Int} {r : (List A9)} (h : Ka a0 = some r) : Hm Tryz.prog 137 [] [.one (Znl),.one (Ii6 a0)] (fun y m' => y = .s (.one (.ls 0 r.length)) ∧ m' = [.arr 64 10 0 (r.flatMap A5)]) := by
 unfold Ka at h
 refine C3 Tryz.func137 rfl (nt := 27) rfl (Nbl rfl) ?_
 intro w0 S0 X0 H0
 refine csr (rm 1 rfl (Al (Bp (csr (rm 1 rfl (sv rfl (Ci rfl rfl) (Al (Gg (Unit) (fun b1 => [(0,.s (.one (Znl))),(1,.s (.one (Ii6 a0)))]) (fun b1 => []) (fun b1 => Jl a0 b1 = some r) (fun _ _ => A6 rfl) (fun _ _ => Ar rfl) (fun _ _ => Nbl rfl) (fun b1 h => ?_) ?_))))))))
 ·unfold Jl at h
  refine Bp (csr (rm 2 rfl (sv rfl (L8 Alz rfl) (rm 1 rfl (sv rfl (Lq Alz rfl) (sv rfl (Om rfl rfl) (sv rfl (Om rfl rfl) (rm 1 rfl (Al (csr (rm 1 rfl (sv rfl (Dr rfl rfl) (Al (ccI h rfl (fun h => ?_) (fun h => ?_)))))))))))))))
  ·refine Az (rm 2 rfl (sv rfl (L8 Alz rfl) (sv rfl (Pg Alz rfl rfl) (sv rfl (Bc rfl) ?_))))
   obtain ⟨hm2,h⟩ := Dx h
   refine Arb (f := A5) (z := Nx) rfl Tryz.underlying42 Awc Tryz.underlying3 (fun _ => rfl) rfl rfl rfl hm2 (by decide) ?_
   refine rm 1 rfl (sv rfl (Lq Alz rfl) ?_)
   obtain ⟨hs3,h⟩ := Dx h
   refine Agy (f := A5) rfl Alz (fun _ => rfl) rfl rfl rfl rfl rfl hs3 ?_
   refine rm 1 rfl (Al (csr (rm 2 rfl (Al (Bg ?_)))))
   cases SJ h
   exact ⟨Or.inr rfl,_,[1],[.one (.ls 0 ((List.replicate (wI (a0 - (wI (0 - 0)))).toNat Nx).take (0 : Int).toNat).length)],[.arr 64 10 0 (((List.replicate (wI (a0 - (wI (0 - 0)))).toNat Nx).take (0 : Int).toNat).flatMap A5)],(Aj (Cu.tmp _ _ rfl) As),rfl,rfl,⟨by decide,rfl⟩,rfl,rfl,⟨rfl,rfl⟩⟩
  ·refine Bi (Ac (csr (rm 2 rfl (Al ?_))))
   refine Qq 64 10 4 (by decide) rfl ?_
   refine Bg ?_
   cases SJ h
   exact ⟨Or.inr rfl,_,[0],[.one (.ls 0 ([] : List A9).length)],[.arr 64 10 0 (([] : List A9).flatMap A5)],(Aj (Cu.tmp _ _ rfl) As),rfl,rfl,⟨by decide,rfl⟩,rfl,rfl,⟨rfl,rfl⟩⟩
 ·skip
  refine ccI h rfl (fun h => ?_) (fun h => ?_)
  ·cases h
  ·refine Bi (Ac ?_)
   exact ⟨(),_,h,⟨rfl,rfl,trivial⟩,rfl⟩
def Lc (b3 : (List A9)) : Option (List A9) :=
 some b3
def E5 (a0 : List (List A9)) (s4 : Int × (List A9)) : Option (LB (Int × (List A9)) ((List A9))) :=
 if (decide (s4.1 < (a0.length : Int))) then ((idx a0 s4.1).bind fun u5 => if (s4.2.length + u5.length) * 80 ≤ 140737488355328 then (some (.cont ((wI (s4.1 + 1)),(s4.2 ++ u5)))) else none) else (some (.brk s4.2))
def Iv (a0 : List (List A9)) (b1 : Int) : Option (List A9) :=
 (Ka b1).bind fun v2 => (Ec (E5 a0) fuel (0,v2)).bind fun e7 => Lc e7
def E7 (a0 : List (List A9)) (s8 : Int × Int) : Option (LB (Int × Int) (Int)) :=
 if (decide (s8.2 < (a0.length : Int))) then ((idx a0 s8.2).bind fun u9 => if (decide ((wI (s8.1 + (u9.length : Int))) < 0)) then none else (some (.cont ((wI (s8.1 + (u9.length : Int))),(wI (s8.2 + 1)))))) else (some (.brk s8.1))
def Iu (a0 : List (List A9)) : Option (List A9) :=
 (Ec (E7 a0) fuel (0,0)).bind fun e10 => Iv a0 e10
theorem S9 {a0 : List (List A9)} {r : (List A9)} (h : Iu a0 = some r) : Hm Tryz.prog 128 [] [.one (.sl a0.length (a0.flatMap (eL A5)))] (fun y m' => y = .s (.one (.ls 0 r.length)) ∧ m' = [.arr 64 10 0 (r.flatMap A5)]) := by
 unfold Iu at h
 refine C3 Tryz.func128 rfl (nt := 36) rfl (Nbl rfl) ?_
 intro w0 S0 X0 H0
 refine csr (rm 1 rfl (Al (csr (rm 1 rfl (Al (Bp (csr (rm 1 rfl (sv rfl (Aq Amr rfl) (rm 1 rfl (Al (Gg (Int) (fun b1 => [(0,.s (.one (.sl a0.length (a0.flatMap (eL A5))))),(3,.s (.one (Ii6 b1)))]) (fun b1 => []) (fun b1 => Iv a0 b1 = some r) (fun _ _ => A6 rfl) (fun _ _ => Ar rfl) (fun _ _ => Nbl rfl) (fun b1 h => ?_) ?_))))))))))))
 ·unfold Iv at h
  refine csr (sv rfl (Bc rfl) ?_)
  obtain ⟨v2,hv2,h⟩ := Ag h
  refine Da (x' := .s (.one (.ls 0 v2.length))) (M' := [.arr 64 10 0 (v2.flatMap A5)]) [] rfl Av4 (.func _) (Ab rfl (Ab rfl Af)) (Vd hv2) rfl rfl (by decide) rfl rfl rfl ?_
  refine rm 1 rfl (Al (Bp (csr (rm 1 rfl (sv rfl (Aq Amr rfl) (rm 1 rfl (Al (Gg ((List A9)) (fun b3 => [(6,.s (.one (.ls 0 b3.length)))]) (fun b3 => [.arr 64 10 0 (b3.flatMap A5)]) (fun b3 => Lc b3 = some r) (fun _ _ => A6 rfl) (fun _ _ => Ar rfl) (fun _ _ => Nbl rfl) (fun b3 h => ?_) ?_))))))))
  ·unfold Lc at h
   refine csr (rm 2 rfl (Al (Bg ?_)))
   obtain rfl := SJ h
   exact ⟨Or.inr rfl,_,[0],[.one (.ls 0 b3.length)],[.arr 64 10 0 (b3.flatMap A5)],(Aj (Cu.tmp _ _ rfl) As),rfl,rfl,⟨by decide,rfl⟩,rfl,rfl,⟨rfl,rfl⟩⟩
  ·skip
   refine B3 ?_
   obtain ⟨x4,hx4,ho4⟩ := Ag h
   refine Ct (G := Nat × (Int × (List A9))) (fun g => [(6,.s (.one (.ls 0 g.2.2.length))),(25,.s (.one (.sl a0.length (a0.flatMap (eL A5))))),(26,.s (.one (Ii6 (a0.length : Int)))),(27,.s (.one (Ii6 g.2.1)))]) (fun g => [.arr 64 10 0 (g.2.2.flatMap A5)]) (fun g => Ec (E5 a0) g.1 g.2 = some x4) (fun g => g.1) (fuel,(0,v2)) hx4 ⟨rfl,rfl,rfl,rfl,trivial⟩ [] rfl (fun _ _ => A6 rfl) (fun _ _ => Ar rfl) (fun _ _ => Nbl rfl) ?_
   clear hx4 h
   rintro ⟨n4,s4⟩ h
   obtain ⟨n4,y4,rfl,h,hk4⟩ := Fj h
   unfold E5 at h
   refine csr (sv rfl (Ci rfl rfl) (Al (Bp (ccI h rfl (fun h => ?_) (fun h => ?_)))))
   ·refine Bi (Ac (Bp (B3 (Bp (Az ?_)))))
    obtain ⟨u5,hu5,h⟩ := Ag h
    refine sv rfl (Db (f := (eL A5)) Amr (fun _ => rfl) rfl rfl rfl rfl hu5) ?_
    refine sv rfl (Ae Ar5 rfl (.cp _) rfl) (rm 1 rfl (Al (Az (rm 1 rfl (sv rfl (Bc rfl) ?_)))))
    obtain ⟨hb6,h⟩ := Dx h
    refine Af4 (f := A5) (xs := s4.2) (us := u5) rfl Tryz.underlying42 Awc A1w (fun _ => rfl) rfl rfl (.one _ _ _ _ (.id _ rfl)) rfl rfl rfl (.sl _ _ _ (A7 (f := A5) (fun _ => rfl) _)) rfl rfl hb6 (by decide) ?_
    refine rm 1 rfl (Mp (Aw (Ac (Az (sv rfl (B4 rfl rfl) (rm 1 rfl (Al ?_)))))))
    cases SJ h
    exact ⟨(n4,((wI (s4.1 + 1)),(s4.2 ++ u5))),_,hk4,⟨rfl,rfl,rfl,rfl,trivial⟩,rfl,Nat.lt_succ_self _⟩
   ·refine Kk (Bd (Bd (B8 (Ac ?_))))
    cases SJ h
    obtain rfl : _ = x4 := hk4
    exact ⟨s4.2,_,ho4,⟨rfl,trivial⟩,rfl⟩
 ·skip
  refine B3 ?_
  obtain ⟨x8,hx8,ho8⟩ := Ag h
  refine Ct (G := Nat × (Int × Int)) (fun g => [(0,.s (.one (.sl a0.length (a0.flatMap (eL A5))))),(3,.s (.one (Ii6 g.2.1))),(9,.s (.one (.sl a0.length (a0.flatMap (eL A5))))),(10,.s (.one (Ii6 (a0.length : Int)))),(11,.s (.one (Ii6 g.2.2)))]) (fun g => []) (fun g => Ec (E7 a0) g.1 g.2 = some x8) (fun g => g.1) (fuel,(0,0)) hx8 ⟨rfl,rfl,rfl,rfl,rfl,trivial⟩ [] rfl (fun _ _ => A6 rfl) (fun _ _ => Ar rfl) (fun _ _ => Nbl rfl) ?_
  clear hx8 h
  rintro ⟨n8,s8⟩ h
  obtain ⟨n8,y8,rfl,h,hk8⟩ := Fj h
  unfold E7 at h
  refine csr (sv rfl (Ci rfl rfl) (Al (Bp (ccI h rfl (fun h => ?_) (fun h => ?_)))))
  ·refine Bi (Ac (Bp (B3 (Bp (Az ?_)))))
   obtain ⟨u9,hu9,h⟩ := Ag h
   refine sv rfl (Db (f := (eL A5)) Amr (fun _ => rfl) rfl rfl rfl rfl hu9) ?_
   refine sv rfl (Ae Ar5 rfl (.cp _) rfl) (rm 1 rfl (Al (csr (rm 2 rfl (sv rfl (Aq Alz rfl) (sv rfl (B4 rfl rfl) (rm 1 rfl (Al (csr (rm 1 rfl (sv rfl (Ci rfl rfl) (Al (ccI h rfl (fun h => ?_) (fun h => ?_))))))))))))))
   ·cases h
   ·refine Bi (Aw (Ac (Az (sv rfl (B4 rfl rfl) (rm 1 rfl (Al ?_))))))
    cases SJ h
    exact ⟨(n8,((wI (s8.1 + (u9.length : Int))),(wI (s8.2 + 1)))),_,hk8,⟨rfl,rfl,rfl,rfl,rfl,trivial⟩,rfl,Nat.lt_succ_self _⟩
  ·refine Kk (Bd (Bd (B8 (Ac ?_))))
   cases SJ h
   obtain rfl : _ = x8 := hk8
   exact ⟨s8.1,_,ho8,⟨rfl,rfl,trivial⟩,rfl⟩
def Es (a0 : Ad) : Option Ad :=
 (idx a0.Tasks 0).bind fun u1 => (F3 u1.Prog a0.St).bind fun v2 => if v2.2.2 then ((Cc ({a0 with Phase := 4,St := v2.2.1}) v2.1).bind fun v3 => some v3) else (if v2.2.1.Stopped then ((Cc ({a0 with Phase := 6,St := v2.2.1}) (B7.mk 8 0 0 0 false ([] : List UInt8) ([] : List UInt8) Bu)).bind fun v4 => some v4) else ((idx a0.Tasks 0).bind fun u5 => (Cc ({a0 with Phase := 5,St := v2.2.1}) (B7.mk 7 0 0 0 false ([] : List UInt8) ([] : List UInt8) Bu)).bind fun v6 => if (decide (v6.Phase = 11)) then (some v6) else ((Iu [v6.Tried,[(A9.mk u5.Token a0.Attempt v2.2.1.Regs)]]).bind fun v7 => some ({v6 with Risk := true,Tried := v7}))))
theorem M2 {a0 : Ad} {r : Ad} (h : Es a0 = some r) : Bl Tryz.prog 116 [.agg (el a0)] (· = .s (.agg (el r))) := by
 unfold Es at h
 refine Au Tryz.func116 rfl (nt := 61) rfl (Nbl rfl) ?_
 intro w0 S0
 refine csr (Ih rfl rfl (Bw rfl O1 (Al (Bp (Aey (Aey ?_))))))
 obtain ⟨u1,hu1,h⟩ := Ag h
 obtain ⟨v2,hv2,h⟩ := Ag h
 refine Aqe [12,13,14,15] [0,1,3,7,15,0,32,127,255,511,511,511,0,0,13311,30719,65535] [([false,false,false,false],[.box (el a0),.box Zba,.hole,.hole]),([false,true,false,false],[.box (el a0),.box Zba,.hole,.box Zbb]),([true,false,false,false],[.box (el a0),.box Zba,.box Zbc,.hole]),([true,true,false,false],[.box (el a0),.box Zba,.box Zbc,.box Zbb]),([true,true,true,false],[.box (el a0),.box Zba,.box (el v2.1),.box Zbb]),([true,true,true,true],[.box (el a0),.box Zba,.box (el v2.1),.box (el v2.2.1)])] (by kernel_rfl) Kd (by kernel_rfl) (by decide) rfl (by kernel_rfl) rfl rfl ?_
 refine mev (md := [.box (el a0),.box Zba,.dead,.dead]) (Dm rfl ⟨rfl,⟨rfl,⟨trivial,⟨trivial,trivial⟩⟩⟩⟩ (Dm rfl ⟨rfl,⟨rfl,⟨trivial,⟨trivial,trivial⟩⟩⟩⟩ (Dm rfl ⟨rfl,⟨rfl,⟨trivial,⟨trivial,trivial⟩⟩⟩⟩ (Dm rfl ⟨rfl,⟨rfl,⟨trivial,⟨trivial,trivial⟩⟩⟩⟩ (Gv rfl (Gv rfl Kp)))))) rfl rfl (Aa Lw rfl) (mev (md := [.box (el a0),.box Zba,.dead,.dead]) (Dm rfl ⟨rfl,⟨rfl,⟨trivial,⟨trivial,trivial⟩⟩⟩⟩ (Dm rfl ⟨rfl,⟨rfl,⟨trivial,⟨trivial,trivial⟩⟩⟩⟩ (Dm rfl ⟨rfl,⟨rfl,⟨trivial,⟨trivial,trivial⟩⟩⟩⟩ (Dm rfl ⟨rfl,⟨rfl,⟨trivial,⟨trivial,trivial⟩⟩⟩⟩ (Gv rfl (Gv rfl Kp)))))) rfl rfl (Ae Zp rfl (.lp _ _ _ rfl) rfl) (mev (md := [.box (el a0),.box Zba,.dead,.dead]) (Dm rfl ⟨rfl,⟨rfl,⟨trivial,⟨trivial,trivial⟩⟩⟩⟩ (Dm rfl ⟨rfl,⟨rfl,⟨trivial,⟨trivial,trivial⟩⟩⟩⟩ (Dm rfl ⟨rfl,⟨rfl,⟨trivial,⟨trivial,trivial⟩⟩⟩⟩ (Dm rfl ⟨rfl,⟨rfl,⟨trivial,⟨trivial,trivial⟩⟩⟩⟩ (Gv rfl (Gv rfl Kp)))))) rfl rfl (Db (f := Ap) Vl (fun _ => rfl) rfl rfl rfl rfl hu1) ?_))
 refine mev (md := [.box (el a0),.box Zba,.dead,.dead]) (Dm rfl ⟨rfl,⟨rfl,⟨trivial,⟨trivial,trivial⟩⟩⟩⟩ (Dm rfl ⟨rfl,⟨rfl,⟨trivial,⟨trivial,trivial⟩⟩⟩⟩ (Dm rfl ⟨rfl,⟨rfl,⟨trivial,⟨trivial,trivial⟩⟩⟩⟩ (Dm rfl ⟨rfl,⟨rfl,⟨trivial,⟨trivial,trivial⟩⟩⟩⟩ (Gv rfl (Gv rfl Kp)))))) rfl rfl (Bj Y0 rfl) (mev (md := [.box (el a0),.box Zba,.dead,.dead]) (Dm rfl ⟨rfl,⟨rfl,⟨trivial,⟨trivial,trivial⟩⟩⟩⟩ (Dm rfl ⟨rfl,⟨rfl,⟨trivial,⟨trivial,trivial⟩⟩⟩⟩ (Dm rfl ⟨rfl,⟨rfl,⟨trivial,⟨trivial,trivial⟩⟩⟩⟩ (Dm rfl ⟨rfl,⟨rfl,⟨trivial,⟨trivial,trivial⟩⟩⟩⟩ (Gv rfl (Gv rfl Kp)))))) rfl rfl (Cb (ys := [.b u1.Prog.RO,.sl u1.Prog.Ops.length (u1.Prog.Ops.flatMap Ce)]) Ara rfl (.cp _) rfl rfl) (mev (md := [.box (el a0),.box Zba,.dead,.dead]) (Dm rfl ⟨rfl,⟨rfl,⟨trivial,⟨trivial,trivial⟩⟩⟩⟩ (Dm rfl ⟨rfl,⟨rfl,⟨trivial,⟨trivial,trivial⟩⟩⟩⟩ (Dm rfl ⟨rfl,⟨rfl,⟨trivial,⟨trivial,trivial⟩⟩⟩⟩ (Dm rfl ⟨rfl,⟨rfl,⟨trivial,⟨trivial,trivial⟩⟩⟩⟩ (Gv rfl (Gv rfl Kp)))))) rfl rfl (Aa Qs rfl) (mev (md := [.box (el a0),.box Zba,.dead,.dead]) (Dm rfl ⟨rfl,⟨rfl,⟨trivial,⟨trivial,trivial⟩⟩⟩⟩ (Dm rfl ⟨rfl,⟨rfl,⟨trivial,⟨trivial,trivial⟩⟩⟩⟩ (Dm rfl ⟨rfl,⟨rfl,⟨trivial,⟨trivial,trivial⟩⟩⟩⟩ (Dm rfl ⟨rfl,⟨rfl,⟨trivial,⟨trivial,trivial⟩⟩⟩⟩ (Gv rfl (Gv rfl Kp)))))) rfl rfl (Ai Uf rfl (.lp _ _ _ rfl) (Nbl rfl)) (med (md := [.box (el a0),.box Zba,.dead,.dead]) (Dm rfl ⟨rfl,⟨rfl,⟨trivial,⟨trivial,trivial⟩⟩⟩⟩ (Dm rfl ⟨rfl,⟨rfl,⟨trivial,⟨trivial,trivial⟩⟩⟩⟩ (Dm rfl ⟨rfl,⟨rfl,⟨trivial,⟨trivial,trivial⟩⟩⟩⟩ (Dm rfl ⟨rfl,⟨rfl,⟨trivial,⟨trivial,trivial⟩⟩⟩⟩ (Gv rfl (Gv rfl Kp)))))) rfl rfl (Cm Awo (Ab rfl (Ab rfl Af)) rfl (Xr hv2)) (Aym rfl rfl (fun _ => Gc rfl) ?_)))))
 refine mev (md := [.box (el a0),.box Zba,.dead,.dead]) (Dm rfl ⟨rfl,⟨rfl,⟨trivial,⟨trivial,trivial⟩⟩⟩⟩ (Dm rfl ⟨rfl,⟨rfl,⟨trivial,⟨trivial,trivial⟩⟩⟩⟩ (Dm rfl ⟨rfl,⟨rfl,⟨trivial,⟨trivial,trivial⟩⟩⟩⟩ (Dm rfl ⟨rfl,⟨rfl,⟨trivial,⟨trivial,trivial⟩⟩⟩⟩ (Gv rfl (Gv rfl Kp)))))) rfl rfl (A4 rfl rfl) (mev (md := [.box (el a0),.box Zba,.dead,.dead]) (Dm rfl ⟨rfl,⟨rfl,⟨trivial,⟨trivial,trivial⟩⟩⟩⟩ (Dm rfl ⟨rfl,⟨rfl,⟨trivial,⟨trivial,trivial⟩⟩⟩⟩ (Dm rfl ⟨rfl,⟨rfl,⟨trivial,⟨trivial,trivial⟩⟩⟩⟩ (Dm rfl ⟨rfl,⟨rfl,⟨trivial,⟨trivial,trivial⟩⟩⟩⟩ (Dm rfl ⟨rfl,⟨rfl,⟨trivial,⟨trivial,trivial⟩⟩⟩⟩ (Gv rfl Kp)))))) rfl rfl (A4 rfl rfl) (mev (md := [.box (el a0),.box Zba,.dead,.dead]) (Dm rfl ⟨rfl,⟨rfl,⟨trivial,⟨trivial,trivial⟩⟩⟩⟩ (Dm rfl ⟨rfl,⟨rfl,⟨trivial,⟨trivial,trivial⟩⟩⟩⟩ (Dm rfl ⟨rfl,⟨rfl,⟨trivial,⟨trivial,trivial⟩⟩⟩⟩ (Dm rfl ⟨rfl,⟨rfl,⟨trivial,⟨trivial,trivial⟩⟩⟩⟩ (Dm rfl ⟨rfl,⟨rfl,⟨trivial,⟨trivial,trivial⟩⟩⟩⟩ (Dm rfl ⟨rfl,⟨rfl,⟨trivial,⟨trivial,trivial⟩⟩⟩⟩ Kp)))))) rfl rfl (A4 rfl rfl) (mee (x := .s (.one (.lp 2 0))) 0 rfl rfl ?_ ?_)))
 ·refine Dm rfl ⟨_,rfl,fun ζ => ?_⟩ ?_
  ·refine Nq 2 rfl Adp rfl ?_
   exact Sv
  refine Dm rfl ⟨_,rfl,fun ζ => ?_⟩ ?_
  ·refine Nq 2 rfl Adp rfl ?_
   exact Sv
  refine Gv rfl (Gv rfl (Gv rfl (Gv rfl ?_)))
  exact Kp
 refine mee (x := .s (.one (.lp 3 0))) 1 rfl rfl ?_ ?_
 ·refine Dm rfl ⟨_,rfl,fun ζ => ?_⟩ ?_
  ·refine Nq 3 rfl Alm rfl ?_
   exact Sv
  refine Gv rfl (Dm rfl ⟨_,rfl,fun ζ => ?_⟩ ?_)
  ·refine Nq 3 rfl Alm rfl ?_
   exact Sv
  refine Gv rfl (Gv rfl (Gv rfl ?_))
  exact Kp
 refine Ayj 2 rfl ?_ ?_
 ·refine Gv rfl (Gv rfl (Gv rfl (Dm rfl ⟨_,rfl,fun ζ => ?_⟩ ?_)))
  ·refine An Alq rfl rfl rfl rfl (Nbl rfl) (Bs [.box (el a0),.box Zba,.box (el v2.1),.box Zbb] rfl ?_)
   exact Sv
  refine Gv rfl (Gv rfl ?_)
  exact Kp
 refine Ayj 3 rfl ?_ ?_
 ·refine Gv rfl (Gv rfl (Gv rfl (Gv rfl (Dm rfl ⟨_,rfl,fun ζ => ?_⟩ ?_))))
  ·refine An Zq rfl rfl rfl rfl (Nbl rfl) (Bs [.box (el a0),.box Zba,.box (el v2.1),.box (el v2.2.1)] rfl ?_)
   exact Sv
  refine Gv rfl ?_
  exact Kp
 refine Aym rfl rfl (fun _ => K5 rfl) ?_
 refine Av3 (Ac (csr (sv rfl (Ai Uf rfl (.lp _ _ _ rfl) (Nbl rfl)) (sv rfl (Aa Qs rfl) (An Zq rfl rfl rfl rfl (Nbl rfl) (Bs [.box (el {a0 with St := v2.2.1}),.box Zba,.box (el v2.1),.box (el v2.2.1)] rfl (Al (Bp (B3 (csr (rm 2 rfl (Al (ccI h rfl (fun h => ?_) (fun h => ?_))))))))))))))
 ·refine csr (sv rfl (Aa G8 rfl) (An sz3 rfl rfl rfl rfl (Nbl rfl) (Bs [.box (el {a0 with Phase := 4,St := v2.2.1}),.box Zba,.box (el v2.1),.box (el v2.2.1)] rfl (Al (csr (sv rfl (Ai B6 rfl (.lp _ _ _ rfl) (Nbl rfl)) (sv rfl (Ai Agc rfl (.lp _ _ _ rfl) (Nbl rfl)) ?_)))))))
  obtain ⟨v3,hv3,h⟩ := Ag h
  refine Av rfl Aq7 (Ab rfl (Ab rfl Af)) (Ao rfl) (Dd hv3) (An E2 rfl rfl rfl rfl (Nbl rfl) (Bs [.box (el {a0 with Phase := 4,St := v2.2.1}),.box (el v3),.box (el v2.1),.box (el v2.2.1)] rfl (Al (Bg (A2 (Ak ?_))))))
  cases SJ h
  exact dnA rfl B6 rfl (.lp _ _ _ rfl) (Nbl rfl) rfl rfl
 ·refine csr (fl W6 ti4 rfl rfl rfl rfl rfl rfl (rm 1 rfl (Al (ccI h rfl (fun h => ?_) (fun h => ?_)))))
  ·refine csr (sv rfl (Aa G8 rfl) (An sz3 rfl rfl rfl rfl (Nbl rfl) (Bs [.box (el {a0 with Phase := 6,St := v2.2.1}),.box Zba,.box (el v2.1),.box (el v2.2.1)] rfl (Al (csr (sv rfl (Ai B6 rfl (.lp _ _ _ rfl) (Nbl rfl)) (sv rfl (Be Adp Ahn (Ah rfl Ay) (.cons _ _ _ _ _ _ _ rfl rfl (Nbl rfl) (.nil _))) ?_)))))))
   obtain ⟨v4,hv4,h⟩ := Ag h
   refine Av rfl Aq7 (Ab rfl (Ab rfl Af)) (O4 rfl) (Dd hv4) (An E2 rfl rfl rfl rfl (Nbl rfl) (Bs [.box (el {a0 with Phase := 6,St := v2.2.1}),.box (el v4),.box (el v2.1),.box (el v2.2.1)] rfl (Al (Bg (A2 (Ak ?_))))))
   cases SJ h
   exact dnA rfl B6 rfl (.lp _ _ _ rfl) (Nbl rfl) rfl rfl
  ·refine Bi (Aw (Ac (Bp (Aey ?_))))
   obtain ⟨u5,hu5,h⟩ := Ag h
   refine Jj [10,11] [0,1,3,7,15,0,32,0,128,511,0,2047] [[.box (el {a0 with St := v2.2.1}),.box Zba,.box (el v2.1),.box (el v2.2.1),.hole],[.box (el {a0 with St := v2.2.1}),.box Zba,.box (el v2.1),.box (el v2.2.1),.box Zbf],[.box (el {a0 with St := v2.2.1}),.box Zba,.box (el v2.1),.box (el v2.2.1),.box (el (Cw.mk u5.Token a0.Attempt v2.2.1.Regs))]] (by kernel_rfl) Kd (by kernel_rfl) (by decide) rfl rfl rfl rfl ?_
   refine evs (md := [.box (el {a0 with St := v2.2.1}),.box Zba,.box (el v2.1),.box (el v2.2.1),.dead]) (fun hS => ev (Bh hS) rfl rfl (Aa Lw rfl) (ev (Bh hS) rfl rfl (Ae Zp rfl (.lp _ _ _ rfl) rfl) (ev (Bh hS) rfl rfl (Db (f := Ap) Vl (fun _ => rfl) rfl rfl rfl rfl hu5) ?_))) ⟨⟨rfl,⟨rfl,⟨rfl,⟨rfl,⟨trivial,trivial⟩⟩⟩⟩⟩,⟨⟨rfl,⟨rfl,⟨rfl,⟨rfl,⟨trivial,trivial⟩⟩⟩⟩⟩,⟨⟨rfl,⟨rfl,⟨rfl,⟨rfl,⟨trivial,trivial⟩⟩⟩⟩⟩,trivial⟩⟩⟩
   refine evs (md := [.box (el {a0 with St := v2.2.1}),.box Zba,.box (el v2.1),.box (el v2.2.1),.dead]) (fun hS => ev (Bh hS) rfl rfl (Bj Sx rfl) (ev (Bh hS) rfl rfl (Ae ti3 rfl (.cp _) rfl) (ev (Bh hS) rfl rfl (Aa Pd rfl) (ev (Bh hS) rfl rfl (Ae ti3 rfl (.lp _ _ _ rfl) rfl) (ev (Bh hS) rfl rfl (Aa Ps rfl) (ev (Bh hS) rfl rfl (Ai Auk rfl (.lp _ _ _ rfl) (Nbl rfl)) (ev (Bh hS) rfl rfl (Be Awz Azs (Ah rfl (Ah rfl (Ah rfl Ay))) (.cons _ _ _ _ _ _ _ rfl rfl (Nbl rfl) (.cons _ _ _ _ _ _ _ rfl rfl (Nbl rfl) (.cons _ _ _ _ _ _ _ rfl rfl (Nbl rfl) (.nil _))))) (ee (x := .s (.one (.lp 4 0))) 0 rfl rfl rfl rfl rfl (fun ζ => ?_) ?_)))))))) ⟨⟨rfl,⟨rfl,⟨rfl,⟨rfl,⟨trivial,trivial⟩⟩⟩⟩⟩,⟨⟨rfl,⟨rfl,⟨rfl,⟨rfl,⟨trivial,trivial⟩⟩⟩⟩⟩,⟨⟨rfl,⟨rfl,⟨rfl,⟨rfl,⟨trivial,trivial⟩⟩⟩⟩⟩,trivial⟩⟩⟩
   ·refine Nq 4 rfl Awz rfl ?_
    exact Sv
   refine ee0 1 rfl rfl rfl rfl (fun ζ => ?_) ?_
   ·refine An Ayb rfl rfl rfl rfl (Nbl rfl) (Bs [.box (el {a0 with St := v2.2.1}),.box Zba,.box (el v2.1),.box (el v2.2.1),.box (el (Cw.mk u5.Token a0.Attempt v2.2.1.Regs))] rfl ?_)
    exact Sv
   refine Z1 (Ac (csr (sv rfl (Aa G8 rfl) (An sz3 rfl rfl rfl rfl (Nbl rfl) (Bs [.box (el {a0 with Phase := 5,St := v2.2.1}),.box Zba,.box (el v2.1),.box (el v2.2.1),.box (el (Cw.mk u5.Token a0.Attempt v2.2.1.Regs))] rfl (Al (csr (sv rfl (Ai B6 rfl (.lp _ _ _ rfl) (Nbl rfl)) (sv rfl (Be Adp Ahn (Ah rfl Ay) (.cons _ _ _ _ _ _ _ rfl rfl (Nbl rfl) (.nil _))) ?_)))))))))
   obtain ⟨v6,hv6,h⟩ := Ag h
   refine Av rfl Aq7 (Ab rfl (Ab rfl Af)) (O4 rfl) (Dd hv6) (An E2 rfl rfl rfl rfl (Nbl rfl) (Bs [.box (el v6),.box Zba,.box (el v2.1),.box (el v2.2.1),.box (el (Cw.mk u5.Token a0.Attempt v2.2.1.Regs))] rfl (Al (Bp (csr (fl G8 ti3 rfl rfl rfl rfl rfl rfl (sv rfl (Bn rfl rfl) (Al (ccI h rfl (fun h => ?_) (fun h => ?_))))))))))
   ·refine csr (sv rfl (Ai B6 rfl (.lp _ _ _ rfl) (Nbl rfl)) (An E2 rfl rfl rfl rfl (Nbl rfl) (Bs [.box (el v6),.box (el v6),.box (el v2.1),.box (el v2.2.1),.box (el (Cw.mk u5.Token a0.Attempt v2.2.1.Regs))] rfl (Al (Bg (Ak ?_))))))
    cases SJ h
    exact dnA rfl B6 rfl (.lp _ _ _ rfl) (Nbl rfl) rfl rfl
   ·refine Bi (Ac (csr (fl Yb Ar5 rfl rfl rfl rfl rfl rfl (sv rfl (Ai Azl rfl (.lp _ _ _ rfl) (Nbl rfl)) ?_))))
    refine O9 rfl Tryz.underlying42 Awc rfl rfl (List.all_eq_true.1 rfl) (by decide) ?_
    refine Bs [.box (el v6),.box Zba,.box (el v2.1),.box (el v2.2.1),.box (el (Cw.mk u5.Token a0.Attempt v2.2.1.Regs)),.arr 64 10 0 ([(A9.mk u5.Token a0.Attempt v2.2.1.Regs)].flatMap A5)] rfl ?_
    refine Ab7 55 rfl (by (repeat' first | exact Kf.nil _ | apply Kf.cons | apply Ke.one | apply Ke.agg | exact Em.nil | exact Em.ls _ _ _ _ _ _ rfl (A7 (f := A5) (fun _ => rfl) ([(A9.mk u5.Token a0.Attempt v2.2.1.Regs)] : List A9)).symm | exact Em.ls _ _ _ _ _ _ rfl (A7 (f := A5) (fun _ => rfl) _).symm | exact Em.id _ rfl | exact Dv.nil _ | apply Dv.cons)) ?_
    refine Vi (out := ([v6.Tried,[(A9.mk u5.Token a0.Attempt v2.2.1.Regs)]] : List (List A9)).flatMap (eL A5)) rfl Tryz.underlying216 Az2 (Ah rfl (Ah rfl Ay)) (.cons _ _ _ _ _ _ _ rfl rfl (Nbl rfl) (.cons _ _ _ _ _ _ _ rfl rfl (Nbl rfl) (.nil _))) rfl (by decide) ?_
    refine Ab7 56 rfl (by (repeat' first | exact Kf.nil _ | apply Kf.cons | apply Ke.one | apply Ke.agg | exact Em.nil | exact Em.ls _ _ _ _ _ _ rfl (A7 (f := (eL A5)) (fun _ => rfl) ([v6.Tried,[(A9.mk u5.Token a0.Attempt v2.2.1.Regs)]] : List (List A9))).symm | exact Em.ls _ _ _ _ _ _ rfl (A7 (f := (eL A5)) (fun _ => rfl) _).symm | exact Em.ls _ _ _ _ _ _ rfl (A7 (f := A5) (fun _ => rfl) _).symm | exact Em.id _ rfl | exact Dv.nil _ | apply Dv.cons)) ?_
    obtain ⟨v7,hv7,h⟩ := Ag h
    refine Da (x' := .s (.one (.ls 7 v7.length))) (M' := [.box (el v6),.box Zba,.box (el v2.1),.box (el v2.2.1),.box (el (Cw.mk u5.Token a0.Attempt v2.2.1.Regs)),.arr 64 10 ([(A9.mk u5.Token a0.Attempt v2.2.1.Regs)].flatMap A5).length ([(A9.mk u5.Token a0.Attempt v2.2.1.Regs)].flatMap A5),.arr 42 1 ([v6.Tried,[(A9.mk u5.Token a0.Attempt v2.2.1.Regs)]].flatMap (eL A5)).length ([v6.Tried,[(A9.mk u5.Token a0.Attempt v2.2.1.Regs)]].flatMap (eL A5)),.arr 64 10 0 (v7.flatMap A5)]) [] rfl Awf (.func _) (Ab rfl Af) (S9 hv7) rfl rfl (by decide) rfl rfl rfl ?_
    refine sv rfl (Aa Yb rfl) (An A0e rfl rfl rfl rfl (Nbl rfl) (Bs [.box ((el v6).set 39 (.ls 7 v7.length)),.box Zba,.box (el v2.1),.box (el v2.2.1),.box (el (Cw.mk u5.Token a0.Attempt v2.2.1.Regs)),.arr 64 10 ([(A9.mk u5.Token a0.Attempt v2.2.1.Regs)].flatMap A5).length ([(A9.mk u5.Token a0.Attempt v2.2.1.Regs)].flatMap A5),.arr 42 1 ([v6.Tried,[(A9.mk u5.Token a0.Attempt v2.2.1.Regs)]].flatMap (eL A5)).length ([v6.Tried,[(A9.mk u5.Token a0.Attempt v2.2.1.Regs)]].flatMap (eL A5)),.arr 64 10 0 (v7.flatMap A5)] rfl (Al (csr (sv rfl (Aa Yi rfl) (An sz4 rfl rfl rfl rfl (Nbl rfl) (Bs [.box ((el {v6 with Risk := true}).set 39 (.ls 7 v7.length)),.box Zba,.box (el v2.1),.box (el v2.2.1),.box (el (Cw.mk u5.Token a0.Attempt v2.2.1.Regs)),.arr 64 10 ([(A9.mk u5.Token a0.Attempt v2.2.1.Regs)].flatMap A5).length ([(A9.mk u5.Token a0.Attempt v2.2.1.Regs)].flatMap A5),.arr 42 1 ([v6.Tried,[(A9.mk u5.Token a0.Attempt v2.2.1.Regs)]].flatMap (eL A5)).length ([v6.Tried,[(A9.mk u5.Token a0.Attempt v2.2.1.Regs)]].flatMap (eL A5)),.arr 64 10 0 (v7.flatMap A5)] rfl (Al (csr (sv rfl (Ai B6 rfl (.lp _ _ _ rfl) (Nbl rfl)) (An E2 rfl rfl rfl rfl (Nbl rfl) (Bs [.box ((el {v6 with Risk := true}).set 39 (.ls 7 v7.length)),.box ((el {v6 with Risk := true}).set 39 (.ls 7 v7.length)),.box (el v2.1),.box (el v2.2.1),.box (el (Cw.mk u5.Token a0.Attempt v2.2.1.Regs)),.arr 64 10 ([(A9.mk u5.Token a0.Attempt v2.2.1.Regs)].flatMap A5).length ([(A9.mk u5.Token a0.Attempt v2.2.1.Regs)].flatMap A5),.arr 42 1 ([v6.Tried,[(A9.mk u5.Token a0.Attempt v2.2.1.Regs)]].flatMap (eL A5)).length ([v6.Tried,[(A9.mk u5.Token a0.Attempt v2.2.1.Regs)]].flatMap (eL A5)),.arr 64 10 0 (v7.flatMap A5)] rfl (Al (Bg ?_))))))))))))))
    cases SJ h
    refine ⟨Or.inr rfl,_,_,_,(Aj (Cu.agg _ _ _ _ _ B6 rfl (.lp _ _ _ rfl) (Nbl rfl)) As),(by (repeat' first | exact Kf.nil _ | apply Kf.cons | apply Ke.one | apply Ke.agg | exact Em.nil | exact Em.ls _ _ _ _ _ _ rfl (A7 (f := (eL A5)) (fun _ => rfl) _).symm | exact Em.ls _ _ _ _ _ _ rfl (A7 (f := A5) (fun _ => rfl) _).symm | exact Em.id _ rfl | exact Dv.nil _ | apply Dv.cons)),?_⟩
    rfl
def Ff (a0 : Ad) (a1 : Ba) : Option Ad :=
 if (!decide (a1.Code = 0)) then ((Dn a0 a1.Code).bind fun v1 => some v1) else ((Es a0).bind fun v2 => some v2)
theorem Pv {a0 : Ad} {a1 : Ba} {r : Ad} (h : Ff a0 a1 = some r) : Bl Tryz.prog 100 [.agg (el a0),.agg (el a1)] (· = .s (.agg (el r))) := by
 unfold Ff at h
 refine Au Tryz.func100 rfl (nt := 14) rfl (Nbl rfl) ?_
 intro w0 S0
 refine csr (Ih rfl rfl (Ih rfl rfl (Bw rfl O1 (Al (Bp (csr (fl S7 Aah rfl rfl rfl rfl rfl rfl (sv rfl (Bt rfl rfl) (Al (ccI h rfl (fun h => ?_) (fun h => ?_)))))))))))
 ·refine csr (sv rfl (Ai B6 rfl (.lp _ _ _ rfl) (Nbl rfl)) (sv rfl (Aa S7 rfl) (sv rfl (Ae Aah rfl (.lp _ _ _ rfl) rfl) ?_)))
  obtain ⟨v1,hv1,h⟩ := Ag h
  refine Av rfl Auo (Ab rfl (Ab rfl Af)) (Ao rfl) (Ln hv1) (An E2 rfl rfl rfl rfl (Nbl rfl) (Bs [.box (el a0),.box (el a1),.box (el v1)] rfl (Al (Bg (Ak ?_)))))
  cases SJ h
  exact dnA rfl B6 rfl (.lp _ _ _ rfl) (Nbl rfl) rfl rfl
 ·refine Bi (Ac (csr (sv rfl (Ai B6 rfl (.lp _ _ _ rfl) (Nbl rfl)) ?_)))
  obtain ⟨v2,hv2,h⟩ := Ag h
  refine Av rfl At5 (Ab rfl Af) (Ao rfl) (M2 hv2) (An E2 rfl rfl rfl rfl (Nbl rfl) (Bs [.box (el a0),.box (el a1),.box (el v2)] rfl (Al (Bg ?_))))
  cases SJ h
  exact dnA rfl B6 rfl (.lp _ _ _ rfl) (Nbl rfl) rfl rfl
def Mw  : Option Unit :=
 (Cs 4).bind fun v1 => if (!v1) then none else (some ())
theorem Sk  {r : Unit} (h : Mw = some r) : Hm Tryz.prog 79 [] [.one (Ii6 4)] (fun y m' => y = .s (.one (.raw (.func (.func 101) #[] #[]))) ∧ m' = []) := by
 unfold Mw at h
 refine C3 Tryz.func79 rfl (nt := 11) rfl (Nbl rfl) ?_
 intro w0 S0 X0 H0
 refine csr (rm 1 rfl (Al (csr (sv rfl (Hp Ua U8 (Ah rfl (Ah rfl (Ah rfl (Ah rfl (Ah rfl (Ah rfl (Ah rfl Ay))))))) (Cg [Nfu,Nfu,.raw (.func (.func 99) #[] #[]),Nfu,Nfu,Nfu,Nfu,Nfu,Nfu,Nfu] rfl rfl (Nbl rfl) rfl (Cg [Nfu,Nfu,.raw (.func (.func 99) #[] #[]),.raw (.func (.func 100) #[] #[]),Nfu,Nfu,Nfu,Nfu,Nfu,Nfu] rfl rfl (Nbl rfl) rfl (Cg [Nfu,Nfu,.raw (.func (.func 99) #[] #[]),.raw (.func (.func 100) #[] #[]),.raw (.func (.func 101) #[] #[]),Nfu,Nfu,Nfu,Nfu,Nfu] rfl rfl (Nbl rfl) rfl (Cg [Nfu,Nfu,.raw (.func (.func 99) #[] #[]),.raw (.func (.func 100) #[] #[]),.raw (.func (.func 101) #[] #[]),.raw (.func (.func 102) #[] #[]),Nfu,Nfu,Nfu,Nfu] rfl rfl (Nbl rfl) rfl (Cg [Nfu,Nfu,.raw (.func (.func 99) #[] #[]),.raw (.func (.func 100) #[] #[]),.raw (.func (.func 101) #[] #[]),.raw (.func (.func 102) #[] #[]),.raw (.func (.func 103) #[] #[]),Nfu,Nfu,Nfu] rfl rfl (Nbl rfl) rfl (Cg [Nfu,Nfu,.raw (.func (.func 99) #[] #[]),.raw (.func (.func 100) #[] #[]),.raw (.func (.func 101) #[] #[]),.raw (.func (.func 102) #[] #[]),.raw (.func (.func 103) #[] #[]),.raw (.func (.func 104) #[] #[]),Nfu,Nfu] rfl rfl (Nbl rfl) rfl (Cg [Nfu,Nfu,.raw (.func (.func 99) #[] #[]),.raw (.func (.func 100) #[] #[]),.raw (.func (.func 101) #[] #[]),.raw (.func (.func 102) #[] #[]),.raw (.func (.func 103) #[] #[]),.raw (.func (.func 104) #[] #[]),Nfu,.raw (.func (.func 105) #[] #[])] rfl rfl (Nbl rfl) rfl (.nil _))))))))) (Bw rfl Ua (An Ac8 rfl rfl rfl rfl (Nbl rfl) (Bs [.box [Nfu,Nfu,.raw (.func (.func 99) #[] #[]),.raw (.func (.func 100) #[] #[]),.raw (.func (.func 101) #[] #[]),.raw (.func (.func 102) #[] #[]),.raw (.func (.func 103) #[] #[]),.raw (.func (.func 104) #[] #[]),Nfu,.raw (.func (.func 105) #[] #[])]] rfl (Al (Bp (csr (sv rfl (Bc rfl) ?_)))))))))))
 obtain ⟨v1,hv1,h⟩ := Ag h
 refine Av rfl Anv (Ab rfl Af) (Ao rfl) (Eb hv1) (sv rfl (B5 rfl) (Al (ccI h rfl (fun h => ?_) (fun h => ?_))))
 ·refine Bp (Az ?_)
  cases h
 ·refine Bi (Ac (csr (sv rfl (Bc rfl) ?_)))
  refine sv rfl (Qr (o := 4) U8 rfl rfl (by decide)) ?_
  refine sv rfl (Ae Aeo rfl (.lp _ _ _ rfl) rfl) (rm 1 rfl (Al (Bg ?_)))
  cases SJ h
  exact ⟨Or.inr rfl,_,[],[.one (.raw (.func (.func 101) #[] #[]))],[],(Aj (Cu.tmp _ _ rfl) As),rfl,rfl,⟨by decide,rfl⟩,rfl,rfl,⟨rfl,rfl⟩⟩
def Ml (a0 : List UInt8) : Option Int :=
 (cut a0 0 (if 4 < (a0.length : Int) then 4 else (a0.length : Int))).bind fun c1 => (Ki c1).bind fun v2 => (Ax (c1.length : Int) v2.1 v2.2.1 v2.2.2).bind fun v3 => some (wI (v3.1.toNat : Int))
theorem Tj {a0 : List UInt8} {r : Int} (h : Ml a0 = some r) : Bl Tryz.prog 131 [.one (.sl a0.length (a0.flatMap eU8))] (· = .s (.one (Ii6 r))) := by
 unfold Ml at h
 refine Au Tryz.func131 rfl (nt := 14) rfl (Nbl rfl) ?_
 intro w0 S0
 refine csr (rm 1 rfl (Al (csr (rm 2 rfl (sv rfl (Aq Mi rfl) (sv rfl (Vf rfl rfl) ?_))))))
 obtain ⟨c1,hc1,h⟩ := Ag h
 refine sv rfl (Ut (f := eU8) (lo := 0) (hi := (if 4 < (a0.length : Int) then 4 else (a0.length : Int))) Mi (fun _ => rfl) rfl rfl rfl T1 (H8 rfl (Int.le_trans (L9 hc1).1.1 (L9 hc1).1.2.1)) hc1) ?_
 refine rm 1 rfl (Al (csr (sv rfl (Bc rfl) ?_)))
 obtain ⟨v2,hv2,h⟩ := Ag h
 refine Da (x' := .s (.one (.lp 0 0))) (M' := [.box [.fn 112 [] [.lp 1 0,.lp 2 0],Ii6 v2.1],.box [Ii6 v2.2.1],.box [.sl v2.2.2.length (v2.2.2.flatMap eU8)]]) [] rfl Axz (.func _) (Ab rfl Af) (Qw hv2) rfl rfl (by decide) rfl rfl rfl ?_
 refine rm 1 rfl (sv rfl (Aq Mi rfl) ?_)
 obtain ⟨v3,hv3,h⟩ := Ag h
 refine Da (x' := .s (.one (.i .u64 (v3.1.toNat : Int)))) (M' := [.box [.fn 112 [] [.lp 1 0,.lp 2 0],Ii6 v3.2.1],.box [Ii6 v3.2.2],.box [.sl v2.2.2.length (v2.2.2.flatMap eU8)]]) [0,1,2] rfl Alu (.func _) (Ab rfl (Ab rfl Af)) (C5 hv3) rfl rfl (by decide) rfl rfl rfl ?_
 refine sv rfl (Gj Tryz.underlying112 Tryz.underlying3 rfl) (rm 1 rfl (Al (Bg ?_)))
 cases SJ h
 exact dnT rfl rfl rfl rfl
def O5 (b1 : Int) : Option Int :=
 some b1
def Kw (a0 : List Dk) (s2 : Int × Int) : Option (LB (Int × Int) (Int)) :=
 if (decide (s2.2 < (a0.length : Int))) then ((idx a0 s2.2).bind fun u3 => (Ml u3.Val).bind fun v4 => (I0 (wI (s2.1 + v4))).bind fun v5 => some (.cont (v5,(wI (s2.2 + 1))))) else (some (.brk s2.1))
def N1 (a0 : List Dk) : Option Int :=
 (Ec (Kw a0) fuel (0,0)).bind fun e6 => O5 e6
theorem Yc {a0 : List Dk} {r : Int} (h : N1 a0 = some r) : Bl Tryz.prog 132 [.one (.sl a0.length (a0.flatMap Dw))] (· = .s (.one (Ii6 r))) := by
 unfold N1 at h
 refine Au Tryz.func132 rfl (nt := 20) rfl (Nbl rfl) ?_
 intro w0 S0
 refine csr (rm 1 rfl (Al (csr (rm 1 rfl (Al (Bp (csr (rm 1 rfl (sv rfl (Aq Afv rfl) (rm 1 rfl (Al (Gg (Int) (fun b1 => [(3,.s (.one (Ii6 b1)))]) (fun b1 => []) (fun b1 => O5 b1 = some r) (fun _ _ => A6 rfl) (fun _ _ => Ar rfl) (fun _ _ => Nbl rfl) (fun b1 h => ?_) ?_))))))))))))
 ·unfold O5 at h
  refine csr (rm 2 rfl (Al (Bg ?_)))
  cases SJ h
  exact dnT rfl rfl rfl rfl
 ·skip
  refine B3 ?_
  obtain ⟨x2,hx2,ho2⟩ := Ag h
  refine Ct (G := Nat × (Int × Int)) (fun g => [(3,.s (.one (Ii6 g.2.1))),(6,.s (.one (.sl a0.length (a0.flatMap Dw)))),(7,.s (.one (Ii6 (a0.length : Int)))),(8,.s (.one (Ii6 g.2.2)))]) (fun g => []) (fun g => Ec (Kw a0) g.1 g.2 = some x2) (fun g => g.1) (fuel,(0,0)) hx2 ⟨rfl,rfl,rfl,rfl,trivial⟩ [] rfl (fun _ _ => A6 rfl) (fun _ _ => Ar rfl) (fun _ _ => Nbl rfl) ?_
  clear hx2 h
  rintro ⟨n2,s2⟩ h
  obtain ⟨n2,y2,rfl,h,hk2⟩ := Fj h
  unfold Kw at h
  refine csr (sv rfl (Ci rfl rfl) (Al (Bp (ccI h rfl (fun h => ?_) (fun h => ?_)))))
  ·refine Bi (Ac (Bp (B3 (Bp (Az ?_)))))
   obtain ⟨u3,hu3,h⟩ := Ag h
   refine sv rfl (Db (f := Dw) Afv (fun _ => rfl) rfl rfl rfl rfl hu3) ?_
   refine sv rfl (Cb (ys := [.sl u3.Key.length (u3.Key.flatMap eU8),.sl u3.Val.length (u3.Val.flatMap eU8)]) Ap2 rfl (.cp _) rfl rfl) (Bw rfl Ann (An Aqw rfl rfl rfl rfl (Nbl rfl) (Bs [.box (el u3)] rfl (Al (Az (rm 1 rfl (sv rfl (Aa Abl rfl) (sv rfl (Ae I9 rfl (.lp _ _ _ rfl) rfl) ?_))))))))
   obtain ⟨v4,hv4,h⟩ := Ag h
   refine Av rfl Asz (Ab rfl Af) (Ao rfl) (Tj hv4) (sv rfl (B4 rfl rfl) ?_)
   obtain ⟨v5,hv5,h⟩ := Ag h
   refine Av rfl Aso (Ab rfl Af) (Ao rfl) (Qi hv5) (rm 1 rfl (Mp (Aw (Ac (Az (sv rfl (B4 rfl rfl) (rm 1 rfl (Al ?_))))))))
   cases SJ h
   exact ⟨(n2,(v5,(wI (s2.2 + 1)))),_,hk2,⟨rfl,rfl,rfl,rfl,trivial⟩,rfl,Nat.lt_succ_self _⟩
  ·refine Kk (Bd (Bd (B8 (Ac ?_))))
   cases SJ h
   obtain rfl : _ = x2 := hk2
   exact ⟨s2.1,_,ho2,⟨rfl,trivial⟩,rfl⟩
def G1 (b4 : A1) : Option (A1 × Int) :=
 some (b4,0)
def Mn (a0 : Cv) (a1 : A1) (a2 : Ba) (b2 : Unit) : Option (A1 × Int) :=
 (idx a0.Ops a1.PC).bind fun u3 => if (decide (u3.What = 1)) then (if 0 ≤ u3.B ∧ u3.B < ((8 : Nat) : Int) then ((I1 (Ee.mk a1.Regs.R0 a1.Regs.R1 a1.Regs.R2 a1.Regs.R3 a1.Regs.R4 a1.Regs.R5 a1.Regs.R6 a1.Regs.R7) u3.B 0).bind fun q6 => if 0 ≤ u3.A ∧ u3.A < ((8 : Nat) : Int) then ((I1 (Ee.mk q6.R0 q6.R1 q6.R2 q6.R3 q6.R4 q6.R5 q6.R6 q6.R7) u3.A 0).bind fun q8 => if a2.Found then (if 0 ≤ u3.B ∧ u3.B < ((8 : Nat) : Int) then ((I1 (Ee.mk q8.R0 q8.R1 q8.R2 q8.R3 q8.R4 q8.R5 q8.R6 q8.R7) u3.B 1).bind fun q10 => (Ml a2.Val).bind fun v11 => if 0 ≤ u3.A ∧ u3.A < ((8 : Nat) : Int) then ((I1 (Ee.mk q10.R0 q10.R1 q10.R2 q10.R3 q10.R4 q10.R5 q10.R6 q10.R7) u3.A v11).bind fun q13 => G1 (A1.mk (wI (a1.PC + 1)) q13 a1.Stopped)) else none) else none) else (G1 (A1.mk (wI (a1.PC + 1)) q8 a1.Stopped))) else none) else none) else (if (decide (u3.What = 4)) then ((N1 a2.List).bind fun v14 => if 0 ≤ u3.B ∧ u3.B < ((8 : Nat) : Int) then ((I1 (Ee.mk a1.Regs.R0 a1.Regs.R1 a1.Regs.R2 a1.Regs.R3 a1.Regs.R4 a1.Regs.R5 a1.Regs.R6 a1.Regs.R7) u3.B v14).bind fun q16 => if 0 ≤ u3.A ∧ u3.A < ((8 : Nat) : Int) then ((I1 (Ee.mk q16.R0 q16.R1 q16.R2 q16.R3 q16.R4 q16.R5 q16.R6 q16.R7) u3.A (a2.List.length : Int)).bind fun q18 => G1 (A1.mk (wI (a1.PC + 1)) q18 a1.Stopped)) else none) else none) else (G1 (A1.mk (wI (a1.PC + 1)) a1.Regs a1.Stopped)))
def D2 (a0 : Cv) (a1 : A1) (a2 : Ba) : Option (A1 × Int) :=
 (D9 a0).bind fun v1 => if (!v1) then (some (G4,1)) else ((Fh a1.PC (wI ((a0.Ops.length : Int) - 1))).bind fun v19 => if (!v19) then (some (G4,7)) else (if a1.Stopped then (some (G4,7)) else ((idx a0.Ops a1.PC).bind fun u20 => (K7 u20).bind fun v21 => if (!v21) then (some (G4,7)) else (Mn a0 a1 a2 ()))))
theorem Xt {a0 : Cv} {a1 : A1} {a2 : Ba} {r : A1 × Int} (h : D2 a0 a1 a2 = some r) : Bl Tryz.prog 118 [.agg (el a0),.agg (el a1),.agg (el a2)] (· = .tup [.agg (el r.1),.one (Ii6 r.2)]) := by
 unfold D2 at h
 refine Au Tryz.func118 rfl (nt := 88) rfl (Nbl rfl) ?_
 intro w0 S0
 refine csr (Ih rfl rfl (Ih rfl rfl (Ih rfl rfl (Bw rfl Alm (rm 1 rfl (Al (Bp (csr (sv rfl (Ai Ara rfl (.lp _ _ _ rfl) (Nbl rfl)) ?_)))))))))
 obtain ⟨v1,hv1,h⟩ := Ag h
 refine Av rfl Avy (Ab rfl Af) (Ao rfl) (Po hv1) (sv rfl (B5 rfl) (Al (ccI h rfl (fun h => ?_) (fun h => ?_))))
 ·refine csr (sv rfl (Be Alm Auh Ay (.nil _)) (An Zq rfl rfl rfl rfl (Nbl rfl) (Bs [.box (el a0),.box (el a1),.box (el a2),.box Zbb] rfl (rm 1 rfl (Al (Bg (Ak ?_)))))))
  cases SJ h
  refine ⟨Or.inr rfl,_,_,_,(Aj (Cu.agg _ _ _ _ _ Uf rfl (.lp _ _ _ rfl) (Nbl rfl)) (Aj (Cu.tmp _ _ rfl) As)),(Ao rfl),?_⟩
  rfl
 ·refine Bi (Ac (Bp (Bp (Jk (Unit) (fun b2 => [(3,.s (.one (.lp 0 0))),(4,.s (.one (.lp 1 0))),(5,.s (.one (.lp 2 0))),(6,.s (.one (.lp 3 0)))]) (fun b2 => [.box (el a0),.box (el a1),.box (el a2),.box Zbb]) (fun b2 => Mn a0 a1 a2 b2 = some r) (fun _ _ => A6 rfl) (fun _ _ => Ar rfl) (fun _ _ => Nbl rfl) (fun b2 h => ?_) ?_))))
  ·unfold Mn at h
   refine csr (fl Si Ald rfl rfl rfl rfl rfl rfl (sv rfl (Aa Pq rfl) (sv rfl (Ae ti3 rfl (.lp _ _ _ rfl) rfl) ?_)))
   obtain ⟨u3,hu3,h⟩ := Ag h
   refine sv rfl (Db (f := Ce) Aki (fun _ => rfl) rfl rfl rfl rfl hu3) ?_
   refine sv rfl (Cb (ys := [Ii6 u3.What,Ii6 u3.A,Ii6 u3.B,Ii6 u3.N,.sl u3.Key.length (u3.Key.flatMap eU8),.sl u3.Rng.Lo.length (u3.Rng.Lo.flatMap eU8),.sl u3.Rng.Hi.length (u3.Rng.Hi.flatMap eU8),.b u3.Rng.Open]) Ame rfl (.cp _) rfl rfl) (Bw rfl Ar0 (An Au1 rfl rfl rfl rfl (Nbl rfl) (Bs [.box (el a0),.box (el a1),.box (el a2),.box Zbb,.box (el u3)] rfl (Al (csr (fl Pq ti3 rfl rfl rfl rfl rfl rfl (sv rfl (B4 rfl rfl) (sv rfl (Aa Pq rfl) (An sz3 rfl rfl rfl rfl (Nbl rfl) (Bs [.box (el a0),.box (el {a1 with PC := wI (a1.PC + 1)}),.box (el a2),.box Zbb,.box (el u3)] rfl (Al (Bp (csr (fl Xg ti3 rfl rfl rfl rfl rfl rfl (Al (Gg (A1) (fun b4 => [(4,.s (.one (.lp 1 0))),(6,.s (.one (.lp 3 0)))]) (fun b4 => [.box (el a0),.box (el b4),.box (el a2),.box Zbb,.box (el u3)]) (fun b4 => G1 b4 = some r) (fun _ _ => A6 rfl) (fun _ _ => Ar rfl) (fun _ _ => Nbl rfl) (fun b4 h => ?_) ?_))))))))))))))))
   ·unfold G1 at h
    refine csr (sv rfl (Ai Uf rfl (.lp _ _ _ rfl) (Nbl rfl)) (An Zq rfl rfl rfl rfl (Nbl rfl) (Bs [.box (el a0),.box (el b4),.box (el a2),.box (el b4),.box (el u3)] rfl (rm 1 rfl (Al (Bg ?_))))))
    cases SJ h
    refine ⟨Or.inr rfl,_,_,_,(Aj (Cu.agg _ _ _ _ _ Uf rfl (.lp _ _ _ rfl) (Nbl rfl)) (Aj (Cu.tmp _ _ rfl) As)),(Ao rfl),?_⟩
    rfl
   ·skip
    refine B3 (csr (sv rfl (Bn rfl rfl) (rm 1 rfl (Al (ccI h rfl (fun h => ?_) (fun h => ?_))))))
    ·refine Bp ?_
     obtain ⟨hj5,h⟩ := Dx h
     obtain ⟨q6,hq6,h⟩ := Ag h
     obtain ⟨hj7,h⟩ := Dx h
     obtain ⟨q8,hq8,h⟩ := Ag h
     refine Jj [6,9] [0,1,0,4,0,19,51,0,255,511] [[.box (el a0),.box (el {a1 with PC := wI (a1.PC + 1)}),.box (el a2),.box Zbb,.box (el u3)],[.box (el a0),.box [Ii6 (wI (a1.PC + 1)),Ii6 q6.R0,Ii6 q6.R1,Ii6 q6.R2,Ii6 q6.R3,Ii6 q6.R4,Ii6 q6.R5,Ii6 q6.R6,Ii6 q6.R7,.b a1.Stopped],.box (el a2),.box Zbb,.box (el u3)],[.box (el a0),.box [Ii6 (wI (a1.PC + 1)),Ii6 q8.R0,Ii6 q8.R1,Ii6 q8.R2,Ii6 q8.R3,Ii6 q8.R4,Ii6 q8.R5,Ii6 q8.R6,Ii6 q8.R7,.b a1.Stopped],.box (el a2),.box Zbb,.box (el u3)]] (by kernel_rfl) Kd (by kernel_rfl) (by decide) rfl rfl rfl rfl ?_
     refine evs (md := [.box (el a0),.dead,.box (el a2),.box Zbb,.box (el u3)]) (fun hS => ev (Bb 0 rfl rfl) rfl rfl (Aa Zh rfl) (ev (Bb 0 rfl rfl) rfl rfl (Ae ti3 rfl (.lp _ _ _ rfl) rfl) (ev (Bh hS) rfl rfl (Aa Vz rfl) (ev (Bh hS) rfl rfl (Ae ti3 rfl (.lp _ _ _ rfl) rfl) (ev (Bb 0 rfl rfl) rfl rfl (Aa Ps rfl) (ev (Bb 0 rfl rfl) rfl rfl (M5 Ah5 rfl rfl hj5) (ee0 0 rfl rfl rfl rfl (fun ζ => ?_) ?_))))))) ⟨⟨rfl,⟨trivial,⟨rfl,⟨rfl,⟨rfl,trivial⟩⟩⟩⟩⟩,⟨⟨rfl,⟨trivial,⟨rfl,⟨rfl,⟨rfl,trivial⟩⟩⟩⟩⟩,⟨⟨rfl,⟨trivial,⟨rfl,⟨rfl,⟨rfl,trivial⟩⟩⟩⟩⟩,trivial⟩⟩⟩
     ·refine An sz3 rfl rfl rfl rfl (Ac3 hj5 (Nbl rfl)) (Bs [.box (el a0),.box [Ii6 (wI (a1.PC + 1)),Ii6 q6.R0,Ii6 q6.R1,Ii6 q6.R2,Ii6 q6.R3,Ii6 q6.R4,Ii6 q6.R5,Ii6 q6.R6,Ii6 q6.R7,.b a1.Stopped],.box (el a2),.box Zbb,.box (el u3)] (Tc (Ao5 hq6 [Ii6 (wI (a1.PC + 1))] [.b a1.Stopped])) ?_)
      exact Sv
     refine ev (Bh (md := [.box (el a0),.dead,.box (el a2),.box Zbb,.box (el u3)]) ⟨⟨rfl,⟨trivial,⟨rfl,⟨rfl,⟨rfl,trivial⟩⟩⟩⟩⟩,⟨⟨rfl,⟨trivial,⟨rfl,⟨rfl,⟨rfl,trivial⟩⟩⟩⟩⟩,⟨⟨rfl,⟨trivial,⟨rfl,⟨rfl,⟨rfl,trivial⟩⟩⟩⟩⟩,trivial⟩⟩⟩) rfl rfl (Aa Ps rfl) (ev (Bb 1 rfl rfl) rfl rfl (M5 Ah5 rfl rfl hj7) (ee0 1 rfl rfl rfl rfl (fun ζ => ?_) ?_))
     ·refine An sz3 rfl rfl rfl rfl (Ac3 hj7 (Nbl rfl)) (Bs [.box (el a0),.box [Ii6 (wI (a1.PC + 1)),Ii6 q8.R0,Ii6 q8.R1,Ii6 q8.R2,Ii6 q8.R3,Ii6 q8.R4,Ii6 q8.R5,Ii6 q8.R6,Ii6 q8.R7,.b a1.Stopped],.box (el a2),.box Zbb,.box (el u3)] (Tc (Ao5 hq8 [Ii6 (wI (a1.PC + 1))] [.b a1.Stopped])) ?_)
      exact Sv
     refine Z1 (Ac (csr (fl Acw ti4 rfl rfl rfl rfl rfl rfl (Al (ccI h rfl (fun h => ?_) (fun h => ?_))))))
     ·refine csr (fl Zh ti3 rfl rfl rfl rfl rfl rfl (sv rfl (Aa Ps rfl) ?_))
      obtain ⟨hj9,h⟩ := Dx h
      refine sv rfl (M5 Ah5 rfl rfl hj9) ?_
      obtain ⟨q10,hq10,h⟩ := Ag h
      refine An sz3 rfl rfl rfl rfl (Ac3 hj9 (Nbl rfl)) (Bs [.box (el a0),.box [Ii6 (wI (a1.PC + 1)),Ii6 q10.R0,Ii6 q10.R1,Ii6 q10.R2,Ii6 q10.R3,Ii6 q10.R4,Ii6 q10.R5,Ii6 q10.R6,Ii6 q10.R7,.b a1.Stopped],.box (el a2),.box Zbb,.box (el u3)] (Tc (Ao5 hq10 [Ii6 (wI (a1.PC + 1))] [.b a1.Stopped])) (Al ?_))
      obtain ⟨v11,hv11,h⟩ := Ag h
      obtain ⟨hj12,h⟩ := Dx h
      obtain ⟨q13,hq13,h⟩ := Ag h
      refine Jj [7] [0,1,0,4,12,0,63,127] [[.box (el a0),.box [Ii6 (wI (a1.PC + 1)),Ii6 q10.R0,Ii6 q10.R1,Ii6 q10.R2,Ii6 q10.R3,Ii6 q10.R4,Ii6 q10.R5,Ii6 q10.R6,Ii6 q10.R7,.b a1.Stopped],.box (el a2),.box Zbb,.box (el u3)],[.box (el a0),.box [Ii6 (wI (a1.PC + 1)),Ii6 q13.R0,Ii6 q13.R1,Ii6 q13.R2,Ii6 q13.R3,Ii6 q13.R4,Ii6 q13.R5,Ii6 q13.R6,Ii6 q13.R7,.b a1.Stopped],.box (el a2),.box Zbb,.box (el u3)]] (by kernel_rfl) Kd (by kernel_rfl) (by decide) rfl rfl rfl rfl ?_
      refine ev (Bb 0 rfl rfl) rfl rfl (Aa Vz rfl) (ev (Bb 0 rfl rfl) rfl rfl (Ae ti3 rfl (.lp _ _ _ rfl) rfl) (ev (Bb 0 rfl rfl) rfl rfl (Aa Adk rfl) (ev (Bb 0 rfl rfl) rfl rfl (Ae I9 rfl (.lp _ _ _ rfl) rfl) (ed (Bb 0 rfl rfl) rfl rfl (Cm Asz (Ab rfl Af) rfl (Tj hv11)) (ev (Bb 0 rfl rfl) rfl rfl (Aa Ps rfl) (ev (Bb 0 rfl rfl) rfl rfl (M5 Ah5 rfl rfl hj12) (ee0 0 rfl rfl rfl rfl (fun ζ => ?_) ?_)))))))
      ·refine An sz3 rfl rfl rfl rfl (Ac3 hj12 (Nbl rfl)) (Bs [.box (el a0),.box [Ii6 (wI (a1.PC + 1)),Ii6 q13.R0,Ii6 q13.R1,Ii6 q13.R2,Ii6 q13.R3,Ii6 q13.R4,Ii6 q13.R5,Ii6 q13.R6,Ii6 q13.R7,.b a1.Stopped],.box (el a2),.box Zbb,.box (el u3)] (Tc (Ao5 hq13 [Ii6 (wI (a1.PC + 1))] [.b a1.Stopped])) ?_)
       exact Sv
      refine Z1 (Aw (Ac ?_))
      exact ⟨(A1.mk (wI (a1.PC + 1)) q13 a1.Stopped),_,h,⟨rfl,rfl,trivial⟩,rfl⟩
     ·refine Bi (Aw (Ac ?_))
      exact ⟨(A1.mk (wI (a1.PC + 1)) q8 a1.Stopped),_,h,⟨rfl,rfl,trivial⟩,rfl⟩
    ·refine csr (sv rfl (Bn rfl rfl) (rm 1 rfl (Al (ccI h rfl (fun h => ?_) (fun h => ?_)))))
     ·refine Bp ?_
      obtain ⟨v14,hv14,h⟩ := Ag h
      obtain ⟨hj15,h⟩ := Dx h
      obtain ⟨q16,hq16,h⟩ := Ag h
      refine Jj [7] [0,1,0,4,12,0,63,127] [[.box (el a0),.box (el {a1 with PC := wI (a1.PC + 1)}),.box (el a2),.box Zbb,.box (el u3)],[.box (el a0),.box [Ii6 (wI (a1.PC + 1)),Ii6 q16.R0,Ii6 q16.R1,Ii6 q16.R2,Ii6 q16.R3,Ii6 q16.R4,Ii6 q16.R5,Ii6 q16.R6,Ii6 q16.R7,.b a1.Stopped],.box (el a2),.box Zbb,.box (el u3)]] (by kernel_rfl) Kd (by kernel_rfl) (by decide) rfl rfl rfl rfl ?_
      refine ev (Bb 0 rfl rfl) rfl rfl (Aa Zh rfl) (ev (Bb 0 rfl rfl) rfl rfl (Ae ti3 rfl (.lp _ _ _ rfl) rfl) (ev (Bb 0 rfl rfl) rfl rfl (Aa Xd rfl) (ev (Bb 0 rfl rfl) rfl rfl (Ae Ag8 rfl (.lp _ _ _ rfl) rfl) (ed (Bb 0 rfl rfl) rfl rfl (Cm Ax8 (Ab rfl Af) rfl (Yc hv14)) (ev (Bb 0 rfl rfl) rfl rfl (Aa Ps rfl) (ev (Bb 0 rfl rfl) rfl rfl (M5 Ah5 rfl rfl hj15) (ee0 0 rfl rfl rfl rfl (fun ζ => ?_) ?_)))))))
      ·refine An sz3 rfl rfl rfl rfl (Ac3 hj15 (Nbl rfl)) (Bs [.box (el a0),.box [Ii6 (wI (a1.PC + 1)),Ii6 q16.R0,Ii6 q16.R1,Ii6 q16.R2,Ii6 q16.R3,Ii6 q16.R4,Ii6 q16.R5,Ii6 q16.R6,Ii6 q16.R7,.b a1.Stopped],.box (el a2),.box Zbb,.box (el u3)] (Tc (Ao5 hq16 [Ii6 (wI (a1.PC + 1))] [.b a1.Stopped])) ?_)
       exact Sv
      refine Z1 (Ac (Az (fl Vz ti3 rfl rfl rfl rfl rfl rfl (fl Xd Ag8 rfl rfl rfl rfl rfl rfl (sv rfl (Aq Afv rfl) (sv rfl (Aa Ps rfl) ?_))))))
      obtain ⟨hj17,h⟩ := Dx h
      refine sv rfl (M5 Ah5 rfl rfl hj17) ?_
      obtain ⟨q18,hq18,h⟩ := Ag h
      refine An sz3 rfl rfl rfl rfl (Ac3 hj17 (Nbl rfl)) (Bs [.box (el a0),.box [Ii6 (wI (a1.PC + 1)),Ii6 q18.R0,Ii6 q18.R1,Ii6 q18.R2,Ii6 q18.R3,Ii6 q18.R4,Ii6 q18.R5,Ii6 q18.R6,Ii6 q18.R7,.b a1.Stopped],.box (el a2),.box Zbb,.box (el u3)] (Tc (Ao5 hq18 [Ii6 (wI (a1.PC + 1))] [.b a1.Stopped])) (Mp (Aw (Ac ?_))))
      exact ⟨(A1.mk (wI (a1.PC + 1)) q18 a1.Stopped),_,h,⟨rfl,rfl,trivial⟩,rfl⟩
     ·refine Bi (Aw (Ac ?_))
      exact ⟨(A1.mk (wI (a1.PC + 1)) a1.Regs a1.Stopped),_,h,⟨rfl,rfl,trivial⟩,rfl⟩
  ·skip
   refine Az (fl Pq ti3 rfl rfl rfl rfl rfl rfl (fl Si Ald rfl rfl rfl rfl rfl rfl (sv rfl (Aq Aki rfl) (sv rfl (Om rfl rfl) ?_))))
   obtain ⟨v19,hv19,h⟩ := Ag h
   refine Av rfl Aj1 (Ab rfl (Ab rfl Af)) (Ao rfl) (Jh hv19) (sv rfl (B5 rfl) (rm 1 rfl (Bf 21 rfl (fun hc => ?_) (fun hc => ?_))))
   ·replace h := Br hc h
    clear hc
    refine rm 13 rfl (Al (Ei rfl (fun _ => ?_) (fun hx => Bool.noConfusion hx)))
    refine csr (sv rfl (Be Alm Auh Ay (.nil _)) (An Zq rfl rfl rfl rfl (Nbl rfl) (Bs [.box (el a0),.box (el a1),.box (el a2),.box Zbb] rfl (rm 1 rfl (Al (Bg (Ak ?_)))))))
    cases SJ h
    refine ⟨Or.inr rfl,_,_,_,(Aj (Cu.agg _ _ _ _ _ Uf rfl (.lp _ _ _ rfl) (Nbl rfl)) (Aj (Cu.tmp _ _ rfl) As)),(Ao rfl),?_⟩
    rfl
   ·replace h := Bq hc h
    clear hc
    refine son rfl rfl rfl (sv rfl (Aa W6 rfl) (son rfl rfl rfl (sv rfl (Ae ti4 rfl (.lp _ _ _ rfl) rfl) (rm 2 rfl (Bf 25 rfl (fun hc => ?_) (fun hc => ?_))))))
    ·replace h := Br hc h
     clear hc
     refine rm 9 rfl (Al (Ei rfl (fun _ => ?_) (fun hx => Bool.noConfusion hx)))
     refine csr (sv rfl (Be Alm Auh Ay (.nil _)) (An Zq rfl rfl rfl rfl (Nbl rfl) (Bs [.box (el a0),.box (el a1),.box (el a2),.box Zbb] rfl (rm 1 rfl (Al (Bg (Ak ?_)))))))
     cases SJ h
     refine ⟨Or.inr rfl,_,_,_,(Aj (Cu.agg _ _ _ _ _ Uf rfl (.lp _ _ _ rfl) (Nbl rfl)) (Aj (Cu.tmp _ _ rfl) As)),(Ao rfl),?_⟩
     rfl
    ·replace h := Bq hc h
     clear hc
     refine son rfl rfl rfl (sv rfl (Aa Si rfl) (son rfl rfl rfl (sv rfl (Ae Ald rfl (.lp _ _ _ rfl) rfl) (son rfl rfl rfl (sv rfl (Aa Pq rfl) (son rfl rfl rfl (sv rfl (Ae ti3 rfl (.lp _ _ _ rfl) rfl) (son rfl rfl rfl ?_))))))))
     obtain ⟨u20,hu20,h⟩ := Ag h
     refine sv rfl (Db (f := Ce) Aki (fun _ => rfl) rfl rfl rfl rfl hu20) ?_
     refine son rfl rfl rfl (sv rfl (Cb (ys := [Ii6 u20.What,Ii6 u20.A,Ii6 u20.B,Ii6 u20.N,.sl u20.Key.length (u20.Key.flatMap eU8),.sl u20.Rng.Lo.length (u20.Rng.Lo.flatMap eU8),.sl u20.Rng.Hi.length (u20.Rng.Hi.flatMap eU8),.b u20.Rng.Open]) Ame rfl (.cp _) rfl rfl) (son rfl rfl rfl ?_))
     obtain ⟨v21,hv21,h⟩ := Ag h
     refine Av rfl As5 (Ab rfl Af) (Ao rfl) (Sb hv21) (son rfl rfl rfl (sv rfl (B5 rfl) (rm 1 rfl (Al (ccI h rfl (fun h => ?_) (fun h => ?_))))))
     ·refine csr (sv rfl (Be Alm Auh Ay (.nil _)) (An Zq rfl rfl rfl rfl (Nbl rfl) (Bs [.box (el a0),.box (el a1),.box (el a2),.box Zbb] rfl (rm 1 rfl (Al (Bg (Ak ?_)))))))
      cases SJ h
      refine ⟨Or.inr rfl,_,_,_,(Aj (Cu.agg _ _ _ _ _ Uf rfl (.lp _ _ _ rfl) (Nbl rfl)) (Aj (Cu.tmp _ _ rfl) As)),(Ao rfl),?_⟩
      rfl
     ·refine Bi (Ac ?_)
      exact ⟨(),_,h,⟨rfl,rfl,rfl,rfl,trivial⟩,rfl⟩
def Ea (a0 : Ad) (a1 : Ba) : Option Ad :=
 if (!decide (a1.Code = 0)) then ((Cj a0).bind fun v1 => some v1) else ((idx a0.Tasks 0).bind fun u2 => (D2 u2.Prog a0.St a1).bind fun v3 => if (!decide (v3.2 = 0)) then ((Cj a0).bind fun v4 => some v4) else ((Es ({a0 with St := v3.1})).bind fun v5 => some v5))
theorem Ov {a0 : Ad} {a1 : Ba} {r : Ad} (h : Ea a0 a1 = some r) : Bl Tryz.prog 101 [.agg (el a0),.agg (el a1)] (· = .s (.agg (el r))) := by
 unfold Ea at h
 refine Au Tryz.func101 rfl (nt := 32) rfl (Nbl rfl) ?_
 intro w0 S0
 refine csr (Ih rfl rfl (Ih rfl rfl (Bw rfl O1 (Al (Bp (csr (fl S7 Aah rfl rfl rfl rfl rfl rfl (sv rfl (Bt rfl rfl) (Al (ccI h rfl (fun h => ?_) (fun h => ?_)))))))))))
 ·refine csr (sv rfl (Ai B6 rfl (.lp _ _ _ rfl) (Nbl rfl)) ?_)
  obtain ⟨v1,hv1,h⟩ := Ag h
  refine Av rfl Aj5 (Ab rfl Af) (Ao rfl) (Eu hv1) (An E2 rfl rfl rfl rfl (Nbl rfl) (Bs [.box (el a0),.box (el a1),.box (el v1)] rfl (Al (Bg (Ak ?_)))))
  cases SJ h
  exact dnA rfl B6 rfl (.lp _ _ _ rfl) (Nbl rfl) rfl rfl
 ·refine Bi (Ac (Bp (Aey ?_)))
  obtain ⟨u2,hu2,h⟩ := Ag h
  obtain ⟨v3,hv3,h⟩ := Ag h
  refine Jj [12,13] [0,1,3,7,15,0,32,0,255,511,1023,1023,0,6143,16383] [[.box (el a0),.box (el a1),.box Zba,.hole],[.box (el a0),.box (el a1),.box Zba,.box Zbb],[.box (el a0),.box (el a1),.box Zba,.box (el v3.1)]] (by kernel_rfl) Kd (by kernel_rfl) (by decide) rfl rfl rfl rfl ?_
  refine evs (md := [.box (el a0),.box (el a1),.box Zba,.dead]) (fun hS => ev (Bh hS) rfl rfl (Aa Lw rfl) (ev (Bh hS) rfl rfl (Ae Zp rfl (.lp _ _ _ rfl) rfl) (ev (Bh hS) rfl rfl (Db (f := Ap) Vl (fun _ => rfl) rfl rfl rfl rfl hu2) ?_))) ⟨⟨rfl,⟨rfl,⟨rfl,⟨trivial,trivial⟩⟩⟩⟩,⟨⟨rfl,⟨rfl,⟨rfl,⟨trivial,trivial⟩⟩⟩⟩,⟨⟨rfl,⟨rfl,⟨rfl,⟨trivial,trivial⟩⟩⟩⟩,trivial⟩⟩⟩
  refine evs (md := [.box (el a0),.box (el a1),.box Zba,.dead]) (fun hS => ev (Bh hS) rfl rfl (Bj Y0 rfl) (ev (Bh hS) rfl rfl (Cb (ys := [.b u2.Prog.RO,.sl u2.Prog.Ops.length (u2.Prog.Ops.flatMap Ce)]) Ara rfl (.cp _) rfl rfl) (ev (Bh hS) rfl rfl (Aa Qs rfl) (ev (Bh hS) rfl rfl (Ai Uf rfl (.lp _ _ _ rfl) (Nbl rfl)) (ev (Bh hS) rfl rfl (Ai Ady rfl (.lp _ _ _ rfl) (Nbl rfl)) (ed (Bh hS) rfl rfl (Cm Axj (Ab rfl (Ab rfl (Ab rfl Af))) rfl (Xt hv3)) (emv rfl rfl (fun _ => Gc rfl) ?_))))))) ⟨⟨rfl,⟨rfl,⟨rfl,⟨trivial,trivial⟩⟩⟩⟩,⟨⟨rfl,⟨rfl,⟨rfl,⟨trivial,trivial⟩⟩⟩⟩,⟨⟨rfl,⟨rfl,⟨rfl,⟨trivial,trivial⟩⟩⟩⟩,trivial⟩⟩⟩
  refine evs (md := [.box (el a0),.box (el a1),.box Zba,.dead]) (fun hS => ev (Bh hS) rfl rfl (A4 rfl rfl) (ev (Bh hS) rfl rfl (A4 rfl rfl) (ee (x := .s (.one (.lp 3 0))) 0 rfl rfl rfl rfl rfl (fun ζ => ?_) ?_))) ⟨⟨rfl,⟨rfl,⟨rfl,⟨trivial,trivial⟩⟩⟩⟩,⟨⟨rfl,⟨rfl,⟨rfl,⟨trivial,trivial⟩⟩⟩⟩,⟨⟨rfl,⟨rfl,⟨rfl,⟨trivial,trivial⟩⟩⟩⟩,trivial⟩⟩⟩
  ·refine Nq 3 rfl Alm rfl ?_
   exact Sv
  refine ee0 1 rfl rfl rfl rfl (fun ζ => ?_) ?_
  ·refine An Zq rfl rfl rfl rfl (Nbl rfl) (Bs [.box (el a0),.box (el a1),.box Zba,.box (el v3.1)] rfl ?_)
   exact Sv
  refine ev (Bb 2 rfl rfl) rfl rfl (K5 rfl) (Z1 (Ac (Bp (csr (rm 1 rfl (sv rfl (Bt rfl rfl) (Al (ccI h rfl (fun h => ?_) (fun h => ?_)))))))))
  ·refine csr (sv rfl (Ai B6 rfl (.lp _ _ _ rfl) (Nbl rfl)) ?_)
   obtain ⟨v4,hv4,h⟩ := Ag h
   refine Av rfl Aj5 (Ab rfl Af) (Ao rfl) (Eu hv4) (An E2 rfl rfl rfl rfl (Nbl rfl) (Bs [.box (el a0),.box (el a1),.box (el v4),.box (el v3.1)] rfl (Al (Bg (Ak ?_)))))
   cases SJ h
   exact dnA rfl B6 rfl (.lp _ _ _ rfl) (Nbl rfl) rfl rfl
  ·refine Bi (Ac (csr (sv rfl (Ai Uf rfl (.lp _ _ _ rfl) (Nbl rfl)) (sv rfl (Aa Qs rfl) (An Zq rfl rfl rfl rfl (Nbl rfl) (Bs [.box (el {a0 with St := v3.1}),.box (el a1),.box Zba,.box (el v3.1)] rfl (Al (csr (sv rfl (Ai B6 rfl (.lp _ _ _ rfl) (Nbl rfl)) ?_)))))))))
   obtain ⟨v5,hv5,h⟩ := Ag h
   refine Av rfl At5 (Ab rfl Af) (Ao rfl) (M2 hv5) (An E2 rfl rfl rfl rfl (Nbl rfl) (Bs [.box (el {a0 with St := v3.1}),.box (el a1),.box (el v5),.box (el v3.1)] rfl (Al (Bg ?_))))
   cases SJ h
   exact dnA rfl B6 rfl (.lp _ _ _ rfl) (Nbl rfl) rfl rfl
def Mr  : Option Unit :=
 (Cs 5).bind fun v1 => if (!v1) then none else (some ())
theorem Sr  {r : Unit} (h : Mr = some r) : Hm Tryz.prog 79 [] [.one (Ii6 5)] (fun y m' => y = .s (.one (.raw (.func (.func 102) #[] #[]))) ∧ m' = []) := by
 unfold Mr at h
 refine C3 Tryz.func79 rfl (nt := 11) rfl (Nbl rfl) ?_
 intro w0 S0 X0 H0
 refine csr (rm 1 rfl (Al (csr (sv rfl (Hp Ua U8 (Ah rfl (Ah rfl (Ah rfl (Ah rfl (Ah rfl (Ah rfl (Ah rfl Ay))))))) (Cg [Nfu,Nfu,.raw (.func (.func 99) #[] #[]),Nfu,Nfu,Nfu,Nfu,Nfu,Nfu,Nfu] rfl rfl (Nbl rfl) rfl (Cg [Nfu,Nfu,.raw (.func (.func 99) #[] #[]),.raw (.func (.func 100) #[] #[]),Nfu,Nfu,Nfu,Nfu,Nfu,Nfu] rfl rfl (Nbl rfl) rfl (Cg [Nfu,Nfu,.raw (.func (.func 99) #[] #[]),.raw (.func (.func 100) #[] #[]),.raw (.func (.func 101) #[] #[]),Nfu,Nfu,Nfu,Nfu,Nfu] rfl rfl (Nbl rfl) rfl (Cg [Nfu,Nfu,.raw (.func (.func 99) #[] #[]),.raw (.func (.func 100) #[] #[]),.raw (.func (.func 101) #[] #[]),.raw (.func (.func 102) #[] #[]),Nfu,Nfu,Nfu,Nfu] rfl rfl (Nbl rfl) rfl (Cg [Nfu,Nfu,.raw (.func (.func 99) #[] #[]),.raw (.func (.func 100) #[] #[]),.raw (.func (.func 101) #[] #[]),.raw (.func (.func 102) #[] #[]),.raw (.func (.func 103) #[] #[]),Nfu,Nfu,Nfu] rfl rfl (Nbl rfl) rfl (Cg [Nfu,Nfu,.raw (.func (.func 99) #[] #[]),.raw (.func (.func 100) #[] #[]),.raw (.func (.func 101) #[] #[]),.raw (.func (.func 102) #[] #[]),.raw (.func (.func 103) #[] #[]),.raw (.func (.func 104) #[] #[]),Nfu,Nfu] rfl rfl (Nbl rfl) rfl (Cg [Nfu,Nfu,.raw (.func (.func 99) #[] #[]),.raw (.func (.func 100) #[] #[]),.raw (.func (.func 101) #[] #[]),.raw (.func (.func 102) #[] #[]),.raw (.func (.func 103) #[] #[]),.raw (.func (.func 104) #[] #[]),Nfu,.raw (.func (.func 105) #[] #[])] rfl rfl (Nbl rfl) rfl (.nil _))))))))) (Bw rfl Ua (An Ac8 rfl rfl rfl rfl (Nbl rfl) (Bs [.box [Nfu,Nfu,.raw (.func (.func 99) #[] #[]),.raw (.func (.func 100) #[] #[]),.raw (.func (.func 101) #[] #[]),.raw (.func (.func 102) #[] #[]),.raw (.func (.func 103) #[] #[]),.raw (.func (.func 104) #[] #[]),Nfu,.raw (.func (.func 105) #[] #[])]] rfl (Al (Bp (csr (sv rfl (Bc rfl) ?_)))))))))))
 obtain ⟨v1,hv1,h⟩ := Ag h
 refine Av rfl Anv (Ab rfl Af) (Ao rfl) (Eb hv1) (sv rfl (B5 rfl) (Al (ccI h rfl (fun h => ?_) (fun h => ?_))))
 ·refine Bp (Az ?_)
  cases h
 ·refine Bi (Ac (csr (sv rfl (Bc rfl) ?_)))
  refine sv rfl (Qr (o := 5) U8 rfl rfl (by decide)) ?_
  refine sv rfl (Ae Aeo rfl (.lp _ _ _ rfl) rfl) (rm 1 rfl (Al (Bg ?_)))
  cases SJ h
  exact ⟨Or.inr rfl,_,[],[.one (.raw (.func (.func 102) #[] #[]))],[],(Aj (Cu.tmp _ _ rfl) As),rfl,rfl,⟨by decide,rfl⟩,rfl,rfl,⟨rfl,rfl⟩⟩
end Go.Proofs.YtbjckaahoacbfaaGreatDoor.Abs
