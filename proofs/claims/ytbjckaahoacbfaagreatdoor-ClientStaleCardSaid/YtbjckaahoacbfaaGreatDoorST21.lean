/- . -/
import Derived.Test.YtbjckaahoacbfaaGreatDoorST21b
set_option linter.unusedVariables false
set_option linter.unusedSimpArgs false
namespace Go.Proofs.YtbjckaahoacbfaaGreatDoor.Abs
open Go.RowKit Go.Proofs
set_option maxRecDepth 100000
open EL
def Fe (a0 : Ad) (a1 : Ba) : Option Ad :=
 if (!decide (a1.Code = 0)) then ((Dn a0 a1.Code).bind fun v1 => some v1) else ((Bv a0 1 a1.N).bind fun v2 => some v2)
theorem P0 {a0 : Ad} {a1 : Ba} {r : Ad} (h : Fe a0 a1 = some r) : Bl Tryz.prog 102 [.agg (el a0),.agg (el a1)] (· = .s (.agg (el r))) := by
 unfold Fe at h
 refine Au Tryz.func102 rfl (nt := 16) rfl (Nbl rfl) ?_
 intro w0 S0
 refine csr (Ih rfl rfl (Ih rfl rfl (Bw rfl O1 (Al (Bp (csr (fl S7 Aah rfl rfl rfl rfl rfl rfl (sv rfl (Bt rfl rfl) (Al (ccI h rfl (fun h => ?_) (fun h => ?_)))))))))))
 ·refine csr (sv rfl (Ai B6 rfl (.lp _ _ _ rfl) (Nbl rfl)) (sv rfl (Aa S7 rfl) (sv rfl (Ae Aah rfl (.lp _ _ _ rfl) rfl) ?_)))
  obtain ⟨v1,hv1,h⟩ := Ag h
  refine Av rfl Auo (Ab rfl (Ab rfl Af)) (Ao rfl) (Ln hv1) (An E2 rfl rfl rfl rfl (Nbl rfl) (Bs [.box (el a0),.box (el a1),.box (el v1)] rfl (Al (Bg (Ak ?_)))))
  cases SJ h
  exact dnA rfl B6 rfl (.lp _ _ _ rfl) (Nbl rfl) rfl rfl
 ·refine Bi (Ac (csr (sv rfl (Ai B6 rfl (.lp _ _ _ rfl) (Nbl rfl)) (sv rfl (Aa Tt rfl) (sv rfl (Ae ti3 rfl (.lp _ _ _ rfl) rfl) ?_)))))
  obtain ⟨v2,hv2,h⟩ := Ag h
  refine Av rfl Ac7 (Ab rfl (Ab rfl (Ab rfl Af))) (Ao rfl) (Cd hv2) (An E2 rfl rfl rfl rfl (Nbl rfl) (Bs [.box (el a0),.box (el a1),.box (el v2)] rfl (Al (Bg ?_))))
  cases SJ h
  exact dnA rfl B6 rfl (.lp _ _ _ rfl) (Nbl rfl) rfl rfl
def My  : Option Unit :=
 (Cs 6).bind fun v1 => if (!v1) then none else (some ())
theorem Sn  {r : Unit} (h : My = some r) : Hm Tryz.prog 79 [] [.one (Ii6 6)] (fun y m' => y = .s (.one (.raw (.func (.func 103) #[] #[]))) ∧ m' = []) := by
 unfold My at h
 refine C3 Tryz.func79 rfl (nt := 11) rfl (Nbl rfl) ?_
 intro w0 S0 X0 H0
 refine csr (rm 1 rfl (Al (csr (sv rfl (Hp Ua U8 (Ah rfl (Ah rfl (Ah rfl (Ah rfl (Ah rfl (Ah rfl (Ah rfl Ay))))))) (Cg [Nfu,Nfu,.raw (.func (.func 99) #[] #[]),Nfu,Nfu,Nfu,Nfu,Nfu,Nfu,Nfu] rfl rfl (Nbl rfl) rfl (Cg [Nfu,Nfu,.raw (.func (.func 99) #[] #[]),.raw (.func (.func 100) #[] #[]),Nfu,Nfu,Nfu,Nfu,Nfu,Nfu] rfl rfl (Nbl rfl) rfl (Cg [Nfu,Nfu,.raw (.func (.func 99) #[] #[]),.raw (.func (.func 100) #[] #[]),.raw (.func (.func 101) #[] #[]),Nfu,Nfu,Nfu,Nfu,Nfu] rfl rfl (Nbl rfl) rfl (Cg [Nfu,Nfu,.raw (.func (.func 99) #[] #[]),.raw (.func (.func 100) #[] #[]),.raw (.func (.func 101) #[] #[]),.raw (.func (.func 102) #[] #[]),Nfu,Nfu,Nfu,Nfu] rfl rfl (Nbl rfl) rfl (Cg [Nfu,Nfu,.raw (.func (.func 99) #[] #[]),.raw (.func (.func 100) #[] #[]),.raw (.func (.func 101) #[] #[]),.raw (.func (.func 102) #[] #[]),.raw (.func (.func 103) #[] #[]),Nfu,Nfu,Nfu] rfl rfl (Nbl rfl) rfl (Cg [Nfu,Nfu,.raw (.func (.func 99) #[] #[]),.raw (.func (.func 100) #[] #[]),.raw (.func (.func 101) #[] #[]),.raw (.func (.func 102) #[] #[]),.raw (.func (.func 103) #[] #[]),.raw (.func (.func 104) #[] #[]),Nfu,Nfu] rfl rfl (Nbl rfl) rfl (Cg [Nfu,Nfu,.raw (.func (.func 99) #[] #[]),.raw (.func (.func 100) #[] #[]),.raw (.func (.func 101) #[] #[]),.raw (.func (.func 102) #[] #[]),.raw (.func (.func 103) #[] #[]),.raw (.func (.func 104) #[] #[]),Nfu,.raw (.func (.func 105) #[] #[])] rfl rfl (Nbl rfl) rfl (.nil _))))))))) (Bw rfl Ua (An Ac8 rfl rfl rfl rfl (Nbl rfl) (Bs [.box [Nfu,Nfu,.raw (.func (.func 99) #[] #[]),.raw (.func (.func 100) #[] #[]),.raw (.func (.func 101) #[] #[]),.raw (.func (.func 102) #[] #[]),.raw (.func (.func 103) #[] #[]),.raw (.func (.func 104) #[] #[]),Nfu,.raw (.func (.func 105) #[] #[])]] rfl (Al (Bp (csr (sv rfl (Bc rfl) ?_)))))))))))
 obtain ⟨v1,hv1,h⟩ := Ag h
 refine Av rfl Anv (Ab rfl Af) (Ao rfl) (Eb hv1) (sv rfl (B5 rfl) (Al (ccI h rfl (fun h => ?_) (fun h => ?_))))
 ·refine Bp (Az ?_)
  cases h
 ·refine Bi (Ac (csr (sv rfl (Bc rfl) ?_)))
  refine sv rfl (Qr (o := 6) U8 rfl rfl (by decide)) ?_
  refine sv rfl (Ae Aeo rfl (.lp _ _ _ rfl) rfl) (rm 1 rfl (Al (Bg ?_)))
  cases SJ h
  exact ⟨Or.inr rfl,_,[],[.one (.raw (.func (.func 103) #[] #[]))],[],(Aj (Cu.tmp _ _ rfl) As),rfl,rfl,⟨by decide,rfl⟩,rfl,rfl,⟨rfl,rfl⟩⟩
def Hn (a0 : Ad) (a1 : Ba) : Option Ad :=
 (Bv a0 2 0).bind fun v1 => some v1
theorem Qg {a0 : Ad} {a1 : Ba} {r : Ad} (h : Hn a0 a1 = some r) : Bl Tryz.prog 103 [.agg (el a0),.agg (el a1)] (· = .s (.agg (el r))) := by
 unfold Hn at h
 refine Au Tryz.func103 rfl (nt := 7) rfl (Nbl rfl) ?_
 intro w0 S0
 refine csr (Ih rfl rfl (Ih rfl rfl (Bw rfl O1 (Al (csr (sv rfl (Ai B6 rfl (.lp _ _ _ rfl) (Nbl rfl)) ?_))))))
 obtain ⟨v1,hv1,h⟩ := Ag h
 refine Av rfl Ac7 (Ab rfl (Ab rfl (Ab rfl Af))) (Ao rfl) (Cd hv1) (An E2 rfl rfl rfl rfl (Nbl rfl) (Bs [.box (el a0),.box (el a1),.box (el v1)] rfl (Al (Bg ?_))))
 cases SJ h
 exact dnA rfl B6 rfl (.lp _ _ _ rfl) (Nbl rfl) rfl rfl
def Mu  : Option Unit :=
 (Cs 7).bind fun v1 => if (!v1) then none else (some ())
theorem Sm  {r : Unit} (h : Mu = some r) : Hm Tryz.prog 79 [] [.one (Ii6 7)] (fun y m' => y = .s (.one (.raw (.func (.func 104) #[] #[]))) ∧ m' = []) := by
 unfold Mu at h
 refine C3 Tryz.func79 rfl (nt := 11) rfl (Nbl rfl) ?_
 intro w0 S0 X0 H0
 refine csr (rm 1 rfl (Al (csr (sv rfl (Hp Ua U8 (Ah rfl (Ah rfl (Ah rfl (Ah rfl (Ah rfl (Ah rfl (Ah rfl Ay))))))) (Cg [Nfu,Nfu,.raw (.func (.func 99) #[] #[]),Nfu,Nfu,Nfu,Nfu,Nfu,Nfu,Nfu] rfl rfl (Nbl rfl) rfl (Cg [Nfu,Nfu,.raw (.func (.func 99) #[] #[]),.raw (.func (.func 100) #[] #[]),Nfu,Nfu,Nfu,Nfu,Nfu,Nfu] rfl rfl (Nbl rfl) rfl (Cg [Nfu,Nfu,.raw (.func (.func 99) #[] #[]),.raw (.func (.func 100) #[] #[]),.raw (.func (.func 101) #[] #[]),Nfu,Nfu,Nfu,Nfu,Nfu] rfl rfl (Nbl rfl) rfl (Cg [Nfu,Nfu,.raw (.func (.func 99) #[] #[]),.raw (.func (.func 100) #[] #[]),.raw (.func (.func 101) #[] #[]),.raw (.func (.func 102) #[] #[]),Nfu,Nfu,Nfu,Nfu] rfl rfl (Nbl rfl) rfl (Cg [Nfu,Nfu,.raw (.func (.func 99) #[] #[]),.raw (.func (.func 100) #[] #[]),.raw (.func (.func 101) #[] #[]),.raw (.func (.func 102) #[] #[]),.raw (.func (.func 103) #[] #[]),Nfu,Nfu,Nfu] rfl rfl (Nbl rfl) rfl (Cg [Nfu,Nfu,.raw (.func (.func 99) #[] #[]),.raw (.func (.func 100) #[] #[]),.raw (.func (.func 101) #[] #[]),.raw (.func (.func 102) #[] #[]),.raw (.func (.func 103) #[] #[]),.raw (.func (.func 104) #[] #[]),Nfu,Nfu] rfl rfl (Nbl rfl) rfl (Cg [Nfu,Nfu,.raw (.func (.func 99) #[] #[]),.raw (.func (.func 100) #[] #[]),.raw (.func (.func 101) #[] #[]),.raw (.func (.func 102) #[] #[]),.raw (.func (.func 103) #[] #[]),.raw (.func (.func 104) #[] #[]),Nfu,.raw (.func (.func 105) #[] #[])] rfl rfl (Nbl rfl) rfl (.nil _))))))))) (Bw rfl Ua (An Ac8 rfl rfl rfl rfl (Nbl rfl) (Bs [.box [Nfu,Nfu,.raw (.func (.func 99) #[] #[]),.raw (.func (.func 100) #[] #[]),.raw (.func (.func 101) #[] #[]),.raw (.func (.func 102) #[] #[]),.raw (.func (.func 103) #[] #[]),.raw (.func (.func 104) #[] #[]),Nfu,.raw (.func (.func 105) #[] #[])]] rfl (Al (Bp (csr (sv rfl (Bc rfl) ?_)))))))))))
 obtain ⟨v1,hv1,h⟩ := Ag h
 refine Av rfl Anv (Ab rfl Af) (Ao rfl) (Eb hv1) (sv rfl (B5 rfl) (Al (ccI h rfl (fun h => ?_) (fun h => ?_))))
 ·refine Bp (Az ?_)
  cases h
 ·refine Bi (Ac (csr (sv rfl (Bc rfl) ?_)))
  refine sv rfl (Qr (o := 7) U8 rfl rfl (by decide)) ?_
  refine sv rfl (Ae Aeo rfl (.lp _ _ _ rfl) rfl) (rm 1 rfl (Al (Bg ?_)))
  cases SJ h
  exact ⟨Or.inr rfl,_,[],[.one (.raw (.func (.func 104) #[] #[]))],[],(Aj (Cu.tmp _ _ rfl) As),rfl,rfl,⟨by decide,rfl⟩,rfl,rfl,⟨rfl,rfl⟩⟩
def Fv (a0 : Ad) (a1 : Ba) : Option Ad :=
 if (!decide (a1.Code = 0)) then ((Hg a0.Cfg.Plan 0).bind fun v1 => some ({a0 with Phase := 10,Left := v1.1})) else (if (decide (0 < a1.N)) then (if a0.Risk then ((Bv a0 1 a1.N).bind fun v2 => some v2) else (if (decide (0 < a1.N)) then ((Bv a0 4 a1.N).bind fun v3 => some v3) else (if a0.St.Stopped then ((Bv a0 2 0).bind fun v4 => some v4) else ((Cj a0).bind fun v5 => some v5)))) else (if (decide (0 < a1.N)) then ((Bv a0 4 a1.N).bind fun v6 => some v6) else (if a0.St.Stopped then ((Bv a0 2 0).bind fun v7 => some v7) else ((Cj a0).bind fun v8 => some v8))))
theorem Qe {a0 : Ad} {a1 : Ba} {r : Ad} (h : Fv a0 a1 = some r) : Bl Tryz.prog 104 [.agg (el a0),.agg (el a1)] (· = .s (.agg (el r))) := by
 unfold Fv at h
 refine Au Tryz.func104 rfl (nt := 47) rfl (Nbl rfl) ?_
 intro w0 S0
 refine csr (Ih rfl rfl (Ih rfl rfl (Bw rfl O1 (Al (Bp (B3 (csr (fl S7 Aah rfl rfl rfl rfl rfl rfl (sv rfl (Bt rfl rfl) (rm 1 rfl (Al (ccI h rfl (fun h => ?_) (fun h => ?_)))))))))))))
 ·refine csr (sv rfl (Aa G8 rfl) (An sz3 rfl rfl rfl rfl (Nbl rfl) (Bs [.box (el {a0 with Phase := 10}),.box (el a1),.box Zba] rfl (Al (csr (sv rfl (Aa Sd rfl) (sv rfl (Aa Ur rfl) (sv rfl (Ai Aos rfl (.lp _ _ _ rfl) (Nbl rfl)) ?_))))))))
  obtain ⟨v1,hv1,h⟩ := Ag h
  refine Av rfl Avc (Ab rfl (Ab rfl Af)) (Ao rfl) (Mg hv1) (sv rfl (Gc rfl) (sv rfl (A4 rfl rfl) (sv rfl (A4 rfl rfl) (sv rfl (Aa Sf rfl) (An sz3 rfl rfl rfl rfl (Nbl rfl) (Bs [.box (el {a0 with Phase := 10,Left := v1.1}),.box (el a1),.box Zba] rfl (Al (csr (sv rfl (Ai B6 rfl (.lp _ _ _ rfl) (Nbl rfl)) (An E2 rfl rfl rfl rfl (Nbl rfl) (Bs [.box (el {a0 with Phase := 10,Left := v1.1}),.box (el a1),.box (el {a0 with Phase := 10,Left := v1.1})] rfl (Al (Bg (A2 (Ak ?_)))))))))))))))
  cases SJ h
  exact dnA rfl B6 rfl (.lp _ _ _ rfl) (Nbl rfl) rfl rfl
 ·refine csr (fl Tt ti3 rfl rfl rfl rfl rfl rfl (sv rfl (Dr rfl rfl) (rm 1 rfl (Bf 23 rfl (fun hc => ?_) (fun hc => ?_)))))
  ·replace h := Br hc h
   clear hc
   refine son rfl rfl rfl (sv rfl (Aa Yi rfl) (son rfl rfl rfl (sv rfl (Ae ti4 rfl (.lp _ _ _ rfl) rfl) (rm 2 rfl (Al (ccI h rfl (fun h => ?_) (fun h => ?_)))))))
   ·refine csr (sv rfl (Ai B6 rfl (.lp _ _ _ rfl) (Nbl rfl)) (sv rfl (Aa Tt rfl) (sv rfl (Ae ti3 rfl (.lp _ _ _ rfl) rfl) ?_)))
    obtain ⟨v2,hv2,h⟩ := Ag h
    refine Av rfl Ac7 (Ab rfl (Ab rfl (Ab rfl Af))) (Ao rfl) (Cd hv2) (An E2 rfl rfl rfl rfl (Nbl rfl) (Bs [.box (el a0),.box (el a1),.box (el v2)] rfl (Al (Bg (A2 (Ak ?_))))))
    cases SJ h
    exact dnA rfl B6 rfl (.lp _ _ _ rfl) (Nbl rfl) rfl rfl
   ·refine csr (fl Tt ti3 rfl rfl rfl rfl rfl rfl (sv rfl (Dr rfl rfl) (rm 1 rfl (Al (ccI h rfl (fun h => ?_) (fun h => ?_))))))
    ·refine csr (sv rfl (Ai B6 rfl (.lp _ _ _ rfl) (Nbl rfl)) (sv rfl (Aa Tt rfl) (sv rfl (Ae ti3 rfl (.lp _ _ _ rfl) rfl) ?_)))
     obtain ⟨v3,hv3,h⟩ := Ag h
     refine Av rfl Ac7 (Ab rfl (Ab rfl (Ab rfl Af))) (Ao rfl) (Cd hv3) (An E2 rfl rfl rfl rfl (Nbl rfl) (Bs [.box (el a0),.box (el a1),.box (el v3)] rfl (Al (Bg (A2 (Ak ?_))))))
     cases SJ h
     exact dnA rfl B6 rfl (.lp _ _ _ rfl) (Nbl rfl) rfl rfl
    ·refine csr (sv rfl (Aa Qs rfl) (fl W6 ti4 rfl rfl rfl rfl rfl rfl (rm 1 rfl (Al (ccI h rfl (fun h => ?_) (fun h => ?_))))))
     ·refine csr (sv rfl (Ai B6 rfl (.lp _ _ _ rfl) (Nbl rfl)) ?_)
      obtain ⟨v4,hv4,h⟩ := Ag h
      refine Av rfl Ac7 (Ab rfl (Ab rfl (Ab rfl Af))) (Ao rfl) (Cd hv4) (An E2 rfl rfl rfl rfl (Nbl rfl) (Bs [.box (el a0),.box (el a1),.box (el v4)] rfl (Al (Bg (A2 (Ak ?_))))))
      cases SJ h
      exact dnA rfl B6 rfl (.lp _ _ _ rfl) (Nbl rfl) rfl rfl
     ·refine Bi (Aw (Ac (csr (sv rfl (Ai B6 rfl (.lp _ _ _ rfl) (Nbl rfl)) ?_))))
      obtain ⟨v5,hv5,h⟩ := Ag h
      refine Av rfl Aj5 (Ab rfl Af) (Ao rfl) (Eu hv5) (An E2 rfl rfl rfl rfl (Nbl rfl) (Bs [.box (el a0),.box (el a1),.box (el v5)] rfl (Al (Bg ?_))))
      cases SJ h
      exact dnA rfl B6 rfl (.lp _ _ _ rfl) (Nbl rfl) rfl rfl
  ·replace h := Bq hc h
   clear hc
   refine rm 4 rfl (Al (Ei rfl (fun hx => Bool.noConfusion hx) (fun _ => ?_)))
   refine csr (fl Tt ti3 rfl rfl rfl rfl rfl rfl (sv rfl (Dr rfl rfl) (rm 1 rfl (Al (ccI h rfl (fun h => ?_) (fun h => ?_))))))
   ·refine csr (sv rfl (Ai B6 rfl (.lp _ _ _ rfl) (Nbl rfl)) (sv rfl (Aa Tt rfl) (sv rfl (Ae ti3 rfl (.lp _ _ _ rfl) rfl) ?_)))
    obtain ⟨v6,hv6,h⟩ := Ag h
    refine Av rfl Ac7 (Ab rfl (Ab rfl (Ab rfl Af))) (Ao rfl) (Cd hv6) (An E2 rfl rfl rfl rfl (Nbl rfl) (Bs [.box (el a0),.box (el a1),.box (el v6)] rfl (Al (Bg (A2 (Ak ?_))))))
    cases SJ h
    exact dnA rfl B6 rfl (.lp _ _ _ rfl) (Nbl rfl) rfl rfl
   ·refine csr (sv rfl (Aa Qs rfl) (fl W6 ti4 rfl rfl rfl rfl rfl rfl (rm 1 rfl (Al (ccI h rfl (fun h => ?_) (fun h => ?_))))))
    ·refine csr (sv rfl (Ai B6 rfl (.lp _ _ _ rfl) (Nbl rfl)) ?_)
     obtain ⟨v7,hv7,h⟩ := Ag h
     refine Av rfl Ac7 (Ab rfl (Ab rfl (Ab rfl Af))) (Ao rfl) (Cd hv7) (An E2 rfl rfl rfl rfl (Nbl rfl) (Bs [.box (el a0),.box (el a1),.box (el v7)] rfl (Al (Bg (A2 (Ak ?_))))))
     cases SJ h
     exact dnA rfl B6 rfl (.lp _ _ _ rfl) (Nbl rfl) rfl rfl
    ·refine Bi (Aw (Ac (csr (sv rfl (Ai B6 rfl (.lp _ _ _ rfl) (Nbl rfl)) ?_))))
     obtain ⟨v8,hv8,h⟩ := Ag h
     refine Av rfl Aj5 (Ab rfl Af) (Ao rfl) (Eu hv8) (An E2 rfl rfl rfl rfl (Nbl rfl) (Bs [.box (el a0),.box (el a1),.box (el v8)] rfl (Al (Bg ?_))))
     cases SJ h
     exact dnA rfl B6 rfl (.lp _ _ _ rfl) (Nbl rfl) rfl rfl
def Mv  : Option Unit :=
 (Cs 9).bind fun v1 => if (!v1) then none else (some ())
theorem Sl  {r : Unit} (h : Mv = some r) : Hm Tryz.prog 79 [] [.one (Ii6 9)] (fun y m' => y = .s (.one (.raw (.func (.func 105) #[] #[]))) ∧ m' = []) := by
 unfold Mv at h
 refine C3 Tryz.func79 rfl (nt := 11) rfl (Nbl rfl) ?_
 intro w0 S0 X0 H0
 refine csr (rm 1 rfl (Al (csr (sv rfl (Hp Ua U8 (Ah rfl (Ah rfl (Ah rfl (Ah rfl (Ah rfl (Ah rfl (Ah rfl Ay))))))) (Cg [Nfu,Nfu,.raw (.func (.func 99) #[] #[]),Nfu,Nfu,Nfu,Nfu,Nfu,Nfu,Nfu] rfl rfl (Nbl rfl) rfl (Cg [Nfu,Nfu,.raw (.func (.func 99) #[] #[]),.raw (.func (.func 100) #[] #[]),Nfu,Nfu,Nfu,Nfu,Nfu,Nfu] rfl rfl (Nbl rfl) rfl (Cg [Nfu,Nfu,.raw (.func (.func 99) #[] #[]),.raw (.func (.func 100) #[] #[]),.raw (.func (.func 101) #[] #[]),Nfu,Nfu,Nfu,Nfu,Nfu] rfl rfl (Nbl rfl) rfl (Cg [Nfu,Nfu,.raw (.func (.func 99) #[] #[]),.raw (.func (.func 100) #[] #[]),.raw (.func (.func 101) #[] #[]),.raw (.func (.func 102) #[] #[]),Nfu,Nfu,Nfu,Nfu] rfl rfl (Nbl rfl) rfl (Cg [Nfu,Nfu,.raw (.func (.func 99) #[] #[]),.raw (.func (.func 100) #[] #[]),.raw (.func (.func 101) #[] #[]),.raw (.func (.func 102) #[] #[]),.raw (.func (.func 103) #[] #[]),Nfu,Nfu,Nfu] rfl rfl (Nbl rfl) rfl (Cg [Nfu,Nfu,.raw (.func (.func 99) #[] #[]),.raw (.func (.func 100) #[] #[]),.raw (.func (.func 101) #[] #[]),.raw (.func (.func 102) #[] #[]),.raw (.func (.func 103) #[] #[]),.raw (.func (.func 104) #[] #[]),Nfu,Nfu] rfl rfl (Nbl rfl) rfl (Cg [Nfu,Nfu,.raw (.func (.func 99) #[] #[]),.raw (.func (.func 100) #[] #[]),.raw (.func (.func 101) #[] #[]),.raw (.func (.func 102) #[] #[]),.raw (.func (.func 103) #[] #[]),.raw (.func (.func 104) #[] #[]),Nfu,.raw (.func (.func 105) #[] #[])] rfl rfl (Nbl rfl) rfl (.nil _))))))))) (Bw rfl Ua (An Ac8 rfl rfl rfl rfl (Nbl rfl) (Bs [.box [Nfu,Nfu,.raw (.func (.func 99) #[] #[]),.raw (.func (.func 100) #[] #[]),.raw (.func (.func 101) #[] #[]),.raw (.func (.func 102) #[] #[]),.raw (.func (.func 103) #[] #[]),.raw (.func (.func 104) #[] #[]),Nfu,.raw (.func (.func 105) #[] #[])]] rfl (Al (Bp (csr (sv rfl (Bc rfl) ?_)))))))))))
 obtain ⟨v1,hv1,h⟩ := Ag h
 refine Av rfl Anv (Ab rfl Af) (Ao rfl) (Eb hv1) (sv rfl (B5 rfl) (Al (ccI h rfl (fun h => ?_) (fun h => ?_))))
 ·refine Bp (Az ?_)
  cases h
 ·refine Bi (Ac (csr (sv rfl (Bc rfl) ?_)))
  refine sv rfl (Qr (o := 9) U8 rfl rfl (by decide)) ?_
  refine sv rfl (Ae Aeo rfl (.lp _ _ _ rfl) rfl) (rm 1 rfl (Al (Bg ?_)))
  cases SJ h
  exact ⟨Or.inr rfl,_,[],[.one (.raw (.func (.func 105) #[] #[]))],[],(Aj (Cu.tmp _ _ rfl) As),rfl,rfl,⟨by decide,rfl⟩,rfl,rfl,⟨rfl,rfl⟩⟩
def Fb (a0 : Ad) (a1 : Ba) : Option Ad :=
 (E3 a0).bind fun v1 => (D8 ({v1 with Phase := 0})).bind fun v2 => some v2
theorem P8 {a0 : Ad} {a1 : Ba} {r : Ad} (h : Fb a0 a1 = some r) : Bl Tryz.prog 105 [.agg (el a0),.agg (el a1)] (· = .s (.agg (el r))) := by
 unfold Fb at h
 refine Au Tryz.func105 rfl (nt := 10) rfl (Nbl rfl) ?_
 intro w0 S0
 refine csr (Ih rfl rfl (Ih rfl rfl (Bw rfl O1 (Al (csr (sv rfl (Ai B6 rfl (.lp _ _ _ rfl) (Nbl rfl)) ?_))))))
 obtain ⟨v1,hv1,h⟩ := Ag h
 refine Av rfl Ay8 (Ab rfl Af) (Ao rfl) (Nf hv1) (An E2 rfl rfl rfl rfl (Nbl rfl) (Bs [.box (el v1),.box (el a1),.box Zba] rfl (Al (csr (sv rfl (Aa G8 rfl) (An sz3 rfl rfl rfl rfl (Nbl rfl) (Bs [.box (el {v1 with Phase := 0}),.box (el a1),.box Zba] rfl (Al (csr (sv rfl (Ai B6 rfl (.lp _ _ _ rfl) (Nbl rfl)) ?_))))))))))
 obtain ⟨v2,hv2,h⟩ := Ag h
 refine Av rfl Axm (Ab rfl Af) (Ao rfl) (Jt hv2) (An E2 rfl rfl rfl rfl (Nbl rfl) (Bs [.box (el {v1 with Phase := 0}),.box (el a1),.box (el v2)] rfl (Al (Bg ?_))))
 cases SJ h
 exact dnA rfl B6 rfl (.lp _ _ _ rfl) (Nbl rfl) rfl rfl
def Hu (a0 : Int) : Option Unit :=
 (Cs a0).bind fun v1 => if (!v1) then (some ()) else none
theorem Sq {a0 : Int} {r : Unit} (h : Hu a0 = some r) : Hm Tryz.prog 79 [] [.one (Ii6 a0)] (fun y m' => y = .s (.one Nfu) ∧ m' = []) := by
 unfold Hu at h
 refine C3 Tryz.func79 rfl (nt := 11) rfl (Nbl rfl) ?_
 intro w0 S0 X0 H0
 refine csr (rm 1 rfl (Al (csr (sv rfl (Hp Ua U8 (Ah rfl (Ah rfl (Ah rfl (Ah rfl (Ah rfl (Ah rfl (Ah rfl Ay))))))) (Cg [Nfu,Nfu,.raw (.func (.func 99) #[] #[]),Nfu,Nfu,Nfu,Nfu,Nfu,Nfu,Nfu] rfl rfl (Nbl rfl) rfl (Cg [Nfu,Nfu,.raw (.func (.func 99) #[] #[]),.raw (.func (.func 100) #[] #[]),Nfu,Nfu,Nfu,Nfu,Nfu,Nfu] rfl rfl (Nbl rfl) rfl (Cg [Nfu,Nfu,.raw (.func (.func 99) #[] #[]),.raw (.func (.func 100) #[] #[]),.raw (.func (.func 101) #[] #[]),Nfu,Nfu,Nfu,Nfu,Nfu] rfl rfl (Nbl rfl) rfl (Cg [Nfu,Nfu,.raw (.func (.func 99) #[] #[]),.raw (.func (.func 100) #[] #[]),.raw (.func (.func 101) #[] #[]),.raw (.func (.func 102) #[] #[]),Nfu,Nfu,Nfu,Nfu] rfl rfl (Nbl rfl) rfl (Cg [Nfu,Nfu,.raw (.func (.func 99) #[] #[]),.raw (.func (.func 100) #[] #[]),.raw (.func (.func 101) #[] #[]),.raw (.func (.func 102) #[] #[]),.raw (.func (.func 103) #[] #[]),Nfu,Nfu,Nfu] rfl rfl (Nbl rfl) rfl (Cg [Nfu,Nfu,.raw (.func (.func 99) #[] #[]),.raw (.func (.func 100) #[] #[]),.raw (.func (.func 101) #[] #[]),.raw (.func (.func 102) #[] #[]),.raw (.func (.func 103) #[] #[]),.raw (.func (.func 104) #[] #[]),Nfu,Nfu] rfl rfl (Nbl rfl) rfl (Cg [Nfu,Nfu,.raw (.func (.func 99) #[] #[]),.raw (.func (.func 100) #[] #[]),.raw (.func (.func 101) #[] #[]),.raw (.func (.func 102) #[] #[]),.raw (.func (.func 103) #[] #[]),.raw (.func (.func 104) #[] #[]),Nfu,.raw (.func (.func 105) #[] #[])] rfl rfl (Nbl rfl) rfl (.nil _))))))))) (Bw rfl Ua (An Ac8 rfl rfl rfl rfl (Nbl rfl) (Bs [.box [Nfu,Nfu,.raw (.func (.func 99) #[] #[]),.raw (.func (.func 100) #[] #[]),.raw (.func (.func 101) #[] #[]),.raw (.func (.func 102) #[] #[]),.raw (.func (.func 103) #[] #[]),.raw (.func (.func 104) #[] #[]),Nfu,.raw (.func (.func 105) #[] #[])]] rfl (Al (Bp (csr (sv rfl (Bc rfl) ?_)))))))))))
 obtain ⟨v1,hv1,h⟩ := Ag h
 refine Av rfl Anv (Ab rfl Af) (Ao rfl) (Eb hv1) (sv rfl (B5 rfl) (Al (ccI h rfl (fun h => ?_) (fun h => ?_))))
 ·refine csr (rm 1 rfl (Al (Bg (Ak ?_))))
  cases SJ h
  exact ⟨Or.inr rfl,_,[],[.one Nfu],[],(Aj (Cu.tmp _ _ rfl) As),rfl,rfl,⟨by decide,rfl⟩,rfl,rfl,⟨rfl,rfl⟩⟩
 ·refine Bi (Ac (csr (sv rfl (Bc rfl) ?_)))
  cases h
def Hd (a0 : Ad) (v1 : Ba × Int) (b5 : Unit) : Option Ad :=
 (Ev a0 v1.1).bind fun v6 => some v6
def G9 (a0 : Ad) (v1 : Ba × Int) (b9 : Unit) : Option Ad :=
 (Ff a0 v1.1).bind fun v10 => some v10
def Gs (a0 : Ad) (v1 : Ba × Int) (b13 : Unit) : Option Ad :=
 (Ea a0 v1.1).bind fun v14 => some v14
def Gp (a0 : Ad) (v1 : Ba × Int) (b17 : Unit) : Option Ad :=
 (Fe a0 v1.1).bind fun v18 => some v18
def Gn (a0 : Ad) (v1 : Ba × Int) (b21 : Unit) : Option Ad :=
 (Hn a0 v1.1).bind fun v22 => some v22
def Gr (a0 : Ad) (v1 : Ba × Int) (b25 : Unit) : Option Ad :=
 (Fv a0 v1.1).bind fun v26 => some v26
def Gq (a0 : Ad) (v1 : Ba × Int) (b29 : Unit) : Option Ad :=
 (Fb a0 v1.1).bind fun v30 => some v30
def Gu (a0 : Ad) (a1 : List UInt8) : Option Ad :=
 (Eo a1).bind fun v1 => if (!decide (v1.2 = 0)) then ((Cy a0).bind fun v2 => some v2) else (if decide (a0.Phase = 2) then ((Na).bind fun v4 => if (!decide (v1.1.Kind = a0.Req.Kind)) then (some a0) else (if (!decide (v1.1.Seq = a0.Req.Seq)) then (some a0) else (Hd a0 v1 ()))) else (if decide (a0.Phase = 3) then ((Mt).bind fun v8 => if (!decide (v1.1.Kind = a0.Req.Kind)) then (some a0) else (if (!decide (v1.1.Seq = a0.Req.Seq)) then (some a0) else (G9 a0 v1 ()))) else (if decide (a0.Phase = 4) then ((Mw).bind fun v12 => if (!decide (v1.1.Kind = a0.Req.Kind)) then (some a0) else (if (!decide (v1.1.Seq = a0.Req.Seq)) then (some a0) else (Gs a0 v1 ()))) else (if decide (a0.Phase = 5) then ((Mr).bind fun v16 => if (!decide (v1.1.Kind = a0.Req.Kind)) then (some a0) else (if (!decide (v1.1.Seq = a0.Req.Seq)) then (some a0) else (Gp a0 v1 ()))) else (if decide (a0.Phase = 6) then ((My).bind fun v20 => if (!decide (v1.1.Kind = a0.Req.Kind)) then (some a0) else (if (!decide (v1.1.Seq = a0.Req.Seq)) then (some a0) else (Gn a0 v1 ()))) else (if decide (a0.Phase = 7) then ((Mu).bind fun v24 => if (!decide (v1.1.Kind = a0.Req.Kind)) then (some a0) else (if (!decide (v1.1.Seq = a0.Req.Seq)) then (some a0) else (Gr a0 v1 ()))) else (if decide (a0.Phase = 9) then ((Mv).bind fun v28 => if (!decide (v1.1.Kind = a0.Req.Kind)) then (some a0) else (if (!decide (v1.1.Seq = a0.Req.Seq)) then (some a0) else (Gq a0 v1 ()))) else ((Hu a0.Phase).bind fun v31 => some (Ad.mk (Cx.mk a0.Cfg.Who (D3.mk a0.Cfg.Plan.Wait a0.Cfg.Plan.Most a0.Cfg.Plan.Tries) a0.Cfg.Attempts a0.Cfg.Budget) a0.Tasks a0.Phase a0.Epoch a0.Seq a0.Attempt a0.Sent a0.Left a0.Resets a0.Risk (A1.mk a0.St.PC (Ee.mk a0.St.Regs.R0 a0.St.Regs.R1 a0.St.Regs.R2 a0.St.Regs.R3 a0.St.Regs.R4 a0.St.Regs.R5 a0.St.Regs.R6 a0.St.Regs.R7) a0.St.Stopped) (B7.mk a0.Req.Kind a0.Req.Seq a0.Req.Token a0.Req.Attempt a0.Req.RO a0.Req.Key a0.Req.Val (B2.mk a0.Req.Rng.Lo a0.Req.Rng.Hi a0.Req.Rng.Open)) (A0.mk a0.In.Buf a0.In.Dead) a0.Out a0.Done a0.Tried)))))))))
theorem Ra {a0 : Ad} {a1 : List UInt8} {r : Ad} (h : Gu a0 a1 = some r) : Bl Tryz.prog 46 [.agg (el a0),.one (.sl a1.length (a1.flatMap eU8))] (· = .s (.agg (el r))) := by
 unfold Gu at h
 refine Au Tryz.func46 rfl (nt := 43) rfl (Nbl rfl) ?_
 intro w0 S0
 refine csr (Ih rfl rfl (Bw rfl O1 (Al (csr (sv rfl (Bc rfl) ?_)))))
 obtain ⟨v1,hv1,h⟩ := Ag h
 refine Av rfl A1r (Ab rfl Af) (Ao rfl) (Uw hv1) (sv rfl (Gc rfl) (sv rfl (A4 rfl rfl) (sv rfl (A4 rfl rfl) (Bw rfl Alv (An Aqo rfl rfl rfl rfl (Nbl rfl) (Bs [.box (el a0),.box Zba,.box (el v1.1)] rfl (rm 1 rfl (Al (Bp (csr (rm 1 rfl (sv rfl (Bt rfl rfl) (Al (ccI h rfl (fun h => ?_) (fun h => ?_)))))))))))))))
 ·refine csr (sv rfl (Ai B6 rfl (.lp _ _ _ rfl) (Nbl rfl)) ?_)
  obtain ⟨v2,hv2,h⟩ := Ag h
  refine Av rfl Asg (Ab rfl Af) (Ao rfl) (Fy hv2) (An E2 rfl rfl rfl rfl (Nbl rfl) (Bs [.box (el a0),.box (el v2),.box (el v1.1)] rfl (Al (Bg (Ak ?_)))))
  cases SJ h
  exact dnA rfl B6 rfl (.lp _ _ _ rfl) (Nbl rfl) rfl rfl
 ·refine Bi (Ac (csr (sv rfl (Aa G8 rfl) (sv rfl (Ae ti3 rfl (.lp _ _ _ rfl) rfl) ?_))))
  by_cases hq3 : a0.Phase = 2
  ·replace h := Br (decide_eq_true hq3) h
   refine Xw 18 (y := .s (.one (Ii6 a0.Phase))) (.s (.one (Ii6 2))) rfl (congrArg (fun n => AV.s (.one (Ii6 n))) hq3) ?_
   obtain ⟨v4,hv4,h⟩ := Ag h
   refine Da (x' := .s (.one (.raw (.func (.func 99) #[] #[])))) (M' := [.box (el a0),.box Zba,.box (el v1.1)]) [] rfl Aof (.func _) (Ab rfl Af) (Ta hv4) rfl rfl (by decide) rfl rfl rfl ?_
   refine rm 1 rfl (Al (Bp (Bp (Jk (Unit) (fun b5 => [(2,.s (.one (.lp 0 0))),(4,.s (.one (.lp 1 0))),(5,.s (.one (.lp 2 0))),(7,.s (.one (.raw (.func (.func 99) #[] #[]))))]) (fun b5 => [.box (el a0),.box Zba,.box (el v1.1)]) (fun b5 => Hd a0 v1 b5 = some r) (fun _ _ => A6 rfl) (fun _ _ => Ar rfl) (fun _ _ => Nbl rfl) (fun b5 h => ?_) ?_))))
   ·unfold Hd at h
    refine csr (rm 1 rfl (sv rfl (Ai B6 rfl (.lp _ _ _ rfl) (Nbl rfl)) (sv rfl (Ai Ady rfl (.lp _ _ _ rfl) (Nbl rfl)) ?_)))
    obtain ⟨v6,hv6,h⟩ := Ag h
    refine sd rfl (Px A0x (.raw _ _ rfl) (Ab rfl (Ab rfl Af)) rfl (Pk hv6)) (An E2 rfl rfl rfl rfl (Nbl rfl) (Bs [.box (el a0),.box (el v6),.box (el v1.1)] rfl (Al (Bg ?_))))
    cases SJ h
    exact dnA rfl B6 rfl (.lp _ _ _ rfl) (Nbl rfl) rfl rfl
   ·skip
    refine Az (rm 1 rfl (sv rfl (Kl Tryz.underlying159 rfl) (rm 1 rfl (son rfl rfl rfl (sv rfl (Aa Rq rfl) (son rfl rfl rfl (sv rfl (Ae ti3 rfl (.lp _ _ _ rfl) rfl) (son rfl rfl rfl (sv rfl (Aa Hz rfl) (son rfl rfl rfl (sv rfl (Aa Qm rfl) (son rfl rfl rfl (sv rfl (Ae ti3 rfl (.lp _ _ _ rfl) rfl) (son rfl rfl rfl (sv rfl (Bt rfl rfl) (rm 2 rfl (Bf 30 rfl (fun hc => ?_) (fun hc => ?_))))))))))))))))))
    ·replace h := Br hc h
     clear hc
     refine rm 7 rfl (Al (Ei rfl (fun _ => ?_) (fun hx => Bool.noConfusion hx)))
     refine csr (sv rfl (Ai B6 rfl (.lp _ _ _ rfl) (Nbl rfl)) (An E2 rfl rfl rfl rfl (Nbl rfl) (Bs [.box (el a0),.box (el a0),.box (el v1.1)] rfl (Al (Bg (Ak ?_))))))
     cases SJ h
     exact dnA rfl B6 rfl (.lp _ _ _ rfl) (Nbl rfl) rfl rfl
    ·replace h := Bq hc h
     clear hc
     refine son rfl rfl rfl (sv rfl (Aa Tm rfl) (son rfl rfl rfl (sv rfl (Ae ti3 rfl (.lp _ _ _ rfl) rfl) (son rfl rfl rfl (sv rfl (Aa Hz rfl) (son rfl rfl rfl (sv rfl (Aa Pp rfl) (son rfl rfl rfl (sv rfl (Ae ti3 rfl (.lp _ _ _ rfl) rfl) (son rfl rfl rfl (sv rfl (Bt rfl rfl) (rm 1 rfl (Al (ccI h rfl (fun h => ?_) (fun h => ?_)))))))))))))))
     ·refine csr (sv rfl (Ai B6 rfl (.lp _ _ _ rfl) (Nbl rfl)) (An E2 rfl rfl rfl rfl (Nbl rfl) (Bs [.box (el a0),.box (el a0),.box (el v1.1)] rfl (Al (Bg (Ak ?_))))))
      cases SJ h
      exact dnA rfl B6 rfl (.lp _ _ _ rfl) (Nbl rfl) rfl rfl
     ·refine Bi (Ac ?_)
      exact ⟨(),_,h,⟨rfl,rfl,rfl,rfl,trivial⟩,rfl⟩
  replace h := Bq (decide_eq_false hq3) h
  by_cases hq7 : a0.Phase = 3
  ·replace h := Br (decide_eq_true hq7) h
   refine Xw 18 (y := .s (.one (Ii6 a0.Phase))) (.s (.one (Ii6 3))) rfl (congrArg (fun n => AV.s (.one (Ii6 n))) hq7) ?_
   obtain ⟨v8,hv8,h⟩ := Ag h
   refine Da (x' := .s (.one (.raw (.func (.func 100) #[] #[])))) (M' := [.box (el a0),.box Zba,.box (el v1.1)]) [] rfl Aof (.func _) (Ab rfl Af) (Sp hv8) rfl rfl (by decide) rfl rfl rfl ?_
   refine rm 1 rfl (Al (Bp (Bp (Jk (Unit) (fun b9 => [(2,.s (.one (.lp 0 0))),(4,.s (.one (.lp 1 0))),(5,.s (.one (.lp 2 0))),(7,.s (.one (.raw (.func (.func 100) #[] #[]))))]) (fun b9 => [.box (el a0),.box Zba,.box (el v1.1)]) (fun b9 => G9 a0 v1 b9 = some r) (fun _ _ => A6 rfl) (fun _ _ => Ar rfl) (fun _ _ => Nbl rfl) (fun b9 h => ?_) ?_))))
   ·unfold G9 at h
    refine csr (rm 1 rfl (sv rfl (Ai B6 rfl (.lp _ _ _ rfl) (Nbl rfl)) (sv rfl (Ai Ady rfl (.lp _ _ _ rfl) (Nbl rfl)) ?_)))
    obtain ⟨v10,hv10,h⟩ := Ag h
    refine sd rfl (Px Ax2 (.raw _ _ rfl) (Ab rfl (Ab rfl Af)) rfl (Pv hv10)) (An E2 rfl rfl rfl rfl (Nbl rfl) (Bs [.box (el a0),.box (el v10),.box (el v1.1)] rfl (Al (Bg ?_))))
    cases SJ h
    exact dnA rfl B6 rfl (.lp _ _ _ rfl) (Nbl rfl) rfl rfl
   ·skip
    refine Az (rm 1 rfl (sv rfl (Kl Tryz.underlying159 rfl) (rm 1 rfl (son rfl rfl rfl (sv rfl (Aa Rq rfl) (son rfl rfl rfl (sv rfl (Ae ti3 rfl (.lp _ _ _ rfl) rfl) (son rfl rfl rfl (sv rfl (Aa Hz rfl) (son rfl rfl rfl (sv rfl (Aa Qm rfl) (son rfl rfl rfl (sv rfl (Ae ti3 rfl (.lp _ _ _ rfl) rfl) (son rfl rfl rfl (sv rfl (Bt rfl rfl) (rm 2 rfl (Bf 30 rfl (fun hc => ?_) (fun hc => ?_))))))))))))))))))
    ·replace h := Br hc h
     clear hc
     refine rm 7 rfl (Al (Ei rfl (fun _ => ?_) (fun hx => Bool.noConfusion hx)))
     refine csr (sv rfl (Ai B6 rfl (.lp _ _ _ rfl) (Nbl rfl)) (An E2 rfl rfl rfl rfl (Nbl rfl) (Bs [.box (el a0),.box (el a0),.box (el v1.1)] rfl (Al (Bg (Ak ?_))))))
     cases SJ h
     exact dnA rfl B6 rfl (.lp _ _ _ rfl) (Nbl rfl) rfl rfl
    ·replace h := Bq hc h
     clear hc
     refine son rfl rfl rfl (sv rfl (Aa Tm rfl) (son rfl rfl rfl (sv rfl (Ae ti3 rfl (.lp _ _ _ rfl) rfl) (son rfl rfl rfl (sv rfl (Aa Hz rfl) (son rfl rfl rfl (sv rfl (Aa Pp rfl) (son rfl rfl rfl (sv rfl (Ae ti3 rfl (.lp _ _ _ rfl) rfl) (son rfl rfl rfl (sv rfl (Bt rfl rfl) (rm 1 rfl (Al (ccI h rfl (fun h => ?_) (fun h => ?_)))))))))))))))
     ·refine csr (sv rfl (Ai B6 rfl (.lp _ _ _ rfl) (Nbl rfl)) (An E2 rfl rfl rfl rfl (Nbl rfl) (Bs [.box (el a0),.box (el a0),.box (el v1.1)] rfl (Al (Bg (Ak ?_))))))
      cases SJ h
      exact dnA rfl B6 rfl (.lp _ _ _ rfl) (Nbl rfl) rfl rfl
     ·refine Bi (Ac ?_)
      exact ⟨(),_,h,⟨rfl,rfl,rfl,rfl,trivial⟩,rfl⟩
  replace h := Bq (decide_eq_false hq7) h
  by_cases hq11 : a0.Phase = 4
  ·replace h := Br (decide_eq_true hq11) h
   refine Xw 18 (y := .s (.one (Ii6 a0.Phase))) (.s (.one (Ii6 4))) rfl (congrArg (fun n => AV.s (.one (Ii6 n))) hq11) ?_
   obtain ⟨v12,hv12,h⟩ := Ag h
   refine Da (x' := .s (.one (.raw (.func (.func 101) #[] #[])))) (M' := [.box (el a0),.box Zba,.box (el v1.1)]) [] rfl Aof (.func _) (Ab rfl Af) (Sk hv12) rfl rfl (by decide) rfl rfl rfl ?_
   refine rm 1 rfl (Al (Bp (Bp (Jk (Unit) (fun b13 => [(2,.s (.one (.lp 0 0))),(4,.s (.one (.lp 1 0))),(5,.s (.one (.lp 2 0))),(7,.s (.one (.raw (.func (.func 101) #[] #[]))))]) (fun b13 => [.box (el a0),.box Zba,.box (el v1.1)]) (fun b13 => Gs a0 v1 b13 = some r) (fun _ _ => A6 rfl) (fun _ _ => Ar rfl) (fun _ _ => Nbl rfl) (fun b13 h => ?_) ?_))))
   ·unfold Gs at h
    refine csr (rm 1 rfl (sv rfl (Ai B6 rfl (.lp _ _ _ rfl) (Nbl rfl)) (sv rfl (Ai Ady rfl (.lp _ _ _ rfl) (Nbl rfl)) ?_)))
    obtain ⟨v14,hv14,h⟩ := Ag h
    refine sd rfl (Px Av7 (.raw _ _ rfl) (Ab rfl (Ab rfl Af)) rfl (Ov hv14)) (An E2 rfl rfl rfl rfl (Nbl rfl) (Bs [.box (el a0),.box (el v14),.box (el v1.1)] rfl (Al (Bg ?_))))
    cases SJ h
    exact dnA rfl B6 rfl (.lp _ _ _ rfl) (Nbl rfl) rfl rfl
   ·skip
    refine Az (rm 1 rfl (sv rfl (Kl Tryz.underlying159 rfl) (rm 1 rfl (son rfl rfl rfl (sv rfl (Aa Rq rfl) (son rfl rfl rfl (sv rfl (Ae ti3 rfl (.lp _ _ _ rfl) rfl) (son rfl rfl rfl (sv rfl (Aa Hz rfl) (son rfl rfl rfl (sv rfl (Aa Qm rfl) (son rfl rfl rfl (sv rfl (Ae ti3 rfl (.lp _ _ _ rfl) rfl) (son rfl rfl rfl (sv rfl (Bt rfl rfl) (rm 2 rfl (Bf 30 rfl (fun hc => ?_) (fun hc => ?_))))))))))))))))))
    ·replace h := Br hc h
     clear hc
     refine rm 7 rfl (Al (Ei rfl (fun _ => ?_) (fun hx => Bool.noConfusion hx)))
     refine csr (sv rfl (Ai B6 rfl (.lp _ _ _ rfl) (Nbl rfl)) (An E2 rfl rfl rfl rfl (Nbl rfl) (Bs [.box (el a0),.box (el a0),.box (el v1.1)] rfl (Al (Bg (Ak ?_))))))
     cases SJ h
     exact dnA rfl B6 rfl (.lp _ _ _ rfl) (Nbl rfl) rfl rfl
    ·replace h := Bq hc h
     clear hc
     refine son rfl rfl rfl (sv rfl (Aa Tm rfl) (son rfl rfl rfl (sv rfl (Ae ti3 rfl (.lp _ _ _ rfl) rfl) (son rfl rfl rfl (sv rfl (Aa Hz rfl) (son rfl rfl rfl (sv rfl (Aa Pp rfl) (son rfl rfl rfl (sv rfl (Ae ti3 rfl (.lp _ _ _ rfl) rfl) (son rfl rfl rfl (sv rfl (Bt rfl rfl) (rm 1 rfl (Al (ccI h rfl (fun h => ?_) (fun h => ?_)))))))))))))))
     ·refine csr (sv rfl (Ai B6 rfl (.lp _ _ _ rfl) (Nbl rfl)) (An E2 rfl rfl rfl rfl (Nbl rfl) (Bs [.box (el a0),.box (el a0),.box (el v1.1)] rfl (Al (Bg (Ak ?_))))))
      cases SJ h
      exact dnA rfl B6 rfl (.lp _ _ _ rfl) (Nbl rfl) rfl rfl
     ·refine Bi (Ac ?_)
      exact ⟨(),_,h,⟨rfl,rfl,rfl,rfl,trivial⟩,rfl⟩
  replace h := Bq (decide_eq_false hq11) h
  by_cases hq15 : a0.Phase = 5
  ·replace h := Br (decide_eq_true hq15) h
   refine Xw 18 (y := .s (.one (Ii6 a0.Phase))) (.s (.one (Ii6 5))) rfl (congrArg (fun n => AV.s (.one (Ii6 n))) hq15) ?_
   obtain ⟨v16,hv16,h⟩ := Ag h
   refine Da (x' := .s (.one (.raw (.func (.func 102) #[] #[])))) (M' := [.box (el a0),.box Zba,.box (el v1.1)]) [] rfl Aof (.func _) (Ab rfl Af) (Sr hv16) rfl rfl (by decide) rfl rfl rfl ?_
   refine rm 1 rfl (Al (Bp (Bp (Jk (Unit) (fun b17 => [(2,.s (.one (.lp 0 0))),(4,.s (.one (.lp 1 0))),(5,.s (.one (.lp 2 0))),(7,.s (.one (.raw (.func (.func 102) #[] #[]))))]) (fun b17 => [.box (el a0),.box Zba,.box (el v1.1)]) (fun b17 => Gp a0 v1 b17 = some r) (fun _ _ => A6 rfl) (fun _ _ => Ar rfl) (fun _ _ => Nbl rfl) (fun b17 h => ?_) ?_))))
   ·unfold Gp at h
    refine csr (rm 1 rfl (sv rfl (Ai B6 rfl (.lp _ _ _ rfl) (Nbl rfl)) (sv rfl (Ai Ady rfl (.lp _ _ _ rfl) (Nbl rfl)) ?_)))
    obtain ⟨v18,hv18,h⟩ := Ag h
    refine sd rfl (Px Axl (.raw _ _ rfl) (Ab rfl (Ab rfl Af)) rfl (P0 hv18)) (An E2 rfl rfl rfl rfl (Nbl rfl) (Bs [.box (el a0),.box (el v18),.box (el v1.1)] rfl (Al (Bg ?_))))
    cases SJ h
    exact dnA rfl B6 rfl (.lp _ _ _ rfl) (Nbl rfl) rfl rfl
   ·skip
    refine Az (rm 1 rfl (sv rfl (Kl Tryz.underlying159 rfl) (rm 1 rfl (son rfl rfl rfl (sv rfl (Aa Rq rfl) (son rfl rfl rfl (sv rfl (Ae ti3 rfl (.lp _ _ _ rfl) rfl) (son rfl rfl rfl (sv rfl (Aa Hz rfl) (son rfl rfl rfl (sv rfl (Aa Qm rfl) (son rfl rfl rfl (sv rfl (Ae ti3 rfl (.lp _ _ _ rfl) rfl) (son rfl rfl rfl (sv rfl (Bt rfl rfl) (rm 2 rfl (Bf 30 rfl (fun hc => ?_) (fun hc => ?_))))))))))))))))))
    ·replace h := Br hc h
     clear hc
     refine rm 7 rfl (Al (Ei rfl (fun _ => ?_) (fun hx => Bool.noConfusion hx)))
     refine csr (sv rfl (Ai B6 rfl (.lp _ _ _ rfl) (Nbl rfl)) (An E2 rfl rfl rfl rfl (Nbl rfl) (Bs [.box (el a0),.box (el a0),.box (el v1.1)] rfl (Al (Bg (Ak ?_))))))
     cases SJ h
     exact dnA rfl B6 rfl (.lp _ _ _ rfl) (Nbl rfl) rfl rfl
    ·replace h := Bq hc h
     clear hc
     refine son rfl rfl rfl (sv rfl (Aa Tm rfl) (son rfl rfl rfl (sv rfl (Ae ti3 rfl (.lp _ _ _ rfl) rfl) (son rfl rfl rfl (sv rfl (Aa Hz rfl) (son rfl rfl rfl (sv rfl (Aa Pp rfl) (son rfl rfl rfl (sv rfl (Ae ti3 rfl (.lp _ _ _ rfl) rfl) (son rfl rfl rfl (sv rfl (Bt rfl rfl) (rm 1 rfl (Al (ccI h rfl (fun h => ?_) (fun h => ?_)))))))))))))))
     ·refine csr (sv rfl (Ai B6 rfl (.lp _ _ _ rfl) (Nbl rfl)) (An E2 rfl rfl rfl rfl (Nbl rfl) (Bs [.box (el a0),.box (el a0),.box (el v1.1)] rfl (Al (Bg (Ak ?_))))))
      cases SJ h
      exact dnA rfl B6 rfl (.lp _ _ _ rfl) (Nbl rfl) rfl rfl
     ·refine Bi (Ac ?_)
      exact ⟨(),_,h,⟨rfl,rfl,rfl,rfl,trivial⟩,rfl⟩
  replace h := Bq (decide_eq_false hq15) h
  by_cases hq19 : a0.Phase = 6
  ·replace h := Br (decide_eq_true hq19) h
   refine Xw 18 (y := .s (.one (Ii6 a0.Phase))) (.s (.one (Ii6 6))) rfl (congrArg (fun n => AV.s (.one (Ii6 n))) hq19) ?_
   obtain ⟨v20,hv20,h⟩ := Ag h
   refine Da (x' := .s (.one (.raw (.func (.func 103) #[] #[])))) (M' := [.box (el a0),.box Zba,.box (el v1.1)]) [] rfl Aof (.func _) (Ab rfl Af) (Sn hv20) rfl rfl (by decide) rfl rfl rfl ?_
   refine rm 1 rfl (Al (Bp (Bp (Jk (Unit) (fun b21 => [(2,.s (.one (.lp 0 0))),(4,.s (.one (.lp 1 0))),(5,.s (.one (.lp 2 0))),(7,.s (.one (.raw (.func (.func 103) #[] #[]))))]) (fun b21 => [.box (el a0),.box Zba,.box (el v1.1)]) (fun b21 => Gn a0 v1 b21 = some r) (fun _ _ => A6 rfl) (fun _ _ => Ar rfl) (fun _ _ => Nbl rfl) (fun b21 h => ?_) ?_))))
   ·unfold Gn at h
    refine csr (rm 1 rfl (sv rfl (Ai B6 rfl (.lp _ _ _ rfl) (Nbl rfl)) (sv rfl (Ai Ady rfl (.lp _ _ _ rfl) (Nbl rfl)) ?_)))
    obtain ⟨v22,hv22,h⟩ := Ag h
    refine sd rfl (Px Aw4 (.raw _ _ rfl) (Ab rfl (Ab rfl Af)) rfl (Qg hv22)) (An E2 rfl rfl rfl rfl (Nbl rfl) (Bs [.box (el a0),.box (el v22),.box (el v1.1)] rfl (Al (Bg ?_))))
    cases SJ h
    exact dnA rfl B6 rfl (.lp _ _ _ rfl) (Nbl rfl) rfl rfl
   ·skip
    refine Az (rm 1 rfl (sv rfl (Kl Tryz.underlying159 rfl) (rm 1 rfl (son rfl rfl rfl (sv rfl (Aa Rq rfl) (son rfl rfl rfl (sv rfl (Ae ti3 rfl (.lp _ _ _ rfl) rfl) (son rfl rfl rfl (sv rfl (Aa Hz rfl) (son rfl rfl rfl (sv rfl (Aa Qm rfl) (son rfl rfl rfl (sv rfl (Ae ti3 rfl (.lp _ _ _ rfl) rfl) (son rfl rfl rfl (sv rfl (Bt rfl rfl) (rm 2 rfl (Bf 30 rfl (fun hc => ?_) (fun hc => ?_))))))))))))))))))
    ·replace h := Br hc h
     clear hc
     refine rm 7 rfl (Al (Ei rfl (fun _ => ?_) (fun hx => Bool.noConfusion hx)))
     refine csr (sv rfl (Ai B6 rfl (.lp _ _ _ rfl) (Nbl rfl)) (An E2 rfl rfl rfl rfl (Nbl rfl) (Bs [.box (el a0),.box (el a0),.box (el v1.1)] rfl (Al (Bg (Ak ?_))))))
     cases SJ h
     exact dnA rfl B6 rfl (.lp _ _ _ rfl) (Nbl rfl) rfl rfl
    ·replace h := Bq hc h
     clear hc
     refine son rfl rfl rfl (sv rfl (Aa Tm rfl) (son rfl rfl rfl (sv rfl (Ae ti3 rfl (.lp _ _ _ rfl) rfl) (son rfl rfl rfl (sv rfl (Aa Hz rfl) (son rfl rfl rfl (sv rfl (Aa Pp rfl) (son rfl rfl rfl (sv rfl (Ae ti3 rfl (.lp _ _ _ rfl) rfl) (son rfl rfl rfl (sv rfl (Bt rfl rfl) (rm 1 rfl (Al (ccI h rfl (fun h => ?_) (fun h => ?_)))))))))))))))
     ·refine csr (sv rfl (Ai B6 rfl (.lp _ _ _ rfl) (Nbl rfl)) (An E2 rfl rfl rfl rfl (Nbl rfl) (Bs [.box (el a0),.box (el a0),.box (el v1.1)] rfl (Al (Bg (Ak ?_))))))
      cases SJ h
      exact dnA rfl B6 rfl (.lp _ _ _ rfl) (Nbl rfl) rfl rfl
     ·refine Bi (Ac ?_)
      exact ⟨(),_,h,⟨rfl,rfl,rfl,rfl,trivial⟩,rfl⟩
  replace h := Bq (decide_eq_false hq19) h
  by_cases hq23 : a0.Phase = 7
  ·replace h := Br (decide_eq_true hq23) h
   refine Xw 18 (y := .s (.one (Ii6 a0.Phase))) (.s (.one (Ii6 7))) rfl (congrArg (fun n => AV.s (.one (Ii6 n))) hq23) ?_
   obtain ⟨v24,hv24,h⟩ := Ag h
   refine Da (x' := .s (.one (.raw (.func (.func 104) #[] #[])))) (M' := [.box (el a0),.box Zba,.box (el v1.1)]) [] rfl Aof (.func _) (Ab rfl Af) (Sm hv24) rfl rfl (by decide) rfl rfl rfl ?_
   refine rm 1 rfl (Al (Bp (Bp (Jk (Unit) (fun b25 => [(2,.s (.one (.lp 0 0))),(4,.s (.one (.lp 1 0))),(5,.s (.one (.lp 2 0))),(7,.s (.one (.raw (.func (.func 104) #[] #[]))))]) (fun b25 => [.box (el a0),.box Zba,.box (el v1.1)]) (fun b25 => Gr a0 v1 b25 = some r) (fun _ _ => A6 rfl) (fun _ _ => Ar rfl) (fun _ _ => Nbl rfl) (fun b25 h => ?_) ?_))))
   ·unfold Gr at h
    refine csr (rm 1 rfl (sv rfl (Ai B6 rfl (.lp _ _ _ rfl) (Nbl rfl)) (sv rfl (Ai Ady rfl (.lp _ _ _ rfl) (Nbl rfl)) ?_)))
    obtain ⟨v26,hv26,h⟩ := Ag h
    refine sd rfl (Px Ax3 (.raw _ _ rfl) (Ab rfl (Ab rfl Af)) rfl (Qe hv26)) (An E2 rfl rfl rfl rfl (Nbl rfl) (Bs [.box (el a0),.box (el v26),.box (el v1.1)] rfl (Al (Bg ?_))))
    cases SJ h
    exact dnA rfl B6 rfl (.lp _ _ _ rfl) (Nbl rfl) rfl rfl
   ·skip
    refine Az (rm 1 rfl (sv rfl (Kl Tryz.underlying159 rfl) (rm 1 rfl (son rfl rfl rfl (sv rfl (Aa Rq rfl) (son rfl rfl rfl (sv rfl (Ae ti3 rfl (.lp _ _ _ rfl) rfl) (son rfl rfl rfl (sv rfl (Aa Hz rfl) (son rfl rfl rfl (sv rfl (Aa Qm rfl) (son rfl rfl rfl (sv rfl (Ae ti3 rfl (.lp _ _ _ rfl) rfl) (son rfl rfl rfl (sv rfl (Bt rfl rfl) (rm 2 rfl (Bf 30 rfl (fun hc => ?_) (fun hc => ?_))))))))))))))))))
    ·replace h := Br hc h
     clear hc
     refine rm 7 rfl (Al (Ei rfl (fun _ => ?_) (fun hx => Bool.noConfusion hx)))
     refine csr (sv rfl (Ai B6 rfl (.lp _ _ _ rfl) (Nbl rfl)) (An E2 rfl rfl rfl rfl (Nbl rfl) (Bs [.box (el a0),.box (el a0),.box (el v1.1)] rfl (Al (Bg (Ak ?_))))))
     cases SJ h
     exact dnA rfl B6 rfl (.lp _ _ _ rfl) (Nbl rfl) rfl rfl
    ·replace h := Bq hc h
     clear hc
     refine son rfl rfl rfl (sv rfl (Aa Tm rfl) (son rfl rfl rfl (sv rfl (Ae ti3 rfl (.lp _ _ _ rfl) rfl) (son rfl rfl rfl (sv rfl (Aa Hz rfl) (son rfl rfl rfl (sv rfl (Aa Pp rfl) (son rfl rfl rfl (sv rfl (Ae ti3 rfl (.lp _ _ _ rfl) rfl) (son rfl rfl rfl (sv rfl (Bt rfl rfl) (rm 1 rfl (Al (ccI h rfl (fun h => ?_) (fun h => ?_)))))))))))))))
     ·refine csr (sv rfl (Ai B6 rfl (.lp _ _ _ rfl) (Nbl rfl)) (An E2 rfl rfl rfl rfl (Nbl rfl) (Bs [.box (el a0),.box (el a0),.box (el v1.1)] rfl (Al (Bg (Ak ?_))))))
      cases SJ h
      exact dnA rfl B6 rfl (.lp _ _ _ rfl) (Nbl rfl) rfl rfl
     ·refine Bi (Ac ?_)
      exact ⟨(),_,h,⟨rfl,rfl,rfl,rfl,trivial⟩,rfl⟩
  replace h := Bq (decide_eq_false hq23) h
  by_cases hq27 : a0.Phase = 9
  ·replace h := Br (decide_eq_true hq27) h
   refine Xw 18 (y := .s (.one (Ii6 a0.Phase))) (.s (.one (Ii6 9))) rfl (congrArg (fun n => AV.s (.one (Ii6 n))) hq27) ?_
   obtain ⟨v28,hv28,h⟩ := Ag h
   refine Da (x' := .s (.one (.raw (.func (.func 105) #[] #[])))) (M' := [.box (el a0),.box Zba,.box (el v1.1)]) [] rfl Aof (.func _) (Ab rfl Af) (Sl hv28) rfl rfl (by decide) rfl rfl rfl ?_
   refine rm 1 rfl (Al (Bp (Bp (Jk (Unit) (fun b29 => [(2,.s (.one (.lp 0 0))),(4,.s (.one (.lp 1 0))),(5,.s (.one (.lp 2 0))),(7,.s (.one (.raw (.func (.func 105) #[] #[]))))]) (fun b29 => [.box (el a0),.box Zba,.box (el v1.1)]) (fun b29 => Gq a0 v1 b29 = some r) (fun _ _ => A6 rfl) (fun _ _ => Ar rfl) (fun _ _ => Nbl rfl) (fun b29 h => ?_) ?_))))
   ·unfold Gq at h
    refine csr (rm 1 rfl (sv rfl (Ai B6 rfl (.lp _ _ _ rfl) (Nbl rfl)) (sv rfl (Ai Ady rfl (.lp _ _ _ rfl) (Nbl rfl)) ?_)))
    obtain ⟨v30,hv30,h⟩ := Ag h
    refine sd rfl (Px Ax5 (.raw _ _ rfl) (Ab rfl (Ab rfl Af)) rfl (P8 hv30)) (An E2 rfl rfl rfl rfl (Nbl rfl) (Bs [.box (el a0),.box (el v30),.box (el v1.1)] rfl (Al (Bg ?_))))
    cases SJ h
    exact dnA rfl B6 rfl (.lp _ _ _ rfl) (Nbl rfl) rfl rfl
   ·skip
    refine Az (rm 1 rfl (sv rfl (Kl Tryz.underlying159 rfl) (rm 1 rfl (son rfl rfl rfl (sv rfl (Aa Rq rfl) (son rfl rfl rfl (sv rfl (Ae ti3 rfl (.lp _ _ _ rfl) rfl) (son rfl rfl rfl (sv rfl (Aa Hz rfl) (son rfl rfl rfl (sv rfl (Aa Qm rfl) (son rfl rfl rfl (sv rfl (Ae ti3 rfl (.lp _ _ _ rfl) rfl) (son rfl rfl rfl (sv rfl (Bt rfl rfl) (rm 2 rfl (Bf 30 rfl (fun hc => ?_) (fun hc => ?_))))))))))))))))))
    ·replace h := Br hc h
     clear hc
     refine rm 7 rfl (Al (Ei rfl (fun _ => ?_) (fun hx => Bool.noConfusion hx)))
     refine csr (sv rfl (Ai B6 rfl (.lp _ _ _ rfl) (Nbl rfl)) (An E2 rfl rfl rfl rfl (Nbl rfl) (Bs [.box (el a0),.box (el a0),.box (el v1.1)] rfl (Al (Bg (Ak ?_))))))
     cases SJ h
     exact dnA rfl B6 rfl (.lp _ _ _ rfl) (Nbl rfl) rfl rfl
    ·replace h := Bq hc h
     clear hc
     refine son rfl rfl rfl (sv rfl (Aa Tm rfl) (son rfl rfl rfl (sv rfl (Ae ti3 rfl (.lp _ _ _ rfl) rfl) (son rfl rfl rfl (sv rfl (Aa Hz rfl) (son rfl rfl rfl (sv rfl (Aa Pp rfl) (son rfl rfl rfl (sv rfl (Ae ti3 rfl (.lp _ _ _ rfl) rfl) (son rfl rfl rfl (sv rfl (Bt rfl rfl) (rm 1 rfl (Al (ccI h rfl (fun h => ?_) (fun h => ?_)))))))))))))))
     ·refine csr (sv rfl (Ai B6 rfl (.lp _ _ _ rfl) (Nbl rfl)) (An E2 rfl rfl rfl rfl (Nbl rfl) (Bs [.box (el a0),.box (el a0),.box (el v1.1)] rfl (Al (Bg (Ak ?_))))))
      cases SJ h
      exact dnA rfl B6 rfl (.lp _ _ _ rfl) (Nbl rfl) rfl rfl
     ·refine Bi (Ac ?_)
      exact ⟨(),_,h,⟨rfl,rfl,rfl,rfl,trivial⟩,rfl⟩
  replace h := Bq (decide_eq_false hq27) h
  obtain ⟨v31,hv31,h⟩ := Ag h
  refine Da (x' := .s (.one Nfu)) (M' := [.box (el a0),.box Zba,.box (el v1.1)]) [] rfl Aof (.func _) (Ab rfl Af) (Sq hv31) rfl rfl (by decide) rfl rfl rfl ?_
  refine rm 1 rfl (Al (Bp (csr (rm 1 rfl (sv rfl (Aff Tryz.underlying159 rfl) (rm 16 rfl (Al (Ei rfl (fun _ => ?_) (fun hx => Bool.noConfusion hx)))))))))
  refine csr (sv rfl (Ai B6 rfl (.lp _ _ _ rfl) (Nbl rfl)) (An E2 rfl rfl rfl rfl (Nbl rfl) (Bs [.box (el a0),.box (el a0),.box (el v1.1)] rfl (Al (Bg (Ak ?_))))))
  cases SJ h
  exact dnA rfl B6 rfl (.lp _ _ _ rfl) (Nbl rfl) rfl rfl
def Lg (v3 : A0 × (List (List UInt8)) × Int) (b4 : Ad) : Option Ad :=
 if (!decide (v3.2.2 = 0)) then ((F7 b4.Phase).bind fun v5 => if (!v5) then ((Cy b4).bind fun v6 => some v6) else (some b4)) else (some b4)
def E0 (v3 : A0 × (List (List UInt8)) × Int) (s7 : Int × Ad) : Option (LB (Int × Ad) (Ad)) :=
 if (decide (s7.1 < (v3.2.1.length : Int))) then ((idx v3.2.1 s7.1).bind fun u8 => (F7 s7.2.Phase).bind fun v9 => if (!v9) then ((Gu s7.2 u8).bind fun v10 => some (.cont ((wI (s7.1 + 1)),v10))) else (some (.cont ((wI (s7.1 + 1)),s7.2)))) else (some (.brk s7.2))
def F4 (a0 : Ad) (a1 : List UInt8) : Option Ad :=
 (E9 a0).bind fun v1 => if (!v1) then (some C4) else ((F7 a0.Phase).bind fun v2 => if v2 then (some a0) else ((Ek a0.In a1).bind fun v3 => (Ec (E0 v3) fuel (0,{a0 with In := v3.1})).bind fun e11 => Lg v3 e11))
theorem J3 {a0 : Ad} {a1 : List UInt8} {r : Ad} (h : F4 a0 a1 = some r) : Bl Tryz.prog 18 [.agg (el a0),.one (.sl a1.length (a1.flatMap eU8))] (· = .s (.agg (el r))) := by
 unfold F4 at h
 refine Au Tryz.func18 rfl (nt := 53) rfl (Nbl rfl) ?_
 intro w0 S0
 refine csr (Ih rfl rfl (Bw rfl O1 (Al (Bp (csr (sv rfl (Ai B6 rfl (.lp _ _ _ rfl) (Nbl rfl)) ?_))))))
 obtain ⟨v1,hv1,h⟩ := Ag h
 refine Av rfl Ar4 (Ab rfl Af) (Ao rfl) (Ie hv1) (sv rfl (B5 rfl) (Al (ccI h rfl (fun h => ?_) (fun h => ?_))))
 ·refine csr (sv rfl (Be O1 Agj Ay (.nil _)) (An E2 rfl rfl rfl rfl (Nbl rfl) (Bs [.box (el a0),.box Zba] rfl (Al (Bg (Ak ?_))))))
  cases SJ h
  refine ⟨Or.inr rfl,_,_,_,(Aj (Cu.agg _ _ _ _ _ B6 rfl (.lp _ _ _ rfl) (Nbl rfl)) As),(O4 rfl),?_⟩
  rfl
 ·refine Bi (Ac (Bp (csr (sv rfl (Aa G8 rfl) (sv rfl (Ae ti3 rfl (.lp _ _ _ rfl) rfl) ?_)))))
  obtain ⟨v2,hv2,h⟩ := Ag h
  refine Av rfl Auj (Ab rfl Af) (Ao rfl) (Ju hv2) (Al (ccI h rfl (fun h => ?_) (fun h => ?_)))
  ·refine csr (sv rfl (Ai B6 rfl (.lp _ _ _ rfl) (Nbl rfl)) (An E2 rfl rfl rfl rfl (Nbl rfl) (Bs [.box (el a0),.box (el a0)] rfl (Al (Bg (Ak ?_))))))
   cases SJ h
   exact dnA rfl B6 rfl (.lp _ _ _ rfl) (Nbl rfl) rfl rfl
  ·refine Bi (Ac (csr (sv rfl (Aa Tf rfl) (sv rfl (Ai Alt rfl (.lp _ _ _ rfl) (Nbl rfl)) (sv rfl (Bc rfl) ?_)))))
   obtain ⟨v3,hv3,h⟩ := Ag h
   refine Av rfl A0z (Ab rfl (Ab rfl Af)) (Ao rfl) (Wu hv3) (sv rfl (Gc rfl) (sv rfl (A4 rfl rfl) (sv rfl (A4 rfl rfl) (sv rfl (A4 rfl rfl) (Bw rfl Ar1 (An Ap5 rfl rfl rfl rfl (Nbl rfl) (Bs [.box (el a0),.box Zba,.box (el v3.1)] rfl (rm 2 rfl (Al (csr (sv rfl (Ai Alt rfl (.lp _ _ _ rfl) (Nbl rfl)) (sv rfl (Aa Tf rfl) (An Ap5 rfl rfl rfl rfl (Nbl rfl) (Bs [.box (el {a0 with In := v3.1}),.box Zba,.box (el v3.1)] rfl (Al (Bp (csr (rm 1 rfl (sv rfl (Aq Aht rfl) (rm 1 rfl (Al (Gg (Ad) (fun b4 => [(2,.s (.one (.lp 0 0))),(4,.s (.one (.lp 1 0))),(7,.s (.one (Ii6 v3.2.2)))]) (fun b4 => [.box (el b4),.box Zba,.box (el v3.1)]) (fun b4 => Lg v3 b4 = some r) (fun _ _ => A6 rfl) (fun _ _ => Ar rfl) (fun _ _ => Nbl rfl) (fun b4 h => ?_) ?_))))))))))))))))))))))
   ·unfold Lg at h
    refine Bp (csr (rm 1 rfl (sv rfl (Bt rfl rfl) (rm 1 rfl (Bf 44 rfl (fun hc => ?_) (fun hc => ?_))))))
    ·replace h := Br hc h
     clear hc
     refine son rfl rfl rfl (sv rfl (Aa G8 rfl) (son rfl rfl rfl (sv rfl (Ae ti3 rfl (.lp _ _ _ rfl) rfl) (son rfl rfl rfl ?_))))
     obtain ⟨v5,hv5,h⟩ := Ag h
     refine Av rfl Auj (Ab rfl Af) (Ao rfl) (Ju hv5) (son rfl rfl rfl (sv rfl (B5 rfl) (rm 1 rfl (Al (ccI h rfl (fun h => ?_) (fun h => ?_))))))
     ·refine Az (sv rfl (Ai B6 rfl (.lp _ _ _ rfl) (Nbl rfl)) ?_)
      obtain ⟨v6,hv6,h⟩ := Ag h
      refine Av rfl Asg (Ab rfl Af) (Ao rfl) (Fy hv6) (An E2 rfl rfl rfl rfl (Nbl rfl) (Bs [.box (el v6),.box Zba,.box (el v3.1)] rfl (Al (csr (sv rfl (Ai B6 rfl (.lp _ _ _ rfl) (Nbl rfl)) (An E2 rfl rfl rfl rfl (Nbl rfl) (Bs [.box (el v6),.box (el v6),.box (el v3.1)] rfl (Al (Bg ?_)))))))))
      cases SJ h
      exact dnA rfl B6 rfl (.lp _ _ _ rfl) (Nbl rfl) rfl rfl
     ·refine Bi (Ac (csr (sv rfl (Ai B6 rfl (.lp _ _ _ rfl) (Nbl rfl)) (An E2 rfl rfl rfl rfl (Nbl rfl) (Bs [.box (el b4),.box (el b4),.box (el v3.1)] rfl (Al (Bg ?_)))))))
      cases SJ h
      exact dnA rfl B6 rfl (.lp _ _ _ rfl) (Nbl rfl) rfl rfl
    ·replace h := Bq hc h
     clear hc
     refine rm 5 rfl (Al (Ei rfl (fun hx => Bool.noConfusion hx) (fun _ => ?_)))
     refine Bi (Ac (csr (sv rfl (Ai B6 rfl (.lp _ _ _ rfl) (Nbl rfl)) (An E2 rfl rfl rfl rfl (Nbl rfl) (Bs [.box (el b4),.box (el b4),.box (el v3.1)] rfl (Al (Bg ?_)))))))
     cases SJ h
     exact dnA rfl B6 rfl (.lp _ _ _ rfl) (Nbl rfl) rfl rfl
   ·skip
    refine B3 ?_
    obtain ⟨x7,hx7,ho7⟩ := Ag h
    refine Ct (G := Nat × (Int × Ad)) (fun g => [(2,.s (.one (.lp 0 0))),(4,.s (.one (.lp 1 0))),(7,.s (.one (Ii6 v3.2.2))),(28,.s (.one (.sl v3.2.1.length (v3.2.1.flatMap (eL eU8))))),(29,.s (.one (Ii6 (v3.2.1.length : Int)))),(30,.s (.one (Ii6 g.2.1)))]) (fun g => [.box (el g.2.2),.box Zba,.box (el v3.1)]) (fun g => Ec (E0 v3) g.1 g.2 = some x7) (fun g => g.1) (fuel,(0,{a0 with In := v3.1})) hx7 ⟨rfl,rfl,rfl,rfl,rfl,rfl,trivial⟩ [] rfl (fun _ _ => A6 rfl) (fun _ _ => Ar rfl) (fun _ _ => Nbl rfl) ?_
    clear hx7 h
    rintro ⟨n7,s7⟩ h
    obtain ⟨n7,y7,rfl,h,hk7⟩ := Fj h
    unfold E0 at h
    refine csr (sv rfl (Ci rfl rfl) (Al (Bp (ccI h rfl (fun h => ?_) (fun h => ?_)))))
    ·refine Bi (Ac (Bp (B3 (Bp (Az ?_)))))
     obtain ⟨u8,hu8,h⟩ := Ag h
     refine sv rfl (Db (f := (eL eU8)) Aht (fun _ => rfl) rfl rfl rfl rfl hu8) ?_
     refine sv rfl (Ae I9 rfl (.cp _) rfl) (rm 1 rfl (Al (csr (sv rfl (Aa G8 rfl) (sv rfl (Ae ti3 rfl (.lp _ _ _ rfl) rfl) ?_)))))
     obtain ⟨v9,hv9,h⟩ := Ag h
     refine Av rfl Auj (Ab rfl Af) (Ao rfl) (Ju hv9) (sv rfl (B5 rfl) (Al (ccI h rfl (fun h => ?_) (fun h => ?_))))
     ·refine Az (sv rfl (Ai B6 rfl (.lp _ _ _ rfl) (Nbl rfl)) (sv rfl (Bc rfl) ?_))
      obtain ⟨v10,hv10,h⟩ := Ag h
      refine Av rfl Az3 (Ab rfl (Ab rfl Af)) (Ao rfl) (Ra hv10) (An E2 rfl rfl rfl rfl (Nbl rfl) (Bs [.box (el v10),.box Zba,.box (el v3.1)] rfl (Mp (Aw (Ac (Az (sv rfl (B4 rfl rfl) (rm 1 rfl (Al ?_)))))))))
      cases SJ h
      exact ⟨(n7,((wI (s7.1 + 1)),v10)),_,hk7,⟨rfl,rfl,rfl,rfl,rfl,rfl,trivial⟩,rfl,Nat.lt_succ_self _⟩
     ·refine Bi (Aw (Ac (Az (sv rfl (B4 rfl rfl) (rm 1 rfl (Al ?_))))))
      cases SJ h
      exact ⟨(n7,((wI (s7.1 + 1)),s7.2)),_,hk7,⟨rfl,rfl,rfl,rfl,rfl,rfl,trivial⟩,rfl,Nat.lt_succ_self _⟩
    ·refine Kk (Bd (Bd (B8 (Ac ?_))))
     cases SJ h
     obtain rfl : _ = x7 := hk7
     exact ⟨s7.2,_,ho7,⟨rfl,rfl,rfl,trivial⟩,rfl⟩
def P1 (v2 : Ad × Int) (v3 : Ad × Int) (v4 : Ad × Int) (b5 : Ad) : Option Bool :=
 if (decide (v2.2 = 0)) then (if (decide (v3.2 = 0)) then (if (decide (v4.2 = 0)) then (if (decide ((b5.Done.length : Int) = 1)) then ((idx b5.Done 0).bind fun u6 => if (decide (u6.Code = 1)) then ((idx b5.Done 0).bind fun u7 => if (decide (u7.Ts = 5)) then (if (decide (b5.Phase = 9)) then (some (decide ((b5.Tried.length : Int) = 1))) else (some false)) else (some false)) else (some false)) else (some false)) else (some false)) else (some false)) else (some false)
def Pt (s8 : Int × Ad) : Option (LB (Int × Ad) (Ad)) :=
 if (decide (s8.1 < 4)) then ((Gi s8.2 (Ij.mk 0 0 0 5 false ([] : List UInt8) ([] : List Dk))).bind fun v9 => (F4 s8.2 v9).bind fun v10 => some (.cont ((wI (s8.1 + 1)),v10))) else (some (.brk s8.2))
def Qk  : Option Bool :=
 (O3).bind fun v1 => (Mj v1).bind fun v2 => (Ew v2.1).bind fun v3 => (D1 v3.1 (Am.mk 9 (Cv.mk false [(B9.mk 2 0 0 0 [(UInt8.ofBitVec (107#8))] Bu)]))).bind fun v4 => (Ec Pt fuel (0,v4.1)).bind fun e11 => P1 v2 v3 v4 e11
theorem Zx  {r : Bool} (h : Qk = some r) : Bl Tryz.prog 7 [] (· = .s (.one (.b r))) := by
 unfold Qk at h
 refine Au Tryz.func7 rfl (nt := 79) rfl (Nbl rfl) ?_
 intro w0 S0
 refine csr (rm 1 rfl (Al (Bp (Az ?_))))
 obtain ⟨v1,hv1,h⟩ := Ag h
 refine Av rfl Ay3 Af (Ao rfl) (Ul hv1) ?_
 obtain ⟨v2,hv2,h⟩ := Ag h
 refine Av rfl fn9 (Ab rfl Af) (Ao rfl) (Tu hv2) (sv rfl (Gc rfl) (sv rfl (A4 rfl rfl) (sv rfl (A4 rfl rfl) (Bw rfl O1 (An E2 rfl rfl rfl rfl (Nbl rfl) (Bs [.box (el v2.1)] rfl (rm 1 rfl (Al (csr (sv rfl (Ai B6 rfl (.lp _ _ _ rfl) (Nbl rfl)) ?_))))))))))
 obtain ⟨v3,hv3,h⟩ := Ag h
 refine Av rfl Ayq (Ab rfl Af) (Ao rfl) (N6 hv3) (sv rfl (Gc rfl) (sv rfl (A4 rfl rfl) (sv rfl (A4 rfl rfl) (An E2 rfl rfl rfl rfl (Nbl rfl) (Bs [.box (el v3.1)] rfl (rm 1 rfl (Al (csr (sv rfl (Ai B6 rfl (.lp _ _ _ rfl) (Nbl rfl)) ?_)))))))))
 refine O9 rfl Tryz.underlying33 ei5 rfl rfl (List.all_eq_true.1 rfl) (by decide) ?_
 refine Bs [.box (el v3.1),.arr 5 1 0 ([(UInt8.ofBitVec (107#8))].flatMap eU8)] rfl ?_
 refine Am0 rfl Tryz.underlying33 Tryz.underlying5 rfl rfl (A7 (f := eU8) (fun _ => rfl) [(UInt8.ofBitVec (107#8))]).symm (by decide) ?_
 refine sv rfl (Be Ar0 Ayf (Ah rfl (Ah rfl Ay)) (.cons _ _ _ _ _ _ _ rfl rfl (Nbl rfl) (.cons _ _ _ _ _ _ _ rfl rfl (Nbl rfl) (.nil _)))) ?_
 refine Ab7 20 rfl (by (repeat' first | exact Kf.nil _ | apply Kf.cons | apply Ke.one | apply Ke.agg | exact Em.nil | exact Em.id _ rfl | exact Dv.nil _ | apply Dv.cons)) ?_
 refine O9 rfl Tryz.underlying90 Axs rfl rfl (List.all_eq_true.1 rfl) (by decide) ?_
 refine Bs [.box (el v3.1),.dead,.arr 89 8 0 ([(B9.mk 2 0 0 0 [(UInt8.ofBitVec (107#8))] Bu)].flatMap Ce)] rfl (sv rfl (Be Ave Ay5 (Ah rfl Ay) (.cons _ _ _ _ _ _ _ rfl rfl (Nbl rfl) (.nil _))) (sv rfl (Be Asb Ayn (Ah rfl (Ah rfl Ay)) (.cons _ _ _ _ _ _ _ rfl rfl (Nbl rfl) (.cons _ _ _ _ _ _ _ rfl rfl (Nbl rfl) (.nil _)))) ?_))
 refine Ab7 23 rfl (by (repeat' first | exact Kf.nil _ | apply Kf.cons | apply Ke.one | apply Ke.agg | exact Em.nil | exact Em.ls _ _ _ _ _ _ rfl (A7 (f := Ce) (fun _ => rfl) ([(B9.mk 2 0 0 0 [(UInt8.ofBitVec (107#8))] Bu)] : List B9)).symm | exact Em.ls _ _ _ _ _ _ rfl (A7 (f := Ce) (fun _ => rfl) _).symm | exact Em.id _ rfl | exact Dv.nil _ | apply Dv.cons)) ?_
 obtain ⟨v4,hv4,h⟩ := Ag h
 refine Av rfl Azd (Ab rfl (Ab rfl Af)) (Ao rfl) (Qd hv4) (sv rfl (Gc rfl) (sv rfl (A4 rfl rfl) (sv rfl (A4 rfl rfl) (An E2 rfl rfl rfl rfl (Nbl rfl) (Bs [.box (el v4.1),.dead,.arr 89 8 ([(B9.mk 2 0 0 0 [(UInt8.ofBitVec (107#8))] Bu)].flatMap Ce).length ([(B9.mk 2 0 0 0 [(UInt8.ofBitVec (107#8))] Bu)].flatMap Ce)] rfl (rm 1 rfl (Al (Bp (csr (rm 1 rfl (Al (Gg (Ad) (fun b5 => [(1,.s (.one (.lp 0 0))),(2,.s (.one (Ii6 v2.2))),(3,.s (.one (Ii6 v3.2))),(4,.s (.one (Ii6 v4.2)))]) (fun b5 => [.box (el b5),.dead,.arr 89 8 ([(B9.mk 2 0 0 0 [(UInt8.ofBitVec (107#8))] Bu)].flatMap Ce).length ([(B9.mk 2 0 0 0 [(UInt8.ofBitVec (107#8))] Bu)].flatMap Ce)]) (fun b5 => P1 v2 v3 v4 b5 = some r) (fun _ _ => A6 rfl) (fun _ _ => Ar rfl) (fun _ _ => Nbl rfl) (fun b5 h => ?_) ?_))))))))))))
 ·unfold P1 at h
  refine csr (rm 1 rfl (sv rfl (Bn rfl rfl) (rm 1 rfl (Bf 38 rfl (fun hc => ?_) (fun hc => ?_)))))
  ·replace h := Br hc h
   clear hc
   refine rm 1 rfl (son rfl rfl rfl (sv rfl (Bn rfl rfl) (rm 2 rfl (Bf 42 rfl (fun hc => ?_) (fun hc => ?_)))))
   ·replace h := Br hc h
    clear hc
    refine rm 1 rfl (son rfl rfl rfl (sv rfl (Bn rfl rfl) (rm 2 rfl (Bf 46 rfl (fun hc => ?_) (fun hc => ?_)))))
    ·replace h := Br hc h
     clear hc
     refine son rfl rfl rfl (sv rfl (Aa Va rfl) (son rfl rfl rfl (sv rfl (Ae Aph rfl (.lp _ _ _ rfl) rfl) (son rfl rfl rfl (sv rfl (Aq Ah8 rfl) (son rfl rfl rfl (sv rfl (Bn rfl rfl) (rm 2 rfl (Bf 52 rfl (fun hc => ?_) (fun hc => ?_))))))))))
     ·replace h := Br hc h
      clear hc
      refine son rfl rfl rfl (sv rfl (Aa Va rfl) (son rfl rfl rfl (sv rfl (Ae Aph rfl (.lp _ _ _ rfl) rfl) (son rfl rfl rfl ?_))))
      obtain ⟨u6,hu6,h⟩ := Ag h
      refine sv rfl (Db (f := A3) Ah8 (fun _ => rfl) rfl rfl rfl rfl hu6) ?_
      refine son rfl rfl rfl (sv rfl (Bj Aon rfl) (son rfl rfl rfl (sv rfl (Ae ti3 rfl (.cp _) rfl) (son rfl rfl rfl (sv rfl (Bn rfl rfl) (rm 2 rfl (Bf 60 rfl (fun hc => ?_) (fun hc => ?_))))))))
      ·replace h := Br hc h
       clear hc
       refine son rfl rfl rfl (sv rfl (Aa Va rfl) (son rfl rfl rfl (sv rfl (Ae Aph rfl (.lp _ _ _ rfl) rfl) (son rfl rfl rfl ?_))))
       obtain ⟨u7,hu7,h⟩ := Ag h
       refine sv rfl (Db (f := A3) Ah8 (fun _ => rfl) rfl rfl rfl rfl hu7) ?_
       refine son rfl rfl rfl (sv rfl (Bj Aoq rfl) (son rfl rfl rfl (sv rfl (Ae ti3 rfl (.cp _) rfl) (son rfl rfl rfl (sv rfl (Bn rfl rfl) (rm 2 rfl (Bf 68 rfl (fun hc => ?_) (fun hc => ?_))))))))
       ·replace h := Br hc h
        clear hc
        refine son rfl rfl rfl (sv rfl (Aa G8 rfl) (son rfl rfl rfl (sv rfl (Ae ti3 rfl (.lp _ _ _ rfl) rfl) (son rfl rfl rfl (sv rfl (Bn rfl rfl) (rm 2 rfl (Bf 73 rfl (fun hc => ?_) (fun hc => ?_))))))))
        ·replace h := Br hc h
         clear hc
         refine son rfl rfl rfl (sv rfl (Aa Yb rfl) (son rfl rfl rfl (sv rfl (Ae Ar5 rfl (.lp _ _ _ rfl) rfl) (son rfl rfl rfl (sv rfl (Aq Alz rfl) (son rfl rfl rfl (sv rfl (Bn rfl rfl) (rm 2 rfl (Al (Bg ?_))))))))))
         cases SJ h
         exact dnT rfl rfl rfl rfl
        ·replace h := Bq hc h
         clear hc
         refine rm 6 rfl (Al (Bg ?_))
         cases SJ h
         exact dnT rfl rfl rfl rfl
       ·replace h := Bq hc h
        clear hc
        refine rm 11 rfl (Al (Bg ?_))
        cases SJ h
        exact dnT rfl rfl rfl rfl
      ·replace h := Bq hc h
       clear hc
       refine rm 19 rfl (Al (Bg ?_))
       cases SJ h
       exact dnT rfl rfl rfl rfl
     ·replace h := Bq hc h
      clear hc
      refine rm 27 rfl (Al (Bg ?_))
      cases SJ h
      exact dnT rfl rfl rfl rfl
    ·replace h := Bq hc h
     clear hc
     refine rm 33 rfl (Al (Bg ?_))
     cases SJ h
     exact dnT rfl rfl rfl rfl
   ·replace h := Bq hc h
    clear hc
    refine rm 37 rfl (Al (Bg ?_))
    cases SJ h
    exact dnT rfl rfl rfl rfl
  ·replace h := Bq hc h
   clear hc
   refine rm 41 rfl (Al (Bg ?_))
   cases SJ h
   exact dnT rfl rfl rfl rfl
 ·skip
  refine B3 ?_
  obtain ⟨x8,hx8,ho8⟩ := Ag h
  refine Ct (G := Nat × (Int × Ad)) (fun g => [(1,.s (.one (.lp 0 0))),(2,.s (.one (Ii6 v2.2))),(3,.s (.one (Ii6 v3.2))),(4,.s (.one (Ii6 v4.2))),(5,.s (.one (Ii6 g.2.1)))]) (fun g => [.box (el g.2.2),.dead,.arr 89 8 ([(B9.mk 2 0 0 0 [(UInt8.ofBitVec (107#8))] Bu)].flatMap Ce).length ([(B9.mk 2 0 0 0 [(UInt8.ofBitVec (107#8))] Bu)].flatMap Ce)]) (fun g => Ec Pt g.1 g.2 = some x8) (fun g => g.1) (fuel,(0,v4.1)) hx8 ⟨rfl,rfl,rfl,rfl,rfl,trivial⟩ [] rfl (fun _ _ => A6 rfl) (fun _ _ => Ar rfl) (fun _ _ => Nbl rfl) ?_
  clear hx8 h
  rintro ⟨n8,s8⟩ h
  obtain ⟨n8,y8,rfl,h,hk8⟩ := Fj h
  unfold Pt at h
  refine Bp (csr (rm 1 rfl (sv rfl (Ci rfl rfl) (Al (ccI h rfl (fun h => ?_) (fun h => ?_))))))
  ·refine Bi (Ac (Bp (B3 ?_)))
   obtain ⟨v9,hv9,h⟩ := Ag h
   obtain ⟨v10,hv10,h⟩ := Ag h
   refine Jj [5] [0,0,0,6,15,31] [[.box (el s8.2),.dead,.arr 89 8 ([(B9.mk 2 0 0 0 [(UInt8.ofBitVec (107#8))] Bu)].flatMap Ce).length ([(B9.mk 2 0 0 0 [(UInt8.ofBitVec (107#8))] Bu)].flatMap Ce)],[.box (el v10),.dead,.arr 89 8 ([(B9.mk 2 0 0 0 [(UInt8.ofBitVec (107#8))] Bu)].flatMap Ce).length ([(B9.mk 2 0 0 0 [(UInt8.ofBitVec (107#8))] Bu)].flatMap Ce)]] (by kernel_rfl) Kd (by kernel_rfl) (by decide) rfl rfl rfl rfl ?_
   refine ev (Bb 0 rfl rfl) rfl rfl (Ai B6 rfl (.lp _ _ _ rfl) (Nbl rfl)) (ev (Bb 0 rfl rfl) rfl rfl (Ai B6 rfl (.lp _ _ _ rfl) (Nbl rfl)) (ev (Bb 0 rfl rfl) rfl rfl (Be Az8 A09 (Ah rfl Ay) (.cons _ _ _ _ _ _ _ rfl rfl (Nbl rfl) (.nil _))) (ed (Bb 0 rfl rfl) rfl rfl (Vr Ayo (Ab rfl (Ab rfl Af)) rfl (Qj hv9)) (ed (Bb 0 rfl rfl) rfl rfl (Cm Aue (Ab rfl (Ab rfl Af)) rfl (J3 hv10)) (ee0 0 rfl rfl rfl rfl (fun ζ => ?_) ?_)))))
   ·refine An E2 rfl rfl rfl rfl (Nbl rfl) (Bs [.box (el v10),.dead,.arr 89 8 ([(B9.mk 2 0 0 0 [(UInt8.ofBitVec (107#8))] Bu)].flatMap Ce).length ([(B9.mk 2 0 0 0 [(UInt8.ofBitVec (107#8))] Bu)].flatMap Ce)] rfl ?_)
    exact Sv
   refine Z1 (Aw (Ac (Az (rm 1 rfl (sv rfl (B4 rfl rfl) (rm 1 rfl (Al ?_)))))))
   cases SJ h
   exact ⟨(n8,((wI (s8.1 + 1)),v10)),_,hk8,⟨rfl,rfl,rfl,rfl,rfl,trivial⟩,rfl,Nat.lt_succ_self _⟩
  ·refine Kk (Bd (Bd (B8 (Ac ?_))))
   cases SJ h
   obtain rfl : _ = x8 := hk8
   exact ⟨s8.2,_,ho8,⟨rfl,rfl,rfl,rfl,trivial⟩,rfl⟩
def Ks (a0 : B2) : Option Bool :=
 if (decide ((a0.Lo.length : Int) ≤ 100)) then (some (decide ((a0.Hi.length : Int) ≤ 100))) else (some false)
theorem Yy {a0 : B2} {r : Bool} (h : Ks a0 = some r) : Bl Tryz.prog 57 [.agg (el a0)] (· = .s (.one (.b r))) := by
 unfold Ks at h
 refine Au Tryz.func57 rfl (nt := 13) rfl (Nbl rfl) ?_
 intro w0 S0
 refine csr (Ih rfl rfl (rm 1 rfl (Al (csr (fl Rk I9 rfl rfl rfl rfl rfl rfl (sv rfl (Aq Mi rfl) (sv rfl (Gm rfl rfl) (rm 1 rfl (Bf 7 rfl (fun hc => ?_) (fun hc => ?_))))))))))
 ·replace h := Br hc h
  clear hc
  refine son rfl rfl rfl (sv rfl (Aa Pw rfl) (son rfl rfl rfl (sv rfl (Ae I9 rfl (.lp _ _ _ rfl) rfl) (son rfl rfl rfl (sv rfl (Aq Mi rfl) (son rfl rfl rfl (sv rfl (Gm rfl rfl) (rm 2 rfl (Al (Bg ?_))))))))))
  cases SJ h
  exact dnT rfl rfl rfl rfl
 ·replace h := Bq hc h
  clear hc
  refine rm 6 rfl (Al (Bg ?_))
  cases SJ h
  exact dnT rfl rfl rfl rfl
def Qt (b1 : Unit) : Option Bool :=
 some true
def K6 (a0 : Cp) (s2 : Int) : Option (LR (Int) (Unit) (Bool)) :=
 if (decide (s2 < (a0.Ops.length : Int))) then ((idx a0.Ops s2).bind fun u3 => if (decide (50 < (u3.Key.length : Int))) then (some (.ret false)) else ((idx a0.Ops s2).bind fun u4 => (Ks u4.Rng).bind fun v5 => if (!v5) then (some (.ret false)) else (some (.cont (wI (s2 + 1)))))) else (some (.brk ()))
def M9 (a0 : Cp) : Option Bool :=
 if (decide (40 < (a0.Ops.length : Int))) then (some false) else ((Qx (K6 a0) fuel 0).bind fun x => match x with | .inl r => some r | .inr e6 => Qt e6)
theorem Ab3 {a0 : Cp} {r : Bool} (h : M9 a0 = some r) : Bl Tryz.prog 23 [.agg (el a0)] (· = .s (.one (.b r))) := by
 unfold M9 at h
 refine Au Tryz.func23 rfl (nt := 33) rfl (Nbl rfl) ?_
 intro w0 S0
 refine csr (Ih rfl rfl (rm 1 rfl (Al (Bp (csr (fl Rm Ah7 rfl rfl rfl rfl rfl rfl (sv rfl (Aq Akx rfl) (sv rfl (Dr rfl rfl) (Al (ccI h rfl (fun h => ?_) (fun h => ?_)))))))))))
 ·refine csr (rm 1 rfl (Al (Bg (Ak ?_))))
  cases SJ h
  exact dnT rfl rfl rfl rfl
 ·refine Bi (Ac (Bp (csr (rm 1 rfl (Al (Gg (Unit) (fun b1 => []) (fun b1 => [.box (el a0)]) (fun b1 => Qt b1 = some r) (fun _ _ => A6 rfl) (fun _ _ => Ar rfl) (fun _ _ => Nbl rfl) (fun b1 h => ?_) ?_))))))
  ·unfold Qt at h
   refine csr (rm 1 rfl (Al (Bg ?_)))
   cases SJ h
   exact dnT rfl rfl rfl rfl
  ·skip
   refine B3 ?_
   obtain ⟨x2,hx2,ho2⟩ := Ag h
   refine Ct (G := Nat × (Int)) (fun g => [(1,.s (.one (.lp 0 0))),(3,.s (.one (Ii6 g.2)))]) (fun g => [.box (el a0)]) (fun g => Qx (K6 a0) g.1 g.2 = some x2) (fun g => g.1) (fuel,0) hx2 ⟨rfl,rfl,trivial⟩ [] rfl (fun _ _ => A6 rfl) (fun _ _ => Ar rfl) (fun _ _ => Nbl rfl) ?_
   clear hx2 h
   rintro ⟨n2,s2⟩ h
   obtain ⟨n2,y2,rfl,h,hk2⟩ := Oa h
   unfold K6 at h
   refine Bp (csr (rm 1 rfl (fl Rm Ah7 rfl rfl rfl rfl rfl rfl (sv rfl (Aq Akx rfl) (sv rfl (Ci rfl rfl) (Al (ccI h rfl (fun h => ?_) (fun h => ?_))))))))
   ·refine Bi (Ac (Bp (B3 (csr (fl Rm Ah7 rfl rfl rfl rfl rfl rfl (sv rfl (Bc rfl) ?_))))))
    obtain ⟨u3,hu3,h⟩ := Ag h
    refine sv rfl (Db (f := Ep) Akx (fun _ => rfl) rfl rfl rfl rfl hu3) ?_
    refine sv rfl (Bj Abb rfl) (sv rfl (Ae I9 rfl (.cp _) rfl) (sv rfl (Aq Mi rfl) (sv rfl (Dr rfl rfl) (rm 1 rfl (Bf 23 rfl (fun hc => ?_) (fun hc => ?_))))))
    ·replace h := Br hc h
     clear hc
     refine rm 9 rfl (Al (Ei rfl (fun _ => ?_) (fun hx => Bool.noConfusion hx)))
     refine csr (rm 1 rfl (Al (Bg (A2 (Ak (Ak (A2 (Ak ?_))))))))
     cases SJ h
     obtain rfl : Sum.inl _ = x2 := hk2
     replace ho2 : some _ = some _ := ho2
     obtain rfl := Option.some.inj ho2
     exact dnT rfl rfl rfl rfl
    ·replace h := Bq hc h
     clear hc
     refine son rfl rfl rfl (sv rfl (Aa Rm rfl) (son rfl rfl rfl (sv rfl (Ae Ah7 rfl (.lp _ _ _ rfl) rfl) (rm 1 rfl (son rfl rfl rfl ?_)))))
     obtain ⟨u4,hu4,h⟩ := Ag h
     refine sv rfl (Db (f := Ep) Akx (fun _ => rfl) rfl rfl rfl rfl hu4) ?_
     refine son rfl rfl rfl (sv rfl (Bj Ab2 rfl) (son rfl rfl rfl (sv rfl (Cb (ys := [.sl u4.Rng.Lo.length (u4.Rng.Lo.flatMap eU8),.sl u4.Rng.Hi.length (u4.Rng.Hi.flatMap eU8),.b u4.Rng.Open]) Ahk rfl (.cp _) rfl rfl) (son rfl rfl rfl ?_))))
     obtain ⟨v5,hv5,h⟩ := Ag h
     refine Av rfl A03 (Ab rfl Af) (Ao rfl) (Yy hv5) (son rfl rfl rfl (sv rfl (B5 rfl) (rm 1 rfl (Al (ccI h rfl (fun h => ?_) (fun h => ?_))))))
     ·refine csr (rm 1 rfl (Al (Bg (A2 (Ak (Ak (A2 (Ak ?_))))))))
      cases SJ h
      obtain rfl : Sum.inl _ = x2 := hk2
      replace ho2 : some _ = some _ := ho2
      obtain rfl := Option.some.inj ho2
      exact dnT rfl rfl rfl rfl
     ·refine Bi (Aw (Ac (Az (rm 1 rfl (sv rfl (B4 rfl rfl) (rm 1 rfl (Al ?_)))))))
      cases SJ h
      exact ⟨(n2,(wI (s2 + 1))),_,hk2,⟨rfl,rfl,trivial⟩,rfl,Nat.lt_succ_self _⟩
   ·refine Kk (Bd (Bd (B8 (Ac ?_))))
    cases SJ h
    obtain rfl : _ = x2 := hk2
    exact ⟨(),_,ho2,trivial,rfl⟩
def M8 (b2 : Unit) : Option Bool :=
 some true
def G5 (a0 : Ij) (s3 : Int) : Option (LR (Int) (Unit) (Bool)) :=
 if (decide (s3 < (a0.List.length : Int))) then ((idx a0.List s3).bind fun u4 => if (decide (100 < (u4.Key.length : Int))) then (some (.ret false)) else ((idx a0.List s3).bind fun u5 => if (decide (100 < (u5.Val.length : Int))) then (some (.ret false)) else (some (.cont (wI (s3 + 1)))))) else (some (.brk ()))
def Kj (a0 : Ij) (b1 : Unit) : Option Bool :=
 (Qx (G5 a0) fuel 0).bind fun x => match x with | .inl r => some r | .inr e6 => M8 e6
def Hq (a0 : Ij) : Option Bool :=
 if (decide (100 < (a0.Val.length : Int))) then (some false) else (if (decide (20 < (a0.List.length : Int))) then (some false) else (Kj a0 ()))
theorem Wa {a0 : Ij} {r : Bool} (h : Hq a0 = some r) : Bl Tryz.prog 24 [.agg (el a0)] (· = .s (.one (.b r))) := by
 unfold Hq at h
 refine Au Tryz.func24 rfl (nt := 39) rfl (Nbl rfl) ?_
 intro w0 S0
 refine csr (Ih rfl rfl (rm 1 rfl (Al (Bp (Bp (Jk (Unit) (fun b1 => [(1,.s (.one (.lp 0 0)))]) (fun b1 => [.box (el a0)]) (fun b1 => Kj a0 b1 = some r) (fun _ _ => A6 rfl) (fun _ _ => Ar rfl) (fun _ _ => Nbl rfl) (fun b1 h => ?_) ?_))))))
 ·unfold Kj at h
  refine Bp (csr (rm 1 rfl (Al (Gg (Unit) (fun b2 => []) (fun b2 => [.box (el a0)]) (fun b2 => M8 b2 = some r) (fun _ _ => A6 rfl) (fun _ _ => Ar rfl) (fun _ _ => Nbl rfl) (fun b2 h => ?_) ?_))))
  ·unfold M8 at h
   refine csr (rm 1 rfl (Al (Bg ?_)))
   cases SJ h
   exact dnT rfl rfl rfl rfl
  ·skip
   refine B3 ?_
   obtain ⟨x3,hx3,ho3⟩ := Ag h
   refine Ct (G := Nat × (Int)) (fun g => [(1,.s (.one (.lp 0 0))),(3,.s (.one (Ii6 g.2)))]) (fun g => [.box (el a0)]) (fun g => Qx (G5 a0) g.1 g.2 = some x3) (fun g => g.1) (fuel,0) hx3 ⟨rfl,rfl,trivial⟩ [] rfl (fun _ _ => A6 rfl) (fun _ _ => Ar rfl) (fun _ _ => Nbl rfl) ?_
   clear hx3 h
   rintro ⟨n3,s3⟩ h
   obtain ⟨n3,y3,rfl,h,hk3⟩ := Oa h
   unfold G5 at h
   refine Bp (csr (rm 1 rfl (fl Aad Ag8 rfl rfl rfl rfl rfl rfl (sv rfl (Aq Afv rfl) (sv rfl (Ci rfl rfl) (Al (ccI h rfl (fun h => ?_) (fun h => ?_))))))))
   ·refine Bi (Ac (Bp (B3 (csr (fl Aad Ag8 rfl rfl rfl rfl rfl rfl (sv rfl (Bc rfl) ?_))))))
    obtain ⟨u4,hu4,h⟩ := Ag h
    refine sv rfl (Db (f := Dw) Afv (fun _ => rfl) rfl rfl rfl rfl hu4) ?_
    refine sv rfl (Bj Ae2 rfl) (sv rfl (Ae I9 rfl (.cp _) rfl) (sv rfl (Aq Mi rfl) (sv rfl (Dr rfl rfl) (rm 1 rfl (Bf 29 rfl (fun hc => ?_) (fun hc => ?_))))))
    ·replace h := Br hc h
     clear hc
     refine rm 9 rfl (Al (Ei rfl (fun _ => ?_) (fun hx => Bool.noConfusion hx)))
     refine csr (rm 1 rfl (Al (Bg (A2 (Ak (Ak (A2 (Ak ?_))))))))
     cases SJ h
     obtain rfl : Sum.inl _ = x3 := hk3
     replace ho3 : some _ = some _ := ho3
     obtain rfl := Option.some.inj ho3
     exact dnT rfl rfl rfl rfl
    ·replace h := Bq hc h
     clear hc
     refine son rfl rfl rfl (sv rfl (Aa Aad rfl) (son rfl rfl rfl (sv rfl (Ae Ag8 rfl (.lp _ _ _ rfl) rfl) (rm 1 rfl (son rfl rfl rfl ?_)))))
     obtain ⟨u5,hu5,h⟩ := Ag h
     refine sv rfl (Db (f := Dw) Afv (fun _ => rfl) rfl rfl rfl rfl hu5) ?_
     refine son rfl rfl rfl (sv rfl (Bj Abl rfl) (son rfl rfl rfl (sv rfl (Ae I9 rfl (.cp _) rfl) (son rfl rfl rfl (sv rfl (Aq Mi rfl) (son rfl rfl rfl (sv rfl (Dr rfl rfl) (rm 1 rfl (Al (ccI h rfl (fun h => ?_) (fun h => ?_)))))))))))
     ·refine csr (rm 1 rfl (Al (Bg (A2 (Ak (Ak (A2 (Ak ?_))))))))
      cases SJ h
      obtain rfl : Sum.inl _ = x3 := hk3
      replace ho3 : some _ = some _ := ho3
      obtain rfl := Option.some.inj ho3
      exact dnT rfl rfl rfl rfl
     ·refine Bi (Aw (Ac (Az (rm 1 rfl (sv rfl (B4 rfl rfl) (rm 1 rfl (Al ?_)))))))
      cases SJ h
      exact ⟨(n3,(wI (s3 + 1))),_,hk3,⟨rfl,rfl,trivial⟩,rfl,Nat.lt_succ_self _⟩
   ·refine Kk (Bd (Bd (B8 (Ac ?_))))
    cases SJ h
    obtain rfl : _ = x3 := hk3
    exact ⟨(),_,ho3,trivial,rfl⟩
 ·skip
  refine Az (fl Aiu I9 rfl rfl rfl rfl rfl rfl (sv rfl (Aq Mi rfl) (sv rfl (Dr rfl rfl) (rm 1 rfl (Bf 8 rfl (fun hc => ?_) (fun hc => ?_))))))
  ·replace h := Br hc h
   clear hc
   refine rm 5 rfl (Al (Ei rfl (fun _ => ?_) (fun hx => Bool.noConfusion hx)))
   refine csr (rm 1 rfl (Al (Bg (Ak ?_))))
   cases SJ h
   exact dnT rfl rfl rfl rfl
  ·replace h := Bq hc h
   clear hc
   refine son rfl rfl rfl (sv rfl (Aa Aad rfl) (son rfl rfl rfl (sv rfl (Ae Ag8 rfl (.lp _ _ _ rfl) rfl) (son rfl rfl rfl (sv rfl (Aq Afv rfl) (son rfl rfl rfl (sv rfl (Dr rfl rfl) (rm 1 rfl (Al (ccI h rfl (fun h => ?_) (fun h => ?_)))))))))))
   ·refine csr (rm 1 rfl (Al (Bg (Ak ?_))))
    cases SJ h
    exact dnT rfl rfl rfl rfl
   ·refine Bi (Ac ?_)
    exact ⟨(),_,h,⟨rfl,trivial⟩,rfl⟩
def Pr (b1 : Unit) : Option Bool :=
 some true
def Js (a0 : List G3) (s2 : Int) : Option (LR (Int) (Unit) (Bool)) :=
 if (decide (s2 < (a0.length : Int))) then ((idx a0 s2).bind fun u3 => (M9 u3.Task.Prog).bind fun v4 => if (!v4) then (some (.ret false)) else ((idx a0 s2).bind fun u5 => (Hq u5.Reply).bind fun v6 => if (!v6) then (some (.ret false)) else ((idx a0 s2).bind fun u7 => if (decide (300 < (u7.Bytes.length : Int))) then (some (.ret false)) else (some (.cont (wI (s2 + 1))))))) else (some (.brk ()))
def Ng (a0 : List G3) : Option Bool :=
 if (decide (80 < (a0.length : Int))) then (some false) else ((Qx (Js a0) fuel 0).bind fun x => match x with | .inl r => some r | .inr e8 => Pr e8)
theorem Uo {a0 : List G3} {r : Bool} (h : Ng a0 = some r) : Bl Tryz.prog 8 [.one (.sl a0.length (a0.flatMap Lj))] (· = .s (.one (.b r))) := by
 unfold Ng at h
 refine Au Tryz.func8 rfl (nt := 39) rfl (Nbl rfl) ?_
 intro w0 S0
 refine csr (rm 1 rfl (Al (Bp (csr (rm 1 rfl (sv rfl (Aq Ap4 rfl) (sv rfl (Dr rfl rfl) (Al (ccI h rfl (fun h => ?_) (fun h => ?_))))))))))
 ·refine csr (rm 1 rfl (Al (Bg (Ak ?_))))
  cases SJ h
  exact dnT rfl rfl rfl rfl
 ·refine Bi (Ac (Bp (csr (rm 1 rfl (Al (Gg (Unit) (fun b1 => []) (fun b1 => []) (fun b1 => Pr b1 = some r) (fun _ _ => A6 rfl) (fun _ _ => Ar rfl) (fun _ _ => Nbl rfl) (fun b1 h => ?_) ?_))))))
  ·unfold Pr at h
   refine csr (rm 1 rfl (Al (Bg ?_)))
   cases SJ h
   exact dnT rfl rfl rfl rfl
  ·skip
   refine B3 ?_
   obtain ⟨x2,hx2,ho2⟩ := Ag h
   refine Ct (G := Nat × (Int)) (fun g => [(0,.s (.one (.sl a0.length (a0.flatMap Lj)))),(3,.s (.one (Ii6 g.2)))]) (fun g => []) (fun g => Qx (Js a0) g.1 g.2 = some x2) (fun g => g.1) (fuel,0) hx2 ⟨rfl,rfl,trivial⟩ [] rfl (fun _ _ => A6 rfl) (fun _ _ => Ar rfl) (fun _ _ => Nbl rfl) ?_
   clear hx2 h
   rintro ⟨n2,s2⟩ h
   obtain ⟨n2,y2,rfl,h,hk2⟩ := Oa h
   unfold Js at h
   refine Bp (csr (rm 2 rfl (sv rfl (Aq Ap4 rfl) (sv rfl (Ci rfl rfl) (Al (ccI h rfl (fun h => ?_) (fun h => ?_)))))))
   ·refine Bi (Ac (Bp (B3 (csr (rm 1 rfl (sv rfl (Bc rfl) ?_))))))
    obtain ⟨u3,hu3,h⟩ := Ag h
    refine sv rfl (Db (f := Lj) Ap4 (fun _ => rfl) rfl rfl rfl rfl hu3) ?_
    refine sv rfl (Bj Ais rfl) (sv rfl (Bj Agk rfl) (sv rfl (Cb (ys := [.b u3.Task.Prog.RO,.sl u3.Task.Prog.Ops.length (u3.Task.Prog.Ops.flatMap Ep)]) Ash rfl (.cp _) rfl rfl) ?_))
    obtain ⟨v4,hv4,h⟩ := Ag h
    refine Av rfl Azq (Ab rfl Af) (Ao rfl) (Ab3 hv4) (sv rfl (B5 rfl) (rm 1 rfl (Bf 21 rfl (fun hc => ?_) (fun hc => ?_))))
    ·replace h := Br hc h
     clear hc
     refine rm 17 rfl (Al (Ei rfl (fun _ => ?_) (fun hx => Bool.noConfusion hx)))
     refine csr (rm 1 rfl (Al (Bg (A2 (Ak (Ak (A2 (Ak ?_))))))))
     cases SJ h
     obtain rfl : Sum.inl _ = x2 := hk2
     replace ho2 : some _ = some _ := ho2
     obtain rfl := Option.some.inj ho2
     exact dnT rfl rfl rfl rfl
    ·replace h := Bq hc h
     clear hc
     refine rm 2 rfl (son rfl rfl rfl ?_)
     obtain ⟨u5,hu5,h⟩ := Ag h
     refine sv rfl (Db (f := Lj) Ap4 (fun _ => rfl) rfl rfl rfl rfl hu5) ?_
     refine son rfl rfl rfl (sv rfl (Bj Yj rfl) (son rfl rfl rfl (sv rfl (Cb (ys := [Ii6 u5.Reply.Kind,Ii6 u5.Reply.Seq,Ii6 u5.Reply.Code,Ii6 u5.Reply.N,.b u5.Reply.Found,.sl u5.Reply.Val.length (u5.Reply.Val.flatMap eU8),.sl u5.Reply.List.length (u5.Reply.List.flatMap Dw)]) Ayz rfl (.cp _) rfl rfl) (son rfl rfl rfl ?_))))
     obtain ⟨v6,hv6,h⟩ := Ag h
     refine Av rfl A07 (Ab rfl Af) (Ao rfl) (Wa hv6) (son rfl rfl rfl (sv rfl (B5 rfl) (rm 2 rfl (Bf 30 rfl (fun hc => ?_) (fun hc => ?_)))))
     ·replace h := Br hc h
      clear hc
      refine rm 8 rfl (Al (Ei rfl (fun _ => ?_) (fun hx => Bool.noConfusion hx)))
      refine csr (rm 1 rfl (Al (Bg (A2 (Ak (Ak (A2 (Ak ?_))))))))
      cases SJ h
      obtain rfl : Sum.inl _ = x2 := hk2
      replace ho2 : some _ = some _ := ho2
      obtain rfl := Option.some.inj ho2
      exact dnT rfl rfl rfl rfl
     ·replace h := Bq hc h
      clear hc
      refine rm 2 rfl (son rfl rfl rfl ?_)
      obtain ⟨u7,hu7,h⟩ := Ag h
      refine sv rfl (Db (f := Lj) Ap4 (fun _ => rfl) rfl rfl rfl rfl hu7) ?_
      refine son rfl rfl rfl (sv rfl (Bj Apm rfl) (son rfl rfl rfl (sv rfl (Ae I9 rfl (.cp _) rfl) (son rfl rfl rfl (sv rfl (Aq Mi rfl) (son rfl rfl rfl (sv rfl (Dr rfl rfl) (rm 1 rfl (Al (ccI h rfl (fun h => ?_) (fun h => ?_)))))))))))
      ·refine csr (rm 1 rfl (Al (Bg (A2 (Ak (Ak (A2 (Ak ?_))))))))
       cases SJ h
       obtain rfl : Sum.inl _ = x2 := hk2
       replace ho2 : some _ = some _ := ho2
       obtain rfl := Option.some.inj ho2
       exact dnT rfl rfl rfl rfl
      ·refine Bi (Aw (Ac (Az (rm 1 rfl (sv rfl (B4 rfl rfl) (rm 1 rfl (Al ?_)))))))
       cases SJ h
       exact ⟨(n2,(wI (s2 + 1))),_,hk2,⟨rfl,rfl,trivial⟩,rfl,Nat.lt_succ_self _⟩
   ·refine Kk (Bd (Bd (B8 (Ac ?_))))
    cases SJ h
    obtain rfl : _ = x2 := hk2
    exact ⟨(),_,ho2,trivial,rfl⟩
def Nt (a0 : Cp) (b1 : (List B9)) : Option Cv :=
 some (Cv.mk a0.RO b1)
def I6 (a0 : Cp) (s2 : Int × (List B9)) : Option (LB (Int × (List B9)) ((List B9))) :=
 if (decide (s2.1 < (a0.Ops.length : Int))) then ((idx a0.Ops s2.1).bind fun u3 => if (s2.2.length + [(B9.mk u3.What u3.A u3.B u3.N u3.Key u3.Rng)].length) * 112 ≤ 140737488355328 then (some (.cont ((wI (s2.1 + 1)),(s2.2 ++ [(B9.mk u3.What u3.A u3.B u3.N u3.Key u3.Rng)])))) else none) else (some (.brk s2.2))
def L3 (a0 : Cp) : Option Cv :=
 (Ec (I6 a0) fuel (0,([] : List B9))).bind fun e5 => Nt a0 e5
theorem Wy {a0 : Cp} {r : Cv} (h : L3 a0 = some r) : Bl Tryz.prog 26 [.agg (el a0)] (· = .s (.agg (el r))) := by
 unfold L3 at h
 refine Au Tryz.func26 rfl (nt := 40) rfl (Nbl rfl) ?_
 intro w0 S0
 refine csr (Ih rfl rfl (Bw rfl Ave (Al (csr (fl Ain ti4 rfl rfl rfl rfl rfl rfl (sv rfl (Be Ave Ay5 (Ah rfl Ay) (.cons _ _ _ _ _ _ _ rfl rfl (Nbl rfl) (.nil _))) (Bw rfl Ave (An Ayd rfl rfl rfl rfl (Nbl rfl) (Bs [.box (el a0),.box [.b false,Znl],.box [.b a0.RO,Znl]] rfl (Al (Bp (csr (rm 1 rfl (Al ?_))))))))))))))
 refine Ox 89 8 2 1 (by decide) rfl rfl ?_
 refine Gg ((List B9)) (fun b1 => [(2,.s (.one (.lp 1 0))),(3,.s (.one (.lp 2 0)))]) (fun b1 => [.box (el a0),.box [.b false,Znl],.box [.b a0.RO,.ls 3 b1.length],.arr 89 8 0 (b1.flatMap Ce)]) (fun b1 => Nt a0 b1 = some r) (fun _ _ => A6 rfl) (fun _ _ => Ar rfl) (fun _ _ => Nbl rfl) (fun b1 h => ?_) ?_
 ·unfold Nt at h
  refine csr (sv rfl (Ai Ara rfl (.lp _ _ _ rfl) (Nbl rfl)) (An Ayd rfl rfl rfl rfl (Nbl rfl) (Bs [.box (el a0),.box [.b a0.RO,.ls 3 b1.length],.box [.b a0.RO,.ls 3 b1.length],.arr 89 8 0 (b1.flatMap Ce)] rfl (Al (Bg ?_)))))
  cases SJ h
  refine ⟨Or.inr rfl,_,_,_,(Aj (Cu.agg _ _ _ _ _ Ara rfl (.lp _ _ _ rfl) (Nbl rfl)) As),(by (repeat' first | exact Kf.nil _ | apply Kf.cons | apply Ke.one | apply Ke.agg | exact Em.nil | exact Em.ls _ _ _ _ _ _ rfl (A7 (f := Ce) (fun _ => rfl) _).symm | exact Em.id _ rfl | exact Dv.nil _ | apply Dv.cons)),?_⟩
  rfl
 ·skip
  refine B3 ?_
  obtain ⟨x2,hx2,ho2⟩ := Ag h
  refine Ct (G := Nat × (Int × (List B9))) (fun g => [(1,.s (.one (.lp 0 0))),(2,.s (.one (.lp 1 0))),(3,.s (.one (.lp 2 0))),(4,.s (.one (Ii6 g.2.1)))]) (fun g => [.box (el a0),.box [.b false,Znl],.box [.b a0.RO,.ls 3 g.2.2.length],.arr 89 8 0 (g.2.2.flatMap Ce)]) (fun g => Ec (I6 a0) g.1 g.2 = some x2) (fun g => g.1) (fuel,(0,([] : List B9))) hx2 ⟨rfl,rfl,rfl,rfl,trivial⟩ [] rfl (fun _ _ => A6 rfl) (fun _ _ => Ar rfl) (fun _ _ => Nbl rfl) ?_
  clear hx2 h
  rintro ⟨n2,s2⟩ h
  obtain ⟨n2,y2,rfl,h,hk2⟩ := Fj h
  unfold I6 at h
  refine Bp (csr (rm 1 rfl (fl Rm Ah7 rfl rfl rfl rfl rfl rfl (sv rfl (Aq Akx rfl) (sv rfl (Ci rfl rfl) (Al (ccI h rfl (fun h => ?_) (fun h => ?_))))))))
  ·refine Bi (Ac (Bp (B3 (csr (fl Rm Ah7 rfl rfl rfl rfl rfl rfl (sv rfl (Bc rfl) ?_))))))
   obtain ⟨u3,hu3,h⟩ := Ag h
   refine sv rfl (Db (f := Ep) Akx (fun _ => rfl) rfl rfl rfl rfl hu3) ?_
   refine sv rfl (Cb (ys := [Ii6 u3.What,Ii6 u3.A,Ii6 u3.B,Ii6 u3.N,.sl u3.Key.length (u3.Key.flatMap eU8),.sl u3.Rng.Lo.length (u3.Rng.Lo.flatMap eU8),.sl u3.Rng.Hi.length (u3.Rng.Hi.flatMap eU8),.b u3.Rng.Open]) Ap7 rfl (.cp _) rfl rfl) (Bw rfl Al0 (An Aq5 rfl rfl rfl rfl (Nbl rfl) (Bs [.box (el a0),.box [.b false,Znl],.box [.b a0.RO,.ls 3 s2.2.length],.arr 89 8 0 (s2.2.flatMap Ce),.box (el u3)] rfl (Al (Az (fl Si Ald rfl rfl rfl rfl rfl rfl (fl Ad9 ti3 rfl rfl rfl rfl rfl rfl (fl Aed ti3 rfl rfl rfl rfl rfl rfl (fl Ad2 ti3 rfl rfl rfl rfl rfl rfl (fl Aec ti3 rfl rfl rfl rfl rfl rfl (fl Abb I9 rfl rfl rfl rfl rfl rfl (sv rfl (Aa Ab2 rfl) (sv rfl (Ai Ahk rfl (.lp _ _ _ rfl) (Nbl rfl)) (sv rfl (Be Ar0 Ayf (Ah rfl (Ah rfl (Ah rfl (Ah rfl (Ah rfl (Ah rfl Ay)))))) (Cg [Ii6 u3.What,Ii6 0,Ii6 0,Ii6 0,Znl,Znl,Znl,.b false] rfl rfl (Nbl rfl) rfl (Cg [Ii6 u3.What,Ii6 u3.A,Ii6 0,Ii6 0,Znl,Znl,Znl,.b false] rfl rfl (Nbl rfl) rfl (Cg [Ii6 u3.What,Ii6 u3.A,Ii6 u3.B,Ii6 0,Znl,Znl,Znl,.b false] rfl rfl (Nbl rfl) rfl (Cg [Ii6 u3.What,Ii6 u3.A,Ii6 u3.B,Ii6 u3.N,Znl,Znl,Znl,.b false] rfl rfl (Nbl rfl) rfl (Cg [Ii6 u3.What,Ii6 u3.A,Ii6 u3.B,Ii6 u3.N,.sl u3.Key.length (u3.Key.flatMap eU8),Znl,Znl,.b false] rfl rfl (Nbl rfl) rfl (Cg [Ii6 u3.What,Ii6 u3.A,Ii6 u3.B,Ii6 u3.N,.sl u3.Key.length (u3.Key.flatMap eU8),.sl u3.Rng.Lo.length (u3.Rng.Lo.flatMap eU8),.sl u3.Rng.Hi.length (u3.Rng.Hi.flatMap eU8),.b u3.Rng.Open] rfl rfl (Nbl rfl) rfl (.nil _)))))))) ?_))))))))))))))
   refine O9 rfl Tryz.underlying90 Axs rfl rfl (List.all_eq_true.1 rfl) (by decide) ?_
   refine Bs [.box (el a0),.box [.b false,Znl],.box [.b a0.RO,.ls 3 s2.2.length],.arr 89 8 0 (s2.2.flatMap Ce),.box (el u3),.arr 89 8 0 ([(B9.mk u3.What u3.A u3.B u3.N u3.Key u3.Rng)].flatMap Ce)] rfl ?_
   obtain ⟨hb4,h⟩ := Dx h
   refine Af4 (f := Ce) (xs := s2.2) (us := [(B9.mk u3.What u3.A u3.B u3.N u3.Key u3.Rng)]) rfl Tryz.underlying90 Axs A1i (fun _ => rfl) rfl rfl (.one _ _ _ _ (.ls _ _ _ _ _ _ rfl (A7 (f := Ce) (fun _ => rfl) [(B9.mk u3.What u3.A u3.B u3.N u3.Key u3.Rng)]).symm)) rfl rfl rfl (.sl _ _ _ (A7 (f := Ce) (fun _ => rfl) _)) rfl rfl hb4 (by decide) ?_
   refine sv rfl (Aa Si rfl) (An A0q rfl rfl rfl rfl (Nbl rfl) (Bs [.box (el a0),.box [.b false,Znl],.box [.b a0.RO,.ls 3 (s2.2 ++ [(B9.mk u3.What u3.A u3.B u3.N u3.Key u3.Rng)]).length],.arr 89 8 0 ((s2.2 ++ [(B9.mk u3.What u3.A u3.B u3.N u3.Key u3.Rng)]).flatMap Ce),.box (el u3),.arr 89 8 ([(B9.mk u3.What u3.A u3.B u3.N u3.Key u3.Rng)].flatMap Ce).length ([(B9.mk u3.What u3.A u3.B u3.N u3.Key u3.Rng)].flatMap Ce)] rfl (Mp (Aw (Ac (Az (rm 1 rfl (sv rfl (B4 rfl rfl) (rm 1 rfl (Al ?_))))))))))
   cases SJ h
   exact ⟨(n2,((wI (s2.1 + 1)),(s2.2 ++ [(B9.mk u3.What u3.A u3.B u3.N u3.Key u3.Rng)]))),_,hk2,⟨rfl,rfl,rfl,rfl,trivial⟩,rfl,Nat.lt_succ_self _⟩
  ·refine Kk (Bd (Bd (B8 (Ac ?_))))
   cases SJ h
   obtain rfl : _ = x2 := hk2
   exact ⟨s2.2,_,ho2,⟨rfl,rfl,trivial⟩,rfl⟩
def Ly (a0 : Ad) : Option Ad :=
 (E9 a0).bind fun v1 => if (!v1) then (some C4) else ((F7 a0.Phase).bind fun v2 => if v2 then (some a0) else ((Cy a0).bind fun v3 => some v3))
theorem Wt {a0 : Ad} {r : Ad} (h : Ly a0 = some r) : Bl Tryz.prog 27 [.agg (el a0)] (· = .s (.agg (el r))) := by
 unfold Ly at h
 refine Au Tryz.func27 rfl (nt := 13) rfl (Nbl rfl) ?_
 intro w0 S0
 refine csr (Ih rfl rfl (Bw rfl O1 (Al (Bp (csr (sv rfl (Ai B6 rfl (.lp _ _ _ rfl) (Nbl rfl)) ?_))))))
 obtain ⟨v1,hv1,h⟩ := Ag h
 refine Av rfl Ar4 (Ab rfl Af) (Ao rfl) (Ie hv1) (sv rfl (B5 rfl) (Al (ccI h rfl (fun h => ?_) (fun h => ?_))))
 ·refine csr (sv rfl (Be O1 Agj Ay (.nil _)) (An E2 rfl rfl rfl rfl (Nbl rfl) (Bs [.box (el a0),.box Zba] rfl (Al (Bg (Ak ?_))))))
  cases SJ h
  refine ⟨Or.inr rfl,_,_,_,(Aj (Cu.agg _ _ _ _ _ B6 rfl (.lp _ _ _ rfl) (Nbl rfl)) As),(O4 rfl),?_⟩
  rfl
 ·refine Bi (Ac (Bp (csr (sv rfl (Aa G8 rfl) (sv rfl (Ae ti3 rfl (.lp _ _ _ rfl) rfl) ?_)))))
  obtain ⟨v2,hv2,h⟩ := Ag h
  refine Av rfl Auj (Ab rfl Af) (Ao rfl) (Ju hv2) (Al (ccI h rfl (fun h => ?_) (fun h => ?_)))
  ·refine csr (sv rfl (Ai B6 rfl (.lp _ _ _ rfl) (Nbl rfl)) (An E2 rfl rfl rfl rfl (Nbl rfl) (Bs [.box (el a0),.box (el a0)] rfl (Al (Bg (Ak ?_))))))
   cases SJ h
   exact dnA rfl B6 rfl (.lp _ _ _ rfl) (Nbl rfl) rfl rfl
  ·refine Bi (Ac (csr (sv rfl (Ai B6 rfl (.lp _ _ _ rfl) (Nbl rfl)) ?_)))
   obtain ⟨v3,hv3,h⟩ := Ag h
   refine Av rfl Asg (Ab rfl Af) (Ao rfl) (Fy hv3) (An E2 rfl rfl rfl rfl (Nbl rfl) (Bs [.box (el a0),.box (el v3)] rfl (Al (Bg ?_))))
   cases SJ h
   exact dnA rfl B6 rfl (.lp _ _ _ rfl) (Nbl rfl) rfl rfl
def Eg (a0 : Ad) : Option Ad :=
 (Hg a0.Cfg.Plan (wI (a0.Sent + 1))).bind fun v1 => if (!v1.2) then ((Cy a0).bind fun v2 => some v2) else ((E6 a0).bind fun v3 => if v3 then ((Ch a0).bind fun v4 => some v4) else ((Fp ({a0 with Sent := (wI (a0.Sent + 1)),Left := v1.1})).bind fun v5 => some v5))
theorem Pb {a0 : Ad} {r : Ad} (h : Eg a0 = some r) : Bl Tryz.prog 73 [.agg (el a0)] (· = .s (.agg (el r))) := by
 unfold Eg at h
 refine Au Tryz.func73 rfl (nt := 33) rfl (Nbl rfl) ?_
 intro w0 S0
 refine csr (Ih rfl rfl (Bw rfl O1 (Al (csr (sv rfl (Aa Sd rfl) (sv rfl (Aa Ur rfl) (sv rfl (Ai Aos rfl (.lp _ _ _ rfl) (Nbl rfl)) (fl Aay ti3 rfl rfl rfl rfl rfl rfl (sv rfl (B4 rfl rfl) ?_)))))))))
 obtain ⟨v1,hv1,h⟩ := Ag h
 refine Av rfl Avc (Ab rfl (Ab rfl Af)) (Ao rfl) (Mg hv1) (sv rfl (Gc rfl) (sv rfl (A4 rfl rfl) (sv rfl (A4 rfl rfl) (rm 2 rfl (Al (Bp (B3 (csr (rm 1 rfl (sv rfl (B5 rfl) (rm 1 rfl (Al (ccI h rfl (fun h => ?_) (fun h => ?_))))))))))))))
 ·refine csr (sv rfl (Ai B6 rfl (.lp _ _ _ rfl) (Nbl rfl)) ?_)
  obtain ⟨v2,hv2,h⟩ := Ag h
  refine Av rfl Asg (Ab rfl Af) (Ao rfl) (Fy hv2) (An E2 rfl rfl rfl rfl (Nbl rfl) (Bs [.box (el a0),.box (el v2)] rfl (Al (Bg (A2 (Ak ?_))))))
  cases SJ h
  exact dnA rfl B6 rfl (.lp _ _ _ rfl) (Nbl rfl) rfl rfl
 ·refine csr (sv rfl (Ai B6 rfl (.lp _ _ _ rfl) (Nbl rfl)) ?_)
  obtain ⟨v3,hv3,h⟩ := Ag h
  refine Av rfl Azn (Ab rfl Af) (Ao rfl) (Ni hv3) (rm 1 rfl (Al (ccI h rfl (fun h => ?_) (fun h => ?_))))
  ·refine csr (sv rfl (Ai B6 rfl (.lp _ _ _ rfl) (Nbl rfl)) ?_)
   obtain ⟨v4,hv4,h⟩ := Ag h
   refine Av rfl Art (Ab rfl Af) (Ao rfl) (Dt hv4) (An E2 rfl rfl rfl rfl (Nbl rfl) (Bs [.box (el a0),.box (el v4)] rfl (Al (Bg (A2 (Ak ?_))))))
   cases SJ h
   exact dnA rfl B6 rfl (.lp _ _ _ rfl) (Nbl rfl) rfl rfl
  ·refine Bi (Aw (Ac (csr (fl Aay ti3 rfl rfl rfl rfl rfl rfl (sv rfl (B4 rfl rfl) (sv rfl (Aa Aay rfl) (An sz3 rfl rfl rfl rfl (Nbl rfl) (Bs [.box (el {a0 with Sent := wI (a0.Sent + 1)}),.box Zba] rfl (Al (csr (rm 1 rfl (sv rfl (Aa Sf rfl) (An sz3 rfl rfl rfl rfl (Nbl rfl) (Bs [.box (el {a0 with Sent := wI (a0.Sent + 1),Left := v1.1}),.box Zba] rfl (Al (csr (sv rfl (Ai B6 rfl (.lp _ _ _ rfl) (Nbl rfl)) ?_)))))))))))))))))
   obtain ⟨v5,hv5,h⟩ := Ag h
   refine Av rfl Ay9 (Ab rfl Af) (Ao rfl) (Nw hv5) (An E2 rfl rfl rfl rfl (Nbl rfl) (Bs [.box (el {a0 with Sent := wI (a0.Sent + 1),Left := v1.1}),.box (el v5)] rfl (Al (Bg ?_))))
   cases SJ h
   exact dnA rfl B6 rfl (.lp _ _ _ rfl) (Nbl rfl) rfl rfl
def Hf (a0 : Ad) : Option Ad :=
 if (decide (a0.Phase = 8)) then ((En a0).bind fun v1 => some v1) else (if (decide (a0.Phase = 10)) then ((Ej a0).bind fun v2 => some v2) else ((Eg a0).bind fun v3 => some v3))
theorem Ry {a0 : Ad} {r : Ad} (h : Hf a0 = some r) : Bl Tryz.prog 38 [.agg (el a0)] (· = .s (.agg (el r))) := by
 unfold Hf at h
 refine Au Tryz.func38 rfl (nt := 15) rfl (Nbl rfl) ?_
 intro w0 S0
 refine csr (Ih rfl rfl (Bw rfl O1 (Al (Bp (csr (fl G8 ti3 rfl rfl rfl rfl rfl rfl (Al (B3 (csr (sv rfl (Bn rfl rfl) (rm 1 rfl (Al (ccI h rfl (fun h => ?_) (fun h => ?_))))))))))))))
 ·refine csr (sv rfl (Ai B6 rfl (.lp _ _ _ rfl) (Nbl rfl)) ?_)
  obtain ⟨v1,hv1,h⟩ := Ag h
  refine Av rfl Ayp (Ab rfl Af) (Ao rfl) (M3 hv1) (An E2 rfl rfl rfl rfl (Nbl rfl) (Bs [.box (el a0),.box (el v1)] rfl (Al (Bg (A2 (Ak ?_))))))
  cases SJ h
  exact dnA rfl B6 rfl (.lp _ _ _ rfl) (Nbl rfl) rfl rfl
 ·refine csr (sv rfl (Bn rfl rfl) (rm 1 rfl (Al (ccI h rfl (fun h => ?_) (fun h => ?_)))))
  ·refine csr (sv rfl (Ai B6 rfl (.lp _ _ _ rfl) (Nbl rfl)) ?_)
   obtain ⟨v2,hv2,h⟩ := Ag h
   refine Av rfl Axi (Ab rfl Af) (Ao rfl) (Kq hv2) (An E2 rfl rfl rfl rfl (Nbl rfl) (Bs [.box (el a0),.box (el v2)] rfl (Al (Bg (A2 (Ak ?_))))))
   cases SJ h
   exact dnA rfl B6 rfl (.lp _ _ _ rfl) (Nbl rfl) rfl rfl
  ·refine Bi (Aw (Ac (csr (sv rfl (Ai B6 rfl (.lp _ _ _ rfl) (Nbl rfl)) ?_))))
   obtain ⟨v3,hv3,h⟩ := Ag h
   refine Av rfl Azt (Ab rfl Af) (Ao rfl) (Pb hv3) (An E2 rfl rfl rfl rfl (Nbl rfl) (Bs [.box (el a0),.box (el v3)] rfl (Al (Bg ?_))))
   cases SJ h
   exact dnA rfl B6 rfl (.lp _ _ _ rfl) (Nbl rfl) rfl rfl
def Ll (b3 : Ad) : Option (Ad × Int) :=
 some (b3,0)
def Lk (a0 : Ad) (a1 : Int) (b2 : Unit) : Option (Ad × Int) :=
 if (decide (a0.Left ≤ a1)) then ((Hf ({a0 with Left := (if (wI (a0.Left - a1)) > 0 then (wI (a0.Left - a1)) else 0)})).bind fun v4 => Ll v4) else (Ll ({a0 with Left := (if (wI (a0.Left - a1)) > 0 then (wI (a0.Left - a1)) else 0)}))
def Lm (a0 : Ad) (a1 : Int) (b1 : Unit) : Option (Ad × Int) :=
 if (decide (a0.Phase = 0)) then (some (a0,0)) else ((F7 a0.Phase).bind fun v5 => if v5 then (some (a0,0)) else (Lk a0 a1 ()))
def Ii (a0 : Ad) (a1 : Int) : Option (Ad × Int) :=
 (E9 a0).bind fun v6 => if (!v6) then (some (C4,1)) else ((B1 a1 0 1073741824).bind fun v7 => if (!v7) then (some (C4,1)) else (Lm a0 a1 ()))
theorem Wq {a0 : Ad} {a1 : Int} {r : Ad × Int} (h : Ii a0 a1 = some r) : Bl Tryz.prog 15 [.agg (el a0),.one (Ii6 a1)] (· = .tup [.agg (el r.1),.one (Ii6 r.2)]) := by
 unfold Ii at h
 refine Au Tryz.func15 rfl (nt := 39) rfl (Nbl rfl) ?_
 intro w0 S0
 refine csr (Ih rfl rfl (Bw rfl O1 (rm 1 rfl (Al (Bp (Bp (Jk (Unit) (fun b1 => [(1,.s (.one (Ii6 a1))),(2,.s (.one (.lp 0 0))),(4,.s (.one (.lp 1 0)))]) (fun b1 => [.box (el a0),.box Zba]) (fun b1 => Lm a0 a1 b1 = some r) (fun _ _ => A6 rfl) (fun _ _ => Ar rfl) (fun _ _ => Nbl rfl) (fun b1 h => ?_) ?_)))))))
 ·unfold Lm at h
  refine Bp (Bp (Jk (Unit) (fun b2 => [(1,.s (.one (Ii6 a1))),(2,.s (.one (.lp 0 0))),(4,.s (.one (.lp 1 0)))]) (fun b2 => [.box (el a0),.box Zba]) (fun b2 => Lk a0 a1 b2 = some r) (fun _ _ => A6 rfl) (fun _ _ => Ar rfl) (fun _ _ => Nbl rfl) (fun b2 h => ?_) ?_))
  ·unfold Lk at h
   refine csr (fl Sf ti3 rfl rfl rfl rfl rfl rfl (rm 1 rfl (sv rfl (Gm rfl rfl) (rm 1 rfl (Al (csr (fl Sf ti3 rfl rfl rfl rfl rfl rfl (rm 1 rfl (sv rfl (Om rfl rfl) (sv rfl (Ale rfl rfl) (sv rfl (Aa Sf rfl) (An sz3 rfl rfl rfl rfl (Nbl rfl) (Bs [.box (el {a0 with Left := if (wI (a0.Left - a1)) > 0 then (wI (a0.Left - a1)) else 0}),.box Zba] rfl (Al (Bp (csr (rm 1 rfl (Al (Gg (Ad) (fun b3 => [(2,.s (.one (.lp 0 0))),(4,.s (.one (.lp 1 0)))]) (fun b3 => [.box (el b3),.box Zba]) (fun b3 => Ll b3 = some r) (fun _ _ => A6 rfl) (fun _ _ => Ar rfl) (fun _ _ => Nbl rfl) (fun b3 h => ?_) ?_)))))))))))))))))))
   ·unfold Ll at h
    refine csr (sv rfl (Ai B6 rfl (.lp _ _ _ rfl) (Nbl rfl)) (An E2 rfl rfl rfl rfl (Nbl rfl) (Bs [.box (el b3),.box (el b3)] rfl (rm 1 rfl (Al (Bg ?_))))))
    cases SJ h
    refine ⟨Or.inr rfl,_,_,_,(Aj (Cu.agg _ _ _ _ _ B6 rfl (.lp _ _ _ rfl) (Nbl rfl)) (Aj (Cu.tmp _ _ rfl) As)),(Ao rfl),?_⟩
    rfl
   ·skip
    refine ccI h rfl (fun h => ?_) (fun h => ?_)
    ·refine Az (sv rfl (Ai B6 rfl (.lp _ _ _ rfl) (Nbl rfl)) ?_)
     obtain ⟨v4,hv4,h⟩ := Ag h
     refine Av rfl A1p (Ab rfl Af) (Ao rfl) (Ry hv4) (An E2 rfl rfl rfl rfl (Nbl rfl) (Bs [.box (el v4),.box Zba] rfl (Al ?_)))
     exact ⟨v4,_,h,⟨rfl,rfl,trivial⟩,rfl⟩
    ·refine Bi (Ac ?_)
     exact ⟨{a0 with Left := (if (wI (a0.Left - a1)) > 0 then (wI (a0.Left - a1)) else 0)},_,h,⟨rfl,rfl,trivial⟩,rfl⟩
  ·skip
   refine Az (fl G8 ti3 rfl rfl rfl rfl rfl rfl (sv rfl (Bn rfl rfl) (rm 1 rfl (Bf 19 rfl (fun hc => ?_) (fun hc => ?_)))))
   ·replace h := Br hc h
    clear hc
    refine rm 4 rfl (Al (Ei rfl (fun _ => ?_) (fun hx => Bool.noConfusion hx)))
    refine csr (sv rfl (Ai B6 rfl (.lp _ _ _ rfl) (Nbl rfl)) (An E2 rfl rfl rfl rfl (Nbl rfl) (Bs [.box (el a0),.box (el a0)] rfl (rm 1 rfl (Al (Bg (Ak ?_)))))))
    cases SJ h
    refine ⟨Or.inr rfl,_,_,_,(Aj (Cu.agg _ _ _ _ _ B6 rfl (.lp _ _ _ rfl) (Nbl rfl)) (Aj (Cu.tmp _ _ rfl) As)),(Ao rfl),?_⟩
    rfl
   ·replace h := Bq hc h
    clear hc
    refine son rfl rfl rfl (sv rfl (Aa G8 rfl) (son rfl rfl rfl (sv rfl (Ae ti3 rfl (.lp _ _ _ rfl) rfl) (son rfl rfl rfl ?_))))
    obtain ⟨v5,hv5,h⟩ := Ag h
    refine Av rfl Auj (Ab rfl Af) (Ao rfl) (Ju hv5) (rm 1 rfl (Al (ccI h rfl (fun h => ?_) (fun h => ?_))))
    ·refine csr (sv rfl (Ai B6 rfl (.lp _ _ _ rfl) (Nbl rfl)) (An E2 rfl rfl rfl rfl (Nbl rfl) (Bs [.box (el a0),.box (el a0)] rfl (rm 1 rfl (Al (Bg (Ak ?_)))))))
     cases SJ h
     refine ⟨Or.inr rfl,_,_,_,(Aj (Cu.agg _ _ _ _ _ B6 rfl (.lp _ _ _ rfl) (Nbl rfl)) (Aj (Cu.tmp _ _ rfl) As)),(Ao rfl),?_⟩
     rfl
    ·refine Bi (Ac ?_)
     exact ⟨(),_,h,⟨rfl,rfl,rfl,trivial⟩,rfl⟩
 ·skip
  refine Az (sv rfl (Ai B6 rfl (.lp _ _ _ rfl) (Nbl rfl)) ?_)
  obtain ⟨v6,hv6,h⟩ := Ag h
  refine Av rfl Ar4 (Ab rfl Af) (Ao rfl) (Ie hv6) (sv rfl (B5 rfl) (rm 1 rfl (Bf 10 rfl (fun hc => ?_) (fun hc => ?_))))
  ·replace h := Br hc h
   clear hc
   refine rm 4 rfl (Al (Ei rfl (fun _ => ?_) (fun hx => Bool.noConfusion hx)))
   refine csr (sv rfl (Be O1 Agj Ay (.nil _)) (An E2 rfl rfl rfl rfl (Nbl rfl) (Bs [.box (el a0),.box Zba] rfl (rm 1 rfl (Al (Bg (Ak ?_)))))))
   cases SJ h
   refine ⟨Or.inr rfl,_,_,_,(Aj (Cu.agg _ _ _ _ _ B6 rfl (.lp _ _ _ rfl) (Nbl rfl)) (Aj (Cu.tmp _ _ rfl) As)),(O4 rfl),?_⟩
   rfl
  ·replace h := Bq hc h
   clear hc
   refine rm 1 rfl (son rfl rfl rfl ?_)
   obtain ⟨v7,hv7,h⟩ := Ag h
   refine Av rfl Ah4 (Ab rfl (Ab rfl (Ab rfl Af))) (Ao rfl) (Co hv7) (son rfl rfl rfl (sv rfl (B5 rfl) (rm 1 rfl (Al (ccI h rfl (fun h => ?_) (fun h => ?_))))))
   ·refine csr (sv rfl (Be O1 Agj Ay (.nil _)) (An E2 rfl rfl rfl rfl (Nbl rfl) (Bs [.box (el a0),.box Zba] rfl (rm 1 rfl (Al (Bg (Ak ?_)))))))
    cases SJ h
    refine ⟨Or.inr rfl,_,_,_,(Aj (Cu.agg _ _ _ _ _ B6 rfl (.lp _ _ _ rfl) (Nbl rfl)) (Aj (Cu.tmp _ _ rfl) As)),(O4 rfl),?_⟩
    rfl
   ·refine Bi (Ac ?_)
    exact ⟨(),_,h,⟨rfl,rfl,rfl,trivial⟩,rfl⟩
def Kv (a0 : Ad) : Option (Ad × (List UInt8)) :=
 (E9 a0).bind fun v1 => if (!v1) then (some (C4,([] : List UInt8))) else (some ({a0 with Out := ([] : List UInt8)},a0.Out))
theorem Vu {a0 : Ad} {r : Ad × (List UInt8)} (h : Kv a0 = some r) : Bl Tryz.prog 28 [.agg (el a0)] (· = .tup [.agg (el r.1),.one (.sl r.2.length (r.2.flatMap eU8))]) := by
 unfold Kv at h
 refine Au Tryz.func28 rfl (nt := 14) rfl (Nbl rfl) ?_
 intro w0 S0
 refine csr (Ih rfl rfl (Bw rfl O1 (rm 1 rfl (Al (Bp (csr (sv rfl (Ai B6 rfl (.lp _ _ _ rfl) (Nbl rfl)) ?_)))))))
 obtain ⟨v1,hv1,h⟩ := Ag h
 refine Av rfl Ar4 (Ab rfl Af) (Ao rfl) (Ie hv1) (sv rfl (B5 rfl) (Al (ccI h rfl (fun h => ?_) (fun h => ?_))))
 ·refine csr (sv rfl (Be O1 Agj Ay (.nil _)) (An E2 rfl rfl rfl rfl (Nbl rfl) (Bs [.box (el a0),.box Zba] rfl (rm 1 rfl (Al (Bg (Ak ?_)))))))
  cases SJ h
  refine ⟨Or.inr rfl,_,_,_,(Aj (Cu.agg _ _ _ _ _ B6 rfl (.lp _ _ _ rfl) (Nbl rfl)) (Aj (Cu.tmp _ _ rfl) As)),(O4 rfl),?_⟩
  rfl
 ·refine Bi (Ac (csr (fl Rt I9 rfl rfl rfl rfl rfl rfl (rm 1 rfl (Al (csr (sv rfl (Aa Rt rfl) (An Auy rfl rfl rfl rfl (Nbl rfl) (Bs [.box ((el a0).set 37 (Znl)),.box Zba] rfl (Al (csr (sv rfl (Ai B6 rfl (.lp _ _ _ rfl) (Nbl rfl)) (rm 1 rfl (An E2 rfl rfl rfl rfl (Nbl rfl) (Bs [.box ((el a0).set 37 (Znl)),.box ((el a0).set 37 (Znl))] rfl (rm 1 rfl (Al (Bg ?_))))))))))))))))))
  cases SJ h
  refine ⟨Or.inr rfl,_,_,_,(Aj (Cu.agg _ _ _ _ _ B6 rfl (.lp _ _ _ rfl) (Nbl rfl)) (Aj (Cu.tmp _ _ rfl) As)),(O4 rfl),?_⟩
  rfl
def O2 (a0 : Ad) (a1 : G3) : Option Ad :=
 if (decide (a1.What ≤ 1)) then ((L3 a1.Task.Prog).bind fun v1 => (D1 a0 (Am.mk a1.Task.Token v1)).bind fun v2 => if (decide (v2.2 = 0)) then (some v2.1) else (some a0)) else (if (decide (a1.What = 2)) then ((Ew a0).bind fun v3 => if (decide (v3.2 = 0)) then (some v3.1) else (some a0)) else (if (decide (a1.What = 3)) then ((Ly a0).bind fun v4 => some v4) else (if (decide (a1.What ≤ 8)) then ((Gi a0 a1.Reply).bind fun v5 => (F4 a0 v5).bind fun v6 => some v6) else (if (decide (a1.What = 9)) then ((F4 a0 a1.Bytes).bind fun v7 => some v7) else (if (decide (a1.What ≤ 11)) then ((Ii a0 a1.N).bind fun v8 => if (decide (v8.2 = 0)) then (some v8.1) else (some a0)) else ((Kv a0).bind fun v9 => some v9.1))))))
theorem Z2 {a0 : Ad} {a1 : G3} {r : Ad} (h : O2 a0 a1 = some r) : Bl Tryz.prog 11 [.agg (el a0),.agg (el a1)] (· = .s (.agg (el r))) := by
 unfold O2 at h
 refine Au Tryz.func11 rfl (nt := 92) rfl (Nbl rfl) ?_
 intro w0 S0
 refine csr (Ih rfl rfl (Ih rfl rfl (Bw rfl O1 (Al (Bp (B3 (csr (fl Aam ti3 rfl rfl rfl rfl rfl rfl (sv rfl (Gm rfl rfl) (rm 1 rfl (Al (ccI h rfl (fun h => ?_) (fun h => ?_)))))))))))))
 ·refine Bp (Aey ?_)
  obtain ⟨v1,hv1,h⟩ := Ag h
  obtain ⟨v2,hv2,h⟩ := Ag h
  refine Jj [13,14] [0,0,2,6,0,16,48,112,254,511,1023,2047,2047,0,12287,32767] [[.box (el a0),.box (el a1),.box Zba,.hole],[.box (el a0),.box (el a1),.box Zba,.box Zba],[.box (el a0),.box (el a1),.box Zba,.box (el v2.1)]] (by kernel_rfl) Kd (by kernel_rfl) (by decide) rfl rfl rfl rfl ?_
  refine evs (md := [.box (el a0),.box (el a1),.box Zba,.dead]) (fun hS => ev (Bh hS) rfl rfl (Ai B6 rfl (.lp _ _ _ rfl) (Nbl rfl)) (ev (Bh hS) rfl rfl (Aa Ais rfl) (ev (Bh hS) rfl rfl (Aa Ai6 rfl) (ev (Bh hS) rfl rfl (Ae ti3 rfl (.lp _ _ _ rfl) rfl) (ev (Bh hS) rfl rfl (Aa Ais rfl) (ev (Bh hS) rfl rfl (Aa Agk rfl) (ev (Bh hS) rfl rfl (Ai Ash rfl (.lp _ _ _ rfl) (Nbl rfl)) (ed (Bh hS) rfl rfl (Cm A1s (Ab rfl Af) rfl (Wy hv1)) (ev (Bh hS) rfl rfl (Be Asb Ayn (Ah rfl (Ah rfl Ay)) (.cons _ _ _ _ _ _ _ rfl rfl (Nbl rfl) (.cons _ _ _ _ _ _ _ rfl rfl (Nbl rfl) (.nil _)))) (ed (Bh hS) rfl rfl (Cm Azd (Ab rfl (Ab rfl Af)) rfl (Qd hv2)) (emv rfl rfl (fun _ => Gc rfl) ?_))))))))))) ⟨⟨rfl,⟨rfl,⟨rfl,⟨trivial,trivial⟩⟩⟩⟩,⟨⟨rfl,⟨rfl,⟨rfl,⟨trivial,trivial⟩⟩⟩⟩,⟨⟨rfl,⟨rfl,⟨rfl,⟨trivial,trivial⟩⟩⟩⟩,trivial⟩⟩⟩
  refine evs (md := [.box (el a0),.box (el a1),.box Zba,.dead]) (fun hS => ev (Bh hS) rfl rfl (A4 rfl rfl) (ev (Bh hS) rfl rfl (A4 rfl rfl) (ee (x := .s (.one (.lp 3 0))) 0 rfl rfl rfl rfl rfl (fun ζ => ?_) ?_))) ⟨⟨rfl,⟨rfl,⟨rfl,⟨trivial,trivial⟩⟩⟩⟩,⟨⟨rfl,⟨rfl,⟨rfl,⟨trivial,trivial⟩⟩⟩⟩,⟨⟨rfl,⟨rfl,⟨rfl,⟨trivial,trivial⟩⟩⟩⟩,trivial⟩⟩⟩
  ·refine Nq 3 rfl O1 rfl ?_
   exact Sv
  refine ee0 1 rfl rfl rfl rfl (fun ζ => ?_) ?_
  ·refine An E2 rfl rfl rfl rfl (Nbl rfl) (Bs [.box (el a0),.box (el a1),.box Zba,.box (el v2.1)] rfl ?_)
   exact Sv
  refine ev (Bb 2 rfl rfl) rfl rfl (K5 rfl) (Z1 (Ac (Bp (csr (rm 1 rfl (sv rfl (Bn rfl rfl) (Al (ccI h rfl (fun h => ?_) (fun h => ?_)))))))))
  ·refine csr (sv rfl (Ai B6 rfl (.lp _ _ _ rfl) (Nbl rfl)) (An E2 rfl rfl rfl rfl (Nbl rfl) (Bs [.box (el a0),.box (el a1),.box (el v2.1),.box (el v2.1)] rfl (Al (Bg (Ak (A2 (Ak ?_))))))))
   cases SJ h
   exact dnA rfl B6 rfl (.lp _ _ _ rfl) (Nbl rfl) rfl rfl
  ·refine Bi (Ac (csr (sv rfl (Ai B6 rfl (.lp _ _ _ rfl) (Nbl rfl)) (An E2 rfl rfl rfl rfl (Nbl rfl) (Bs [.box (el a0),.box (el a1),.box (el a0),.box (el v2.1)] rfl (Al (Bg (A2 (Ak ?_)))))))))
   cases SJ h
   exact dnA rfl B6 rfl (.lp _ _ _ rfl) (Nbl rfl) rfl rfl
 ·refine csr (fl Aam ti3 rfl rfl rfl rfl rfl rfl (sv rfl (Bn rfl rfl) (rm 1 rfl (Al (ccI h rfl (fun h => ?_) (fun h => ?_))))))
  ·refine csr (sv rfl (Ai B6 rfl (.lp _ _ _ rfl) (Nbl rfl)) ?_)
   obtain ⟨v3,hv3,h⟩ := Ag h
   refine Av rfl Ayq (Ab rfl Af) (Ao rfl) (N6 hv3) (sv rfl (Gc rfl) (sv rfl (A4 rfl rfl) (sv rfl (A4 rfl rfl) (Bw rfl O1 (An E2 rfl rfl rfl rfl (Nbl rfl) (Bs [.box (el a0),.box (el a1),.box Zba,.box (el v3.1)] rfl (rm 1 rfl (Al (Bp (csr (rm 1 rfl (sv rfl (Bn rfl rfl) (Al (ccI h rfl (fun h => ?_) (fun h => ?_)))))))))))))))
   ·refine csr (sv rfl (Ai B6 rfl (.lp _ _ _ rfl) (Nbl rfl)) (An E2 rfl rfl rfl rfl (Nbl rfl) (Bs [.box (el a0),.box (el a1),.box (el v3.1),.box (el v3.1)] rfl (Al (Bg (Ak (A2 (Ak ?_))))))))
    cases SJ h
    exact dnA rfl B6 rfl (.lp _ _ _ rfl) (Nbl rfl) rfl rfl
   ·refine Bi (Ac (csr (sv rfl (Ai B6 rfl (.lp _ _ _ rfl) (Nbl rfl)) (An E2 rfl rfl rfl rfl (Nbl rfl) (Bs [.box (el a0),.box (el a1),.box (el a0),.box (el v3.1)] rfl (Al (Bg (A2 (Ak ?_)))))))))
    cases SJ h
    exact dnA rfl B6 rfl (.lp _ _ _ rfl) (Nbl rfl) rfl rfl
  ·refine csr (fl Aam ti3 rfl rfl rfl rfl rfl rfl (sv rfl (Bn rfl rfl) (rm 1 rfl (Al (ccI h rfl (fun h => ?_) (fun h => ?_))))))
   ·refine csr (sv rfl (Ai B6 rfl (.lp _ _ _ rfl) (Nbl rfl)) ?_)
    obtain ⟨v4,hv4,h⟩ := Ag h
    refine Av rfl Az1 (Ab rfl Af) (Ao rfl) (Wt hv4) (An E2 rfl rfl rfl rfl (Nbl rfl) (Bs [.box (el a0),.box (el a1),.box (el v4)] rfl (Al (Bg (A2 (Ak ?_))))))
    cases SJ h
    exact dnA rfl B6 rfl (.lp _ _ _ rfl) (Nbl rfl) rfl rfl
   ·refine csr (fl Aam ti3 rfl rfl rfl rfl rfl rfl (sv rfl (Gm rfl rfl) (rm 1 rfl (Al (ccI h rfl (fun h => ?_) (fun h => ?_))))))
    ·refine Bp ?_
     obtain ⟨v5,hv5,h⟩ := Ag h
     obtain ⟨v6,hv6,h⟩ := Ag h
     refine Jj [6] [0,0,0,4,14,31,63] [[.box (el a0),.box (el a1),.box Zba],[.box (el a0),.box (el a1),.box (el v6)]] (by kernel_rfl) Kd (by kernel_rfl) (by decide) rfl rfl rfl rfl ?_
     refine ev (Bb 0 rfl rfl) rfl rfl (Ai B6 rfl (.lp _ _ _ rfl) (Nbl rfl)) (ev (Bb 0 rfl rfl) rfl rfl (Ai B6 rfl (.lp _ _ _ rfl) (Nbl rfl)) (ev (Bb 0 rfl rfl) rfl rfl (Aa Yj rfl) (ev (Bb 0 rfl rfl) rfl rfl (Ai Ayz rfl (.lp _ _ _ rfl) (Nbl rfl)) (ed (Bb 0 rfl rfl) rfl rfl (Cm Ayo (Ab rfl (Ab rfl Af)) rfl (Qj hv5)) (ed (Bb 0 rfl rfl) rfl rfl (Cm Aue (Ab rfl (Ab rfl Af)) rfl (J3 hv6)) (ee0 0 rfl rfl rfl rfl (fun ζ => ?_) ?_))))))
     ·refine An E2 rfl rfl rfl rfl (Nbl rfl) (Bs [.box (el a0),.box (el a1),.box (el v6)] rfl ?_)
      exact Sv
     refine Z1 (Ac (Bg (A2 (Ak ?_))))
     cases SJ h
     exact dnA rfl B6 rfl (.lp _ _ _ rfl) (Nbl rfl) rfl rfl
    ·refine csr (fl Aam ti3 rfl rfl rfl rfl rfl rfl (sv rfl (Bn rfl rfl) (rm 1 rfl (Al (ccI h rfl (fun h => ?_) (fun h => ?_))))))
     ·refine csr (sv rfl (Ai B6 rfl (.lp _ _ _ rfl) (Nbl rfl)) (sv rfl (Aa Apm rfl) (sv rfl (Ae I9 rfl (.lp _ _ _ rfl) rfl) ?_)))
      obtain ⟨v7,hv7,h⟩ := Ag h
      refine Av rfl Aue (Ab rfl (Ab rfl Af)) (Ao rfl) (J3 hv7) (An E2 rfl rfl rfl rfl (Nbl rfl) (Bs [.box (el a0),.box (el a1),.box (el v7)] rfl (Al (Bg (A2 (Ak ?_))))))
      cases SJ h
      exact dnA rfl B6 rfl (.lp _ _ _ rfl) (Nbl rfl) rfl rfl
     ·refine csr (fl Aam ti3 rfl rfl rfl rfl rfl rfl (sv rfl (Gm rfl rfl) (rm 1 rfl (Al (ccI h rfl (fun h => ?_) (fun h => ?_))))))
      ·refine csr (sv rfl (Ai B6 rfl (.lp _ _ _ rfl) (Nbl rfl)) (sv rfl (Aa Atr rfl) (sv rfl (Ae ti3 rfl (.lp _ _ _ rfl) rfl) ?_)))
       obtain ⟨v8,hv8,h⟩ := Ag h
       refine Av rfl A1x (Ab rfl (Ab rfl Af)) (Ao rfl) (Wq hv8) (sv rfl (Gc rfl) (sv rfl (A4 rfl rfl) (sv rfl (A4 rfl rfl) (Bw rfl O1 (An E2 rfl rfl rfl rfl (Nbl rfl) (Bs [.box (el a0),.box (el a1),.box Zba,.box (el v8.1)] rfl (rm 1 rfl (Al (Bp (csr (rm 1 rfl (sv rfl (Bn rfl rfl) (Al (ccI h rfl (fun h => ?_) (fun h => ?_)))))))))))))))
       ·refine csr (sv rfl (Ai B6 rfl (.lp _ _ _ rfl) (Nbl rfl)) (An E2 rfl rfl rfl rfl (Nbl rfl) (Bs [.box (el a0),.box (el a1),.box (el v8.1),.box (el v8.1)] rfl (Al (Bg (Ak (A2 (Ak ?_))))))))
        cases SJ h
        exact dnA rfl B6 rfl (.lp _ _ _ rfl) (Nbl rfl) rfl rfl
       ·refine Bi (Ac (csr (sv rfl (Ai B6 rfl (.lp _ _ _ rfl) (Nbl rfl)) (An E2 rfl rfl rfl rfl (Nbl rfl) (Bs [.box (el a0),.box (el a1),.box (el a0),.box (el v8.1)] rfl (Al (Bg (A2 (Ak ?_)))))))))
        cases SJ h
        exact dnA rfl B6 rfl (.lp _ _ _ rfl) (Nbl rfl) rfl rfl
      ·refine Bi (Aw (Ac (csr (sv rfl (Ai B6 rfl (.lp _ _ _ rfl) (Nbl rfl)) ?_))))
       obtain ⟨v9,hv9,h⟩ := Ag h
       refine Av rfl A1y (Ab rfl Af) (Ao rfl) (Vu hv9) (sv rfl (Gc rfl) (sv rfl (A4 rfl rfl) (sv rfl (A4 rfl rfl) (Bw rfl O1 (An E2 rfl rfl rfl rfl (Nbl rfl) (Bs [.box (el a0),.box (el a1),.box Zba,.box (el v9.1)] rfl (rm 1 rfl (Al (csr (sv rfl (Ai B6 rfl (.lp _ _ _ rfl) (Nbl rfl)) (An E2 rfl rfl rfl rfl (Nbl rfl) (Bs [.box (el a0),.box (el a1),.box (el v9.1),.box (el v9.1)] rfl (Al (Bg ?_))))))))))))))
       cases SJ h
       exact dnA rfl B6 rfl (.lp _ _ _ rfl) (Nbl rfl) rfl rfl
def Oo (a0 : A1) : Option J9 :=
 some (J9.mk a0.PC a0.Regs a0.Stopped)
theorem Xy {a0 : A1} {r : J9} (h : Oo a0 = some r) : Bl Tryz.prog 51 [.agg (el a0)] (· = .s (.agg (el r))) := by
 unfold Oo at h
 refine Au Tryz.func51 rfl (nt := 10) rfl (Nbl rfl) ?_
 intro w0 S0
 refine csr (Ih rfl rfl (Bw rfl Ay7 (Al (csr (fl Pq ti3 rfl rfl rfl rfl rfl rfl (sv rfl (Aa Ps rfl) (sv rfl (Ai Auk rfl (.lp _ _ _ rfl) (Nbl rfl)) (fl W6 ti4 rfl rfl rfl rfl rfl rfl (sv rfl (Be Ay7 Az6 (Ah rfl (Ah rfl (Ah rfl Ay))) (.cons _ _ _ _ _ _ _ rfl rfl (Nbl rfl) (.cons _ _ _ _ _ _ _ rfl rfl (Nbl rfl) (.cons _ _ _ _ _ _ _ rfl rfl (Nbl rfl) (.nil _))))) (An A05 rfl rfl rfl rfl (Nbl rfl) (Bs [.box (el a0),.box (el a0)] rfl (Al (Bg ?_)))))))))))))
 cases SJ h
 exact dnA rfl Axd rfl (.lp _ _ _ rfl) (Nbl rfl) rfl rfl
def Pi (a0 : B7) : Option N5 :=
 some (N5.mk a0.Kind a0.Seq a0.Token a0.Attempt a0.RO a0.Key a0.Val a0.Rng)
theorem Yv {a0 : B7} {r : N5} (h : Pi a0 = some r) : Bl Tryz.prog 52 [.agg (el a0)] (· = .s (.agg (el r))) := by
 unfold Pi at h
 refine Au Tryz.func52 rfl (nt := 20) rfl (Nbl rfl) ?_
 intro w0 S0
 refine csr (Ih rfl rfl (Bw rfl Ayv (Al (csr (fl Qm ti3 rfl rfl rfl rfl rfl rfl (fl Pp ti3 rfl rfl rfl rfl rfl rfl (fl Aj9 ti3 rfl rfl rfl rfl rfl rfl (fl Akz ti3 rfl rfl rfl rfl rfl rfl (fl Aiz ti4 rfl rfl rfl rfl rfl rfl (fl Afy I9 rfl rfl rfl rfl rfl rfl (fl Aft I9 rfl rfl rfl rfl rfl rfl (sv rfl (Aa Aav rfl) (sv rfl (Ai Ahk rfl (.lp _ _ _ rfl) (Nbl rfl)) (sv rfl (Be Ayv A0p (Ah rfl (Ah rfl (Ah rfl (Ah rfl (Ah rfl (Ah rfl (Ah rfl (Ah rfl Ay)))))))) (Cg [Ii6 a0.Kind,Ii6 0,Ii6 0,Ii6 0,.b false,Znl,Znl,Znl,Znl,.b false] rfl rfl (Nbl rfl) rfl (Cg [Ii6 a0.Kind,Ii6 a0.Seq,Ii6 0,Ii6 0,.b false,Znl,Znl,Znl,Znl,.b false] rfl rfl (Nbl rfl) rfl (Cg [Ii6 a0.Kind,Ii6 a0.Seq,Ii6 a0.Token,Ii6 0,.b false,Znl,Znl,Znl,Znl,.b false] rfl rfl (Nbl rfl) rfl (Cg [Ii6 a0.Kind,Ii6 a0.Seq,Ii6 a0.Token,Ii6 a0.Attempt,.b false,Znl,Znl,Znl,Znl,.b false] rfl rfl (Nbl rfl) rfl (Cg [Ii6 a0.Kind,Ii6 a0.Seq,Ii6 a0.Token,Ii6 a0.Attempt,.b a0.RO,Znl,Znl,Znl,Znl,.b false] rfl rfl (Nbl rfl) rfl (Cg [Ii6 a0.Kind,Ii6 a0.Seq,Ii6 a0.Token,Ii6 a0.Attempt,.b a0.RO,.sl a0.Key.length (a0.Key.flatMap eU8),Znl,Znl,Znl,.b false] rfl rfl (Nbl rfl) rfl (Cg [Ii6 a0.Kind,Ii6 a0.Seq,Ii6 a0.Token,Ii6 a0.Attempt,.b a0.RO,.sl a0.Key.length (a0.Key.flatMap eU8),.sl a0.Val.length (a0.Val.flatMap eU8),Znl,Znl,.b false] rfl rfl (Nbl rfl) rfl (Cg [Ii6 a0.Kind,Ii6 a0.Seq,Ii6 a0.Token,Ii6 a0.Attempt,.b a0.RO,.sl a0.Key.length (a0.Key.flatMap eU8),.sl a0.Val.length (a0.Val.flatMap eU8),.sl a0.Rng.Lo.length (a0.Rng.Lo.flatMap eU8),.sl a0.Rng.Hi.length (a0.Rng.Hi.flatMap eU8),.b a0.Rng.Open] rfl rfl (Nbl rfl) rfl (.nil _)))))))))) (An A1e rfl rfl rfl rfl (Nbl rfl) (Bs [.box (el a0),.box (el a0)] rfl (Al (Bg ?_))))))))))))))))))
 cases SJ h
 exact dnA rfl Axw rfl (.lp _ _ _ rfl) (Nbl rfl) rfl rfl
def N9 (a0 : Ad) (v1 : J9) (v2 : N5) (b3 : (List Cf)) (b4 : (List Di)) (b5 : (List Cw)) : Option Cq :=
 some (Cq.mk (W4.mk a0.Cfg.Who (Aby.mk a0.Cfg.Plan.Wait a0.Cfg.Plan.Most a0.Cfg.Plan.Tries) a0.Cfg.Attempts a0.Cfg.Budget) b3 a0.Phase a0.Epoch a0.Seq a0.Attempt a0.Sent a0.Left a0.Resets a0.Risk v1 v2 (Nj.mk a0.In.Buf a0.In.Dead) a0.Out b4 b5)
def J0 (a0 : Ad) (s6 : Int × (List Cw)) : Option (LB (Int × (List Cw)) ((List Cw))) :=
 if (decide (s6.1 < (a0.Tried.length : Int))) then ((idx a0.Tried s6.1).bind fun u7 => if (s6.2.length + [(Cw.mk u7.Token u7.Attempt u7.Regs)].length) * 80 ≤ 140737488355328 then (some (.cont ((wI (s6.1 + 1)),(s6.2 ++ [(Cw.mk u7.Token u7.Attempt u7.Regs)])))) else none) else (some (.brk s6.2))
def Md (a0 : Ad) (v1 : J9) (v2 : N5) (b3 : (List Cf)) (b4 : (List Di)) : Option Cq :=
 (Ec (J0 a0) fuel (0,([] : List Cw))).bind fun e9 => N9 a0 v1 v2 b3 b4 e9
def Je (a0 : Ad) (s10 : Int × (List Di)) : Option (LB (Int × (List Di)) ((List Di))) :=
 if (decide (s10.1 < (a0.Done.length : Int))) then ((idx a0.Done s10.1).bind fun u11 => if (s10.2.length + [(Di.mk u11.Token u11.Code u11.Attempt u11.Ts u11.Regs)].length) * 96 ≤ 140737488355328 then (some (.cont ((wI (s10.1 + 1)),(s10.2 ++ [(Di.mk u11.Token u11.Code u11.Attempt u11.Ts u11.Regs)])))) else none) else (some (.brk s10.2))
def Me (a0 : Ad) (v1 : J9) (v2 : N5) (b3 : (List Cf)) : Option Cq :=
 (Ec (Je a0) fuel (0,([] : List Di))).bind fun e13 => Md a0 v1 v2 b3 e13
def Lh (a0 : Ad) (s14 : Int × (List Cf)) (u15 : Am) (b16 : (List Kh)) : Option (LB (Int × (List Cf)) ((List Cf))) :=
 (idx a0.Tasks s14.1).bind fun u17 => if (s14.2.length + ([(Cf.mk u17.Token (Cp.mk u15.Prog.RO b16))] : List Cf).length) * 40 ≤ 140737488355328 then (some (.cont ((wI (s14.1 + 1)),(s14.2 ++ ([(Cf.mk u17.Token (Cp.mk u15.Prog.RO b16))] : List Cf))))) else none
def Ho (a0 : Ad) (s14 : Int × (List Cf)) (s19 : Int × (List Kh)) : Option (LB (Int × (List Kh)) ((List Kh))) :=
 (idx a0.Tasks s14.1).bind fun u20 => if (decide (s19.1 < (u20.Prog.Ops.length : Int))) then ((idx a0.Tasks s14.1).bind fun u21 => (idx u21.Prog.Ops s19.1).bind fun u22 => if (s19.2.length + [(Kh.mk u22.What u22.A u22.B u22.N u22.Key u22.Rng)].length) * 112 ≤ 140737488355328 then (some (.cont ((wI (s19.1 + 1)),(s19.2 ++ [(Kh.mk u22.What u22.A u22.B u22.N u22.Key u22.Rng)])))) else none) else (some (.brk s19.2))
def Jg (a0 : Ad) (s14 : Int × (List Cf)) : Option (LB (Int × (List Cf)) ((List Cf))) :=
 if (decide (s14.1 < (a0.Tasks.length : Int))) then ((idx a0.Tasks s14.1).bind fun u15 => (Ec (Ho a0 s14) fuel (0,([] : List Kh))).bind fun e24 => Lh a0 s14 u15 e24) else (some (.brk s14.2))
def Dy (a0 : Ad) : Option Cq :=
 (Oo a0.St).bind fun v1 => (Pi a0.Req).bind fun v2 => (Ec (Jg a0) fuel (0,([] : List Cf))).bind fun e25 => Me a0 v1 v2 e25
theorem I3 {a0 : Ad} {r : Cq} (h : Dy a0 = some r) : Bl Tryz.prog 20 [.agg (el a0)] (· = .s (.agg (el r))) := by
 unfold Dy at h
 refine Au Tryz.func20 rfl (nt := 186) rfl (Nbl rfl) ?_
 intro w0 S0
 refine csr (Ih rfl rfl (Bw rfl Avn (Al (csr (sv rfl (Aa Sd rfl) (sv rfl (Ai Atu rfl (.lp _ _ _ rfl) (Nbl rfl)) (Bw rfl Avv (An Ay0 rfl rfl rfl rfl (Nbl rfl) (Bs [.box (el a0),.box Zba,.box (el a0.Cfg)] rfl (Al (Bp (Aey ?_))))))))))))
 obtain ⟨v1,hv1,h⟩ := Ag h
 obtain ⟨v2,hv2,h⟩ := Ag h
 refine Jj [32,33] [0,1,0,4,0,16,0,64,0,256,0,1024,0,4096,0,16384,0,65536,196608,0,524288,2031616,0,4194304,12582912,0,33554432,100663296,264241152,0,536870912,2147483647,0,8589934591] [[.box (el a0),.box Zba,.box (el a0.Cfg),.hole],[.box (el a0),.box Zba,.box (el a0.Cfg),.box Zba],[.box (el a0),.box Zba,.box (el a0.Cfg),.box [Ii6 0,Ii6 0,Ii6 0,Ii6 0,Ii6 0,Ii6 0,Znl,Ii6 a0.Phase,Ii6 a0.Epoch,Ii6 a0.Seq,Ii6 a0.Attempt,Ii6 a0.Sent,Ii6 a0.Left,Ii6 a0.Resets,.b a0.Risk,Ii6 v1.PC,Ii6 v1.Regs.R0,Ii6 v1.Regs.R1,Ii6 v1.Regs.R2,Ii6 v1.Regs.R3,Ii6 v1.Regs.R4,Ii6 v1.Regs.R5,Ii6 v1.Regs.R6,Ii6 v1.Regs.R7,.b v1.Stopped,Ii6 v2.Kind,Ii6 v2.Seq,Ii6 v2.Token,Ii6 v2.Attempt,.b v2.RO,.sl v2.Key.length (v2.Key.flatMap eU8),.sl v2.Val.length (v2.Val.flatMap eU8),.sl v2.Rng.Lo.length (v2.Rng.Lo.flatMap eU8),.sl v2.Rng.Hi.length (v2.Rng.Hi.flatMap eU8),.b v2.Rng.Open,.sl a0.In.Buf.length (a0.In.Buf.flatMap eU8),Ii6 a0.In.Dead,.sl a0.Out.length (a0.Out.flatMap eU8),Znl,Znl]]] (by kernel_rfl) Kd (by kernel_rfl) (by decide) rfl rfl rfl rfl ?_
 refine evs (md := [.box (el a0),.box Zba,.box (el a0.Cfg),.dead]) (fun hS => ev (Bh hS) rfl rfl (Aa G8 rfl) (ev (Bh hS) rfl rfl (Ae ti3 rfl (.lp _ _ _ rfl) rfl) (ev (Bh hS) rfl rfl (Aa Aar rfl) (ev (Bh hS) rfl rfl (Ae ti3 rfl (.lp _ _ _ rfl) rfl) (ev (Bh hS) rfl rfl (Aa Yw rfl) (ev (Bh hS) rfl rfl (Ae ti3 rfl (.lp _ _ _ rfl) rfl) (ev (Bh hS) rfl rfl (Aa Pd rfl) (ev (Bh hS) rfl rfl (Ae ti3 rfl (.lp _ _ _ rfl) rfl) (ev (Bh hS) rfl rfl (Aa Aay rfl) (ev (Bh hS) rfl rfl (Ae ti3 rfl (.lp _ _ _ rfl) rfl) (ev (Bh hS) rfl rfl (Aa Sf rfl) (ev (Bh hS) rfl rfl (Ae ti3 rfl (.lp _ _ _ rfl) rfl) (ev (Bh hS) rfl rfl (Aa Acv rfl) (ev (Bh hS) rfl rfl (Ae ti3 rfl (.lp _ _ _ rfl) rfl) (ev (Bh hS) rfl rfl (Aa Yi rfl) (ev (Bh hS) rfl rfl (Ae ti4 rfl (.lp _ _ _ rfl) rfl) (ev (Bh hS) rfl rfl (Aa Qs rfl) (ev (Bh hS) rfl rfl (Ai Uf rfl (.lp _ _ _ rfl) (Nbl rfl)) (ed (Bh hS) rfl rfl (Cm A1m (Ab rfl Af) rfl (Xy hv1)) (ev (Bh hS) rfl rfl (Aa Hz rfl) (ev (Bh hS) rfl rfl (Ai Agc rfl (.lp _ _ _ rfl) (Nbl rfl)) (ed (Bh hS) rfl rfl (Cm A1q (Ab rfl Af) rfl (Yv hv2)) (ev (Bh hS) rfl rfl (Aa Tf rfl) (ev (Bh hS) rfl rfl (Aa Aai rfl) (ev (Bh hS) rfl rfl (Ae I9 rfl (.lp _ _ _ rfl) rfl) (ev (Bh hS) rfl rfl (Aa Tf rfl) (ev (Bh hS) rfl rfl (Aa Agl rfl) (ev (Bh hS) rfl rfl (Ae Aah rfl (.lp _ _ _ rfl) rfl) (ev (Bh hS) rfl rfl (Be A12 A02 (Ah rfl (Ah rfl Ay)) (.cons _ _ _ _ _ _ _ rfl rfl (Nbl rfl) (.cons _ _ _ _ _ _ _ rfl rfl (Nbl rfl) (.nil _)))) (ev (Bh hS) rfl rfl (Aa Rt rfl) (ev (Bh hS) rfl rfl (Ae I9 rfl (.lp _ _ _ rfl) rfl) (ev (Bh hS) rfl rfl (Be Avn A1o (Ah rfl (Ah rfl (Ah rfl (Ah rfl (Ah rfl (Ah rfl (Ah rfl (Ah rfl (Ah rfl (Ah rfl (Ah rfl (Ah rfl Ay)))))))))))) (Cg [Ii6 0,Ii6 0,Ii6 0,Ii6 0,Ii6 0,Ii6 0,Znl,Ii6 a0.Phase,Ii6 0,Ii6 0,Ii6 0,Ii6 0,Ii6 0,Ii6 0,.b false,Ii6 0,Ii6 0,Ii6 0,Ii6 0,Ii6 0,Ii6 0,Ii6 0,Ii6 0,Ii6 0,.b false,Ii6 0,Ii6 0,Ii6 0,Ii6 0,.b false,Znl,Znl,Znl,Znl,.b false,Znl,Ii6 0,Znl,Znl,Znl] rfl rfl (Nbl rfl) rfl (Cg [Ii6 0,Ii6 0,Ii6 0,Ii6 0,Ii6 0,Ii6 0,Znl,Ii6 a0.Phase,Ii6 a0.Epoch,Ii6 0,Ii6 0,Ii6 0,Ii6 0,Ii6 0,.b false,Ii6 0,Ii6 0,Ii6 0,Ii6 0,Ii6 0,Ii6 0,Ii6 0,Ii6 0,Ii6 0,.b false,Ii6 0,Ii6 0,Ii6 0,Ii6 0,.b false,Znl,Znl,Znl,Znl,.b false,Znl,Ii6 0,Znl,Znl,Znl] rfl rfl (Nbl rfl) rfl (Cg [Ii6 0,Ii6 0,Ii6 0,Ii6 0,Ii6 0,Ii6 0,Znl,Ii6 a0.Phase,Ii6 a0.Epoch,Ii6 a0.Seq,Ii6 0,Ii6 0,Ii6 0,Ii6 0,.b false,Ii6 0,Ii6 0,Ii6 0,Ii6 0,Ii6 0,Ii6 0,Ii6 0,Ii6 0,Ii6 0,.b false,Ii6 0,Ii6 0,Ii6 0,Ii6 0,.b false,Znl,Znl,Znl,Znl,.b false,Znl,Ii6 0,Znl,Znl,Znl] rfl rfl (Nbl rfl) rfl (Cg [Ii6 0,Ii6 0,Ii6 0,Ii6 0,Ii6 0,Ii6 0,Znl,Ii6 a0.Phase,Ii6 a0.Epoch,Ii6 a0.Seq,Ii6 a0.Attempt,Ii6 0,Ii6 0,Ii6 0,.b false,Ii6 0,Ii6 0,Ii6 0,Ii6 0,Ii6 0,Ii6 0,Ii6 0,Ii6 0,Ii6 0,.b false,Ii6 0,Ii6 0,Ii6 0,Ii6 0,.b false,Znl,Znl,Znl,Znl,.b false,Znl,Ii6 0,Znl,Znl,Znl] rfl rfl (Nbl rfl) rfl (Cg [Ii6 0,Ii6 0,Ii6 0,Ii6 0,Ii6 0,Ii6 0,Znl,Ii6 a0.Phase,Ii6 a0.Epoch,Ii6 a0.Seq,Ii6 a0.Attempt,Ii6 a0.Sent,Ii6 0,Ii6 0,.b false,Ii6 0,Ii6 0,Ii6 0,Ii6 0,Ii6 0,Ii6 0,Ii6 0,Ii6 0,Ii6 0,.b false,Ii6 0,Ii6 0,Ii6 0,Ii6 0,.b false,Znl,Znl,Znl,Znl,.b false,Znl,Ii6 0,Znl,Znl,Znl] rfl rfl (Nbl rfl) rfl (Cg [Ii6 0,Ii6 0,Ii6 0,Ii6 0,Ii6 0,Ii6 0,Znl,Ii6 a0.Phase,Ii6 a0.Epoch,Ii6 a0.Seq,Ii6 a0.Attempt,Ii6 a0.Sent,Ii6 a0.Left,Ii6 0,.b false,Ii6 0,Ii6 0,Ii6 0,Ii6 0,Ii6 0,Ii6 0,Ii6 0,Ii6 0,Ii6 0,.b false,Ii6 0,Ii6 0,Ii6 0,Ii6 0,.b false,Znl,Znl,Znl,Znl,.b false,Znl,Ii6 0,Znl,Znl,Znl] rfl rfl (Nbl rfl) rfl (Cg [Ii6 0,Ii6 0,Ii6 0,Ii6 0,Ii6 0,Ii6 0,Znl,Ii6 a0.Phase,Ii6 a0.Epoch,Ii6 a0.Seq,Ii6 a0.Attempt,Ii6 a0.Sent,Ii6 a0.Left,Ii6 a0.Resets,.b false,Ii6 0,Ii6 0,Ii6 0,Ii6 0,Ii6 0,Ii6 0,Ii6 0,Ii6 0,Ii6 0,.b false,Ii6 0,Ii6 0,Ii6 0,Ii6 0,.b false,Znl,Znl,Znl,Znl,.b false,Znl,Ii6 0,Znl,Znl,Znl] rfl rfl (Nbl rfl) rfl (Cg [Ii6 0,Ii6 0,Ii6 0,Ii6 0,Ii6 0,Ii6 0,Znl,Ii6 a0.Phase,Ii6 a0.Epoch,Ii6 a0.Seq,Ii6 a0.Attempt,Ii6 a0.Sent,Ii6 a0.Left,Ii6 a0.Resets,.b a0.Risk,Ii6 0,Ii6 0,Ii6 0,Ii6 0,Ii6 0,Ii6 0,Ii6 0,Ii6 0,Ii6 0,.b false,Ii6 0,Ii6 0,Ii6 0,Ii6 0,.b false,Znl,Znl,Znl,Znl,.b false,Znl,Ii6 0,Znl,Znl,Znl] rfl rfl (Nbl rfl) rfl (Cg [Ii6 0,Ii6 0,Ii6 0,Ii6 0,Ii6 0,Ii6 0,Znl,Ii6 a0.Phase,Ii6 a0.Epoch,Ii6 a0.Seq,Ii6 a0.Attempt,Ii6 a0.Sent,Ii6 a0.Left,Ii6 a0.Resets,.b a0.Risk,Ii6 v1.PC,Ii6 v1.Regs.R0,Ii6 v1.Regs.R1,Ii6 v1.Regs.R2,Ii6 v1.Regs.R3,Ii6 v1.Regs.R4,Ii6 v1.Regs.R5,Ii6 v1.Regs.R6,Ii6 v1.Regs.R7,.b v1.Stopped,Ii6 0,Ii6 0,Ii6 0,Ii6 0,.b false,Znl,Znl,Znl,Znl,.b false,Znl,Ii6 0,Znl,Znl,Znl] rfl rfl (Nbl rfl) rfl (Cg [Ii6 0,Ii6 0,Ii6 0,Ii6 0,Ii6 0,Ii6 0,Znl,Ii6 a0.Phase,Ii6 a0.Epoch,Ii6 a0.Seq,Ii6 a0.Attempt,Ii6 a0.Sent,Ii6 a0.Left,Ii6 a0.Resets,.b a0.Risk,Ii6 v1.PC,Ii6 v1.Regs.R0,Ii6 v1.Regs.R1,Ii6 v1.Regs.R2,Ii6 v1.Regs.R3,Ii6 v1.Regs.R4,Ii6 v1.Regs.R5,Ii6 v1.Regs.R6,Ii6 v1.Regs.R7,.b v1.Stopped,Ii6 v2.Kind,Ii6 v2.Seq,Ii6 v2.Token,Ii6 v2.Attempt,.b v2.RO,.sl v2.Key.length (v2.Key.flatMap eU8),.sl v2.Val.length (v2.Val.flatMap eU8),.sl v2.Rng.Lo.length (v2.Rng.Lo.flatMap eU8),.sl v2.Rng.Hi.length (v2.Rng.Hi.flatMap eU8),.b v2.Rng.Open,Znl,Ii6 0,Znl,Znl,Znl] rfl rfl (Nbl rfl) rfl (Cg [Ii6 0,Ii6 0,Ii6 0,Ii6 0,Ii6 0,Ii6 0,Znl,Ii6 a0.Phase,Ii6 a0.Epoch,Ii6 a0.Seq,Ii6 a0.Attempt,Ii6 a0.Sent,Ii6 a0.Left,Ii6 a0.Resets,.b a0.Risk,Ii6 v1.PC,Ii6 v1.Regs.R0,Ii6 v1.Regs.R1,Ii6 v1.Regs.R2,Ii6 v1.Regs.R3,Ii6 v1.Regs.R4,Ii6 v1.Regs.R5,Ii6 v1.Regs.R6,Ii6 v1.Regs.R7,.b v1.Stopped,Ii6 v2.Kind,Ii6 v2.Seq,Ii6 v2.Token,Ii6 v2.Attempt,.b v2.RO,.sl v2.Key.length (v2.Key.flatMap eU8),.sl v2.Val.length (v2.Val.flatMap eU8),.sl v2.Rng.Lo.length (v2.Rng.Lo.flatMap eU8),.sl v2.Rng.Hi.length (v2.Rng.Hi.flatMap eU8),.b v2.Rng.Open,.sl a0.In.Buf.length (a0.In.Buf.flatMap eU8),Ii6 a0.In.Dead,Znl,Znl,Znl] rfl rfl (Nbl rfl) rfl (Cg [Ii6 0,Ii6 0,Ii6 0,Ii6 0,Ii6 0,Ii6 0,Znl,Ii6 a0.Phase,Ii6 a0.Epoch,Ii6 a0.Seq,Ii6 a0.Attempt,Ii6 a0.Sent,Ii6 a0.Left,Ii6 a0.Resets,.b a0.Risk,Ii6 v1.PC,Ii6 v1.Regs.R0,Ii6 v1.Regs.R1,Ii6 v1.Regs.R2,Ii6 v1.Regs.R3,Ii6 v1.Regs.R4,Ii6 v1.Regs.R5,Ii6 v1.Regs.R6,Ii6 v1.Regs.R7,.b v1.Stopped,Ii6 v2.Kind,Ii6 v2.Seq,Ii6 v2.Token,Ii6 v2.Attempt,.b v2.RO,.sl v2.Key.length (v2.Key.flatMap eU8),.sl v2.Val.length (v2.Val.flatMap eU8),.sl v2.Rng.Lo.length (v2.Rng.Lo.flatMap eU8),.sl v2.Rng.Hi.length (v2.Rng.Hi.flatMap eU8),.b v2.Rng.Open,.sl a0.In.Buf.length (a0.In.Buf.flatMap eU8),Ii6 a0.In.Dead,.sl a0.Out.length (a0.Out.flatMap eU8),Znl,Znl] rfl rfl (Nbl rfl) rfl (.nil _)))))))))))))) (ee (x := .s (.one (.lp 3 0))) 0 rfl rfl rfl rfl rfl (fun ζ => ?_) ?_))))))))))))))))))))))))))))))))) ⟨⟨rfl,⟨rfl,⟨rfl,⟨trivial,trivial⟩⟩⟩⟩,⟨⟨rfl,⟨rfl,⟨rfl,⟨trivial,trivial⟩⟩⟩⟩,⟨⟨rfl,⟨rfl,⟨rfl,⟨trivial,trivial⟩⟩⟩⟩,trivial⟩⟩⟩
 ·refine Nq 3 rfl Avn rfl ?_
  exact Sv
 refine ee0 1 rfl rfl rfl rfl (fun ζ => ?_) ?_
 ·refine An Ayl rfl rfl rfl rfl (Nbl rfl) (Bs [.box (el a0),.box Zba,.box (el a0.Cfg),.box [Ii6 0,Ii6 0,Ii6 0,Ii6 0,Ii6 0,Ii6 0,Znl,Ii6 a0.Phase,Ii6 a0.Epoch,Ii6 a0.Seq,Ii6 a0.Attempt,Ii6 a0.Sent,Ii6 a0.Left,Ii6 a0.Resets,.b a0.Risk,Ii6 v1.PC,Ii6 v1.Regs.R0,Ii6 v1.Regs.R1,Ii6 v1.Regs.R2,Ii6 v1.Regs.R3,Ii6 v1.Regs.R4,Ii6 v1.Regs.R5,Ii6 v1.Regs.R6,Ii6 v1.Regs.R7,.b v1.Stopped,Ii6 v2.Kind,Ii6 v2.Seq,Ii6 v2.Token,Ii6 v2.Attempt,.b v2.RO,.sl v2.Key.length (v2.Key.flatMap eU8),.sl v2.Val.length (v2.Val.flatMap eU8),.sl v2.Rng.Lo.length (v2.Rng.Lo.flatMap eU8),.sl v2.Rng.Hi.length (v2.Rng.Hi.flatMap eU8),.b v2.Rng.Open,.sl a0.In.Buf.length (a0.In.Buf.flatMap eU8),Ii6 a0.In.Dead,.sl a0.Out.length (a0.Out.flatMap eU8),Znl,Znl]] rfl ?_)
  exact Sv
 refine Z1 (Ac (csr (fl Agg ti3 rfl rfl rfl rfl rfl rfl (sv rfl (Aa Ur rfl) (fl Acr ti3 rfl rfl rfl rfl rfl rfl (sv rfl (Aa Ur rfl) (fl Af3 ti3 rfl rfl rfl rfl rfl rfl (sv rfl (Aa Ur rfl) (fl Aak ti3 rfl rfl rfl rfl rfl rfl (sv rfl (Be A0h A0i (Ah rfl (Ah rfl (Ah rfl Ay))) (.cons _ _ _ _ _ _ _ rfl rfl (Nbl rfl) (.cons _ _ _ _ _ _ _ rfl rfl (Nbl rfl) (.cons _ _ _ _ _ _ _ rfl rfl (Nbl rfl) (.nil _))))) (fl Afp ti3 rfl rfl rfl rfl rfl rfl (fl Aiq ti3 rfl rfl rfl rfl rfl rfl (sv rfl (Be A1k A0k (Ah rfl (Ah rfl (Ah rfl (Ah rfl Ay)))) (.cons _ _ _ _ _ _ _ rfl rfl (Nbl rfl) (.cons _ _ _ _ _ _ _ rfl rfl (Nbl rfl) (.cons _ _ _ _ _ _ _ rfl rfl (Nbl rfl) (.cons _ _ _ _ _ _ _ rfl rfl (Nbl rfl) (.nil _)))))) (sv rfl (Aa Akk rfl) (An A0v rfl rfl rfl rfl (Nbl rfl) (Bs [.box (el a0),.box Zba,.box (el a0.Cfg),.box (Thb a0 v1 v2 (Znl) (Znl) (Znl))] rfl (Al (Bp (csr (rm 1 rfl (Al ?_)))))))))))))))))))))
 refine Ox 52 3 3 6 (by decide) rfl rfl ?_
 refine Gg ((List Cf)) (fun b3 => [(1,.s (.one (.lp 0 0))),(2,.s (.one (.lp 1 0))),(4,.s (.one (.lp 3 0)))]) (fun b3 => [.box (el a0),.box Zba,.box (el a0.Cfg),.box (Thb a0 v1 v2 (.ls 4 b3.length) (Znl) (Znl)),.arr 52 3 0 (b3.flatMap Ck)]) (fun b3 => Me a0 v1 v2 b3 = some r) (fun _ _ => A6 rfl) (fun _ _ => Ar rfl) (fun _ _ => Nbl rfl) (fun b3 h => ?_) ?_
 ·unfold Me at h
  refine Bp (csr (rm 1 rfl (Al ?_)))
  refine Ox 131 12 3 38 (by decide) rfl rfl ?_
  refine Gg ((List Di)) (fun b4 => [(1,.s (.one (.lp 0 0))),(2,.s (.one (.lp 1 0))),(4,.s (.one (.lp 3 0)))]) (fun b4 => [.box (el a0),.box Zba,.box (el a0.Cfg),.box (Thb a0 v1 v2 (.ls 4 b3.length) (.ls 5 b4.length) (Znl)),.arr 52 3 0 (b3.flatMap Ck),.arr 131 12 0 (b4.flatMap C0)]) (fun b4 => Md a0 v1 v2 b3 b4 = some r) (fun _ _ => A6 rfl) (fun _ _ => Ar rfl) (fun _ _ => Nbl rfl) (fun b4 h => ?_) ?_
  ·unfold Md at h
   refine Bp (csr (rm 1 rfl (Al ?_)))
   refine Ox 132 10 3 39 (by decide) rfl rfl ?_
   refine Gg ((List Cw)) (fun b5 => [(2,.s (.one (.lp 1 0))),(4,.s (.one (.lp 3 0)))]) (fun b5 => [.box (el a0),.box Zba,.box (el a0.Cfg),.box (Thb a0 v1 v2 (.ls 4 b3.length) (.ls 5 b4.length) (.ls 6 b5.length)),.arr 52 3 0 (b3.flatMap Ck),.arr 131 12 0 (b4.flatMap C0),.arr 132 10 0 (b5.flatMap Fz)]) (fun b5 => N9 a0 v1 v2 b3 b4 b5 = some r) (fun _ _ => A6 rfl) (fun _ _ => Ar rfl) (fun _ _ => Nbl rfl) (fun b5 h => ?_) ?_
   ·unfold N9 at h
    refine csr (sv rfl (Ai Ay6 rfl (.lp _ _ _ rfl) (Nbl rfl)) (An Ayl rfl rfl rfl rfl (Nbl rfl) (Bs [.box (el a0),.box (Thb a0 v1 v2 (.ls 4 b3.length) (.ls 5 b4.length) (.ls 6 b5.length)),.box (el a0.Cfg),.box (Thb a0 v1 v2 (.ls 4 b3.length) (.ls 5 b4.length) (.ls 6 b5.length)),.arr 52 3 0 (b3.flatMap Ck),.arr 131 12 0 (b4.flatMap C0),.arr 132 10 0 (b5.flatMap Fz)] rfl (Al (Bg ?_)))))
    cases SJ h
    refine ⟨Or.inr rfl,_,_,_,(Aj (Cu.agg _ _ _ _ _ Ay6 rfl (.lp _ _ _ rfl) (Nbl rfl)) As),(by (repeat' first | exact Kf.nil _ | apply Kf.cons | apply Ke.one | apply Ke.agg | exact Em.nil | exact Em.ls _ _ _ _ _ _ rfl (A7 (f := C0) (fun _ => rfl) _).symm | exact Em.ls _ _ _ _ _ _ rfl (A7 (f := Ck) (fun _ => rfl) _).symm | exact Em.ls _ _ _ _ _ _ rfl (A7 (f := Fz) (fun _ => rfl) _).symm | exact Em.id _ rfl | exact Dv.nil _ | apply Dv.cons)),?_⟩
    rfl
   ·skip
    refine B3 ?_
    obtain ⟨x6,hx6,ho6⟩ := Ag h
    refine Ct (G := Nat × (Int × (List Cw))) (fun g => [(1,.s (.one (.lp 0 0))),(2,.s (.one (.lp 1 0))),(4,.s (.one (.lp 3 0))),(11,.s (.one (Ii6 g.2.1)))]) (fun g => [.box (el a0),.box Zba,.box (el a0.Cfg),.box (Thb a0 v1 v2 (.ls 4 b3.length) (.ls 5 b4.length) (.ls 6 g.2.2.length)),.arr 52 3 0 (b3.flatMap Ck),.arr 131 12 0 (b4.flatMap C0),.arr 132 10 0 (g.2.2.flatMap Fz)]) (fun g => Ec (J0 a0) g.1 g.2 = some x6) (fun g => g.1) (fuel,(0,([] : List Cw))) hx6 ⟨rfl,rfl,rfl,rfl,trivial⟩ [] rfl (fun _ _ => A6 rfl) (fun _ _ => Ar rfl) (fun _ _ => Nbl rfl) ?_
    clear hx6 h
    rintro ⟨n6,s6⟩ h
    obtain ⟨n6,y6,rfl,h,hk6⟩ := Fj h
    unfold J0 at h
    refine Bp (csr (rm 1 rfl (fl Yb Ar5 rfl rfl rfl rfl rfl rfl (sv rfl (Aq Alz rfl) (sv rfl (Ci rfl rfl) (Al (ccI h rfl (fun h => ?_) (fun h => ?_))))))))
    ·refine Bi (Ac (Bp (B3 (csr (fl Yb Ar5 rfl rfl rfl rfl rfl rfl (sv rfl (Bc rfl) ?_))))))
     obtain ⟨u7,hu7,h⟩ := Ag h
     refine sv rfl (Db (f := A5) Alz (fun _ => rfl) rfl rfl rfl rfl hu7) ?_
     refine sv rfl (Cb (ys := [Ii6 u7.Token,Ii6 u7.Attempt,Ii6 u7.Regs.R0,Ii6 u7.Regs.R1,Ii6 u7.Regs.R2,Ii6 u7.Regs.R3,Ii6 u7.Regs.R4,Ii6 u7.Regs.R5,Ii6 u7.Regs.R6,Ii6 u7.Regs.R7]) Azl rfl (.cp _) rfl rfl) (Bw rfl Awz (An Ayb rfl rfl rfl rfl (Nbl rfl) (Bs [.box (el a0),.box Zba,.box (el a0.Cfg),.box (Thb a0 v1 v2 (.ls 4 b3.length) (.ls 5 b4.length) (.ls 6 s6.2.length)),.arr 52 3 0 (b3.flatMap Ck),.arr 131 12 0 (b4.flatMap C0),.arr 132 10 0 (s6.2.flatMap Fz),.box (el u7)] rfl (Al (Az (fl Vg Ar6 rfl rfl rfl rfl rfl rfl (fl Aus ti3 rfl rfl rfl rfl rfl rfl (fl Aur ti3 rfl rfl rfl rfl rfl rfl (sv rfl (Aa As0 rfl) (sv rfl (Ai Auk rfl (.lp _ _ _ rfl) (Nbl rfl)) (sv rfl (Be Aw5 Av5 (Ah rfl (Ah rfl (Ah rfl Ay))) (.cons _ _ _ _ _ _ _ rfl rfl (Nbl rfl) (.cons _ _ _ _ _ _ _ rfl rfl (Nbl rfl) (.cons _ _ _ _ _ _ _ rfl rfl (Nbl rfl) (.nil _))))) ?_)))))))))))
     refine O9 rfl Tryz.underlying82 Atw rfl rfl (List.all_eq_true.1 rfl) (by decide) ?_
     refine Bs [.box (el a0),.box Zba,.box (el a0.Cfg),.box (Thb a0 v1 v2 (.ls 4 b3.length) (.ls 5 b4.length) (.ls 6 s6.2.length)),.arr 52 3 0 (b3.flatMap Ck),.arr 131 12 0 (b4.flatMap C0),.arr 132 10 0 (s6.2.flatMap Fz),.box (el u7),.arr 132 10 0 ([(Cw.mk u7.Token u7.Attempt u7.Regs)].flatMap Fz)] rfl ?_
     obtain ⟨hb8,h⟩ := Dx h
     refine Af4 (f := Fz) (xs := s6.2) (us := [(Cw.mk u7.Token u7.Attempt u7.Regs)]) rfl Tryz.underlying82 Atw A06 (fun _ => rfl) rfl rfl (.one _ _ _ _ (.ls _ _ _ _ _ _ rfl (A7 (f := Fz) (fun _ => rfl) [(Cw.mk u7.Token u7.Attempt u7.Regs)]).symm)) rfl rfl rfl (.sl _ _ _ (A7 (f := Fz) (fun _ => rfl) _)) rfl rfl hb8 (by decide) ?_
     refine sv rfl (Aa Vg rfl) (An Az0 rfl rfl rfl rfl (Nbl rfl) (Bs [.box (el a0),.box Zba,.box (el a0.Cfg),.box [Ii6 a0.Cfg.Who,Ii6 a0.Cfg.Plan.Wait,Ii6 a0.Cfg.Plan.Most,Ii6 a0.Cfg.Plan.Tries,Ii6 a0.Cfg.Attempts,Ii6 a0.Cfg.Budget,.ls 4 b3.length,Ii6 a0.Phase,Ii6 a0.Epoch,Ii6 a0.Seq,Ii6 a0.Attempt,Ii6 a0.Sent,Ii6 a0.Left,Ii6 a0.Resets,.b a0.Risk,Ii6 v1.PC,Ii6 v1.Regs.R0,Ii6 v1.Regs.R1,Ii6 v1.Regs.R2,Ii6 v1.Regs.R3,Ii6 v1.Regs.R4,Ii6 v1.Regs.R5,Ii6 v1.Regs.R6,Ii6 v1.Regs.R7,.b v1.Stopped,Ii6 v2.Kind,Ii6 v2.Seq,Ii6 v2.Token,Ii6 v2.Attempt,.b v2.RO,.sl v2.Key.length (v2.Key.flatMap eU8),.sl v2.Val.length (v2.Val.flatMap eU8),.sl v2.Rng.Lo.length (v2.Rng.Lo.flatMap eU8),.sl v2.Rng.Hi.length (v2.Rng.Hi.flatMap eU8),.b v2.Rng.Open,.sl a0.In.Buf.length (a0.In.Buf.flatMap eU8),Ii6 a0.In.Dead,.sl a0.Out.length (a0.Out.flatMap eU8),.ls 5 b4.length,.ls 6 (s6.2 ++ [(Cw.mk u7.Token u7.Attempt u7.Regs)]).length],.arr 52 3 0 (b3.flatMap Ck),.arr 131 12 0 (b4.flatMap C0),.arr 132 10 0 ((s6.2 ++ [(Cw.mk u7.Token u7.Attempt u7.Regs)]).flatMap Fz),.box (el u7),.arr 132 10 ([(Cw.mk u7.Token u7.Attempt u7.Regs)].flatMap Fz).length ([(Cw.mk u7.Token u7.Attempt u7.Regs)].flatMap Fz)] rfl (Mp (Aw (Ac (Az (rm 1 rfl (sv rfl (B4 rfl rfl) (rm 1 rfl (Al ?_))))))))))
     cases SJ h
     exact ⟨(n6,((wI (s6.1 + 1)),(s6.2 ++ [(Cw.mk u7.Token u7.Attempt u7.Regs)]))),_,hk6,⟨rfl,rfl,rfl,rfl,trivial⟩,rfl,Nat.lt_succ_self _⟩
    ·refine Kk (Bd (Bd (B8 (Ac ?_))))
     cases SJ h
     obtain rfl : _ = x6 := hk6
     exact ⟨s6.2,_,ho6,⟨rfl,rfl,trivial⟩,rfl⟩
  ·skip
   refine B3 ?_
   obtain ⟨x10,hx10,ho10⟩ := Ag h
   refine Ct (G := Nat × (Int × (List Di))) (fun g => [(1,.s (.one (.lp 0 0))),(2,.s (.one (.lp 1 0))),(4,.s (.one (.lp 3 0))),(9,.s (.one (Ii6 g.2.1)))]) (fun g => [.box (el a0),.box Zba,.box (el a0.Cfg),.box (Thb a0 v1 v2 (.ls 4 b3.length) (.ls 5 g.2.2.length) (Znl)),.arr 52 3 0 (b3.flatMap Ck),.arr 131 12 0 (g.2.2.flatMap C0)]) (fun g => Ec (Je a0) g.1 g.2 = some x10) (fun g => g.1) (fuel,(0,([] : List Di))) hx10 ⟨rfl,rfl,rfl,rfl,trivial⟩ [] rfl (fun _ _ => A6 rfl) (fun _ _ => Ar rfl) (fun _ _ => Nbl rfl) ?_
   clear hx10 h
   rintro ⟨n10,s10⟩ h
   obtain ⟨n10,y10,rfl,h,hk10⟩ := Fj h
   unfold Je at h
   refine Bp (csr (rm 1 rfl (fl Va Aph rfl rfl rfl rfl rfl rfl (sv rfl (Aq Ah8 rfl) (sv rfl (Ci rfl rfl) (Al (ccI h rfl (fun h => ?_) (fun h => ?_))))))))
   ·refine Bi (Ac (Bp (B3 (csr (fl Va Aph rfl rfl rfl rfl rfl rfl (sv rfl (Bc rfl) ?_))))))
    obtain ⟨u11,hu11,h⟩ := Ag h
    refine sv rfl (Db (f := A3) Ah8 (fun _ => rfl) rfl rfl rfl rfl hu11) ?_
    refine sv rfl (Cb (ys := [Ii6 u11.Token,Ii6 u11.Code,Ii6 u11.Attempt,Ii6 u11.Ts,Ii6 u11.Regs.R0,Ii6 u11.Regs.R1,Ii6 u11.Regs.R2,Ii6 u11.Regs.R3,Ii6 u11.Regs.R4,Ii6 u11.Regs.R5,Ii6 u11.Regs.R6,Ii6 u11.Regs.R7]) Axy rfl (.cp _) rfl rfl) (Bw rfl Asq (An Ayt rfl rfl rfl rfl (Nbl rfl) (Bs [.box (el a0),.box Zba,.box (el a0.Cfg),.box (Thb a0 v1 v2 (.ls 4 b3.length) (.ls 5 s10.2.length) (Znl)),.arr 52 3 0 (b3.flatMap Ck),.arr 131 12 0 (s10.2.flatMap C0),.box (el u11)] rfl (Al (Az (fl U7 Ar3 rfl rfl rfl rfl rfl rfl (fl Apd ti3 rfl rfl rfl rfl rfl rfl (fl Aon ti3 rfl rfl rfl rfl rfl rfl (fl Atv ti3 rfl rfl rfl rfl rfl rfl (fl Aoq ti3 rfl rfl rfl rfl rfl rfl (sv rfl (Aa App rfl) (sv rfl (Ai Auk rfl (.lp _ _ _ rfl) (Nbl rfl)) (sv rfl (Be Axt Aw2 (Ah rfl (Ah rfl (Ah rfl (Ah rfl (Ah rfl Ay))))) (Cg [Ii6 u11.Token,Ii6 0,Ii6 0,Ii6 0,Ii6 0,Ii6 0,Ii6 0,Ii6 0,Ii6 0,Ii6 0,Ii6 0,Ii6 0] rfl rfl (Nbl rfl) rfl (Cg [Ii6 u11.Token,Ii6 u11.Code,Ii6 0,Ii6 0,Ii6 0,Ii6 0,Ii6 0,Ii6 0,Ii6 0,Ii6 0,Ii6 0,Ii6 0] rfl rfl (Nbl rfl) rfl (Cg [Ii6 u11.Token,Ii6 u11.Code,Ii6 u11.Attempt,Ii6 0,Ii6 0,Ii6 0,Ii6 0,Ii6 0,Ii6 0,Ii6 0,Ii6 0,Ii6 0] rfl rfl (Nbl rfl) rfl (Cg [Ii6 u11.Token,Ii6 u11.Code,Ii6 u11.Attempt,Ii6 u11.Ts,Ii6 0,Ii6 0,Ii6 0,Ii6 0,Ii6 0,Ii6 0,Ii6 0,Ii6 0] rfl rfl (Nbl rfl) rfl (Cg [Ii6 u11.Token,Ii6 u11.Code,Ii6 u11.Attempt,Ii6 u11.Ts,Ii6 u11.Regs.R0,Ii6 u11.Regs.R1,Ii6 u11.Regs.R2,Ii6 u11.Regs.R3,Ii6 u11.Regs.R4,Ii6 u11.Regs.R5,Ii6 u11.Regs.R6,Ii6 u11.Regs.R7] rfl rfl (Nbl rfl) rfl (.nil _))))))) ?_)))))))))))))
    refine O9 rfl Tryz.underlying81 At9 rfl rfl (List.all_eq_true.1 rfl) (by decide) ?_
    refine Bs [.box (el a0),.box Zba,.box (el a0.Cfg),.box (Thb a0 v1 v2 (.ls 4 b3.length) (.ls 5 s10.2.length) (Znl)),.arr 52 3 0 (b3.flatMap Ck),.arr 131 12 0 (s10.2.flatMap C0),.box (el u11),.arr 131 12 0 ([(Di.mk u11.Token u11.Code u11.Attempt u11.Ts u11.Regs)].flatMap C0)] rfl ?_
    obtain ⟨hb12,h⟩ := Dx h
    refine Af4 (f := C0) (xs := s10.2) (us := [(Di.mk u11.Token u11.Code u11.Attempt u11.Ts u11.Regs)]) rfl Tryz.underlying81 At9 A1b (fun _ => rfl) rfl rfl (.one _ _ _ _ (.ls _ _ _ _ _ _ rfl (A7 (f := C0) (fun _ => rfl) [(Di.mk u11.Token u11.Code u11.Attempt u11.Ts u11.Regs)]).symm)) rfl rfl rfl (.sl _ _ _ (A7 (f := C0) (fun _ => rfl) _)) rfl rfl hb12 (by decide) ?_
    refine sv rfl (Aa U7 rfl) (An A14 rfl rfl rfl rfl (Nbl rfl) (Bs [.box (el a0),.box Zba,.box (el a0.Cfg),.box [Ii6 a0.Cfg.Who,Ii6 a0.Cfg.Plan.Wait,Ii6 a0.Cfg.Plan.Most,Ii6 a0.Cfg.Plan.Tries,Ii6 a0.Cfg.Attempts,Ii6 a0.Cfg.Budget,.ls 4 b3.length,Ii6 a0.Phase,Ii6 a0.Epoch,Ii6 a0.Seq,Ii6 a0.Attempt,Ii6 a0.Sent,Ii6 a0.Left,Ii6 a0.Resets,.b a0.Risk,Ii6 v1.PC,Ii6 v1.Regs.R0,Ii6 v1.Regs.R1,Ii6 v1.Regs.R2,Ii6 v1.Regs.R3,Ii6 v1.Regs.R4,Ii6 v1.Regs.R5,Ii6 v1.Regs.R6,Ii6 v1.Regs.R7,.b v1.Stopped,Ii6 v2.Kind,Ii6 v2.Seq,Ii6 v2.Token,Ii6 v2.Attempt,.b v2.RO,.sl v2.Key.length (v2.Key.flatMap eU8),.sl v2.Val.length (v2.Val.flatMap eU8),.sl v2.Rng.Lo.length (v2.Rng.Lo.flatMap eU8),.sl v2.Rng.Hi.length (v2.Rng.Hi.flatMap eU8),.b v2.Rng.Open,.sl a0.In.Buf.length (a0.In.Buf.flatMap eU8),Ii6 a0.In.Dead,.sl a0.Out.length (a0.Out.flatMap eU8),.ls 5 (s10.2 ++ [(Di.mk u11.Token u11.Code u11.Attempt u11.Ts u11.Regs)]).length,Znl],.arr 52 3 0 (b3.flatMap Ck),.arr 131 12 0 ((s10.2 ++ [(Di.mk u11.Token u11.Code u11.Attempt u11.Ts u11.Regs)]).flatMap C0),.box (el u11),.arr 131 12 ([(Di.mk u11.Token u11.Code u11.Attempt u11.Ts u11.Regs)].flatMap C0).length ([(Di.mk u11.Token u11.Code u11.Attempt u11.Ts u11.Regs)].flatMap C0)] rfl (Mp (Aw (Ac (Az (rm 1 rfl (sv rfl (B4 rfl rfl) (rm 1 rfl (Al ?_))))))))))
    cases SJ h
    exact ⟨(n10,((wI (s10.1 + 1)),(s10.2 ++ [(Di.mk u11.Token u11.Code u11.Attempt u11.Ts u11.Regs)]))),_,hk10,⟨rfl,rfl,rfl,rfl,trivial⟩,rfl,Nat.lt_succ_self _⟩
   ·refine Kk (Bd (Bd (B8 (Ac ?_))))
    cases SJ h
    obtain rfl : _ = x10 := hk10
    exact ⟨s10.2,_,ho10,⟨rfl,rfl,rfl,trivial⟩,rfl⟩
 ·skip
  refine B3 ?_
  obtain ⟨x14,hx14,ho14⟩ := Ag h
  refine Ct (G := Nat × (Int × (List Cf))) (fun g => [(1,.s (.one (.lp 0 0))),(2,.s (.one (.lp 1 0))),(4,.s (.one (.lp 3 0))),(5,.s (.one (Ii6 g.2.1)))]) (fun g => [.box (el a0),.box Zba,.box (el a0.Cfg),.box (Thb a0 v1 v2 (.ls 4 g.2.2.length) (Znl) (Znl)),.arr 52 3 0 (g.2.2.flatMap Ck)]) (fun g => Ec (Jg a0) g.1 g.2 = some x14) (fun g => g.1) (fuel,(0,([] : List Cf))) hx14 ⟨rfl,rfl,rfl,rfl,trivial⟩ [] rfl (fun _ _ => A6 rfl) (fun _ _ => Ar rfl) (fun _ _ => Nbl rfl) ?_
  clear hx14 h
  rintro ⟨n14,s14⟩ h
  obtain ⟨n14,y14,rfl,h,hk14⟩ := Fj h
  unfold Jg at h
  refine Bp (csr (rm 1 rfl (fl Lw Zp rfl rfl rfl rfl rfl rfl (sv rfl (Aq Vl rfl) (sv rfl (Ci rfl rfl) (Al (ccI h rfl (fun h => ?_) (fun h => ?_))))))))
  ·refine Bi (Ac (Bp (B3 (csr (fl Lw Zp rfl rfl rfl rfl rfl rfl (sv rfl (Bc rfl) ?_))))))
   obtain ⟨u15,hu15,h⟩ := Ag h
   refine sv rfl (Db (f := Ap) Vl (fun _ => rfl) rfl rfl rfl rfl hu15) ?_
   refine sv rfl (Bj Y0 rfl) (sv rfl (Bj Ajg rfl) (sv rfl (Ae ti4 rfl (.cp _) rfl) (sv rfl (Be Azo A11 (Ah rfl Ay) (.cons _ _ _ _ _ _ _ rfl rfl (Nbl rfl) (.nil _))) (Bw rfl Azo (An A0a rfl rfl rfl rfl (Nbl rfl) (Bs [.box (el a0),.box Zba,.box (el a0.Cfg),.box (Thb a0 v1 v2 (.ls 4 s14.2.length) (Znl) (Znl)),.arr 52 3 0 (s14.2.flatMap Ck),.box [.b u15.Prog.RO,Znl]] rfl (Al (Bp (csr (rm 1 rfl (Al ?_)))))))))))
   refine Ox 135 8 5 1 (by decide) rfl rfl ?_
   refine Gg ((List Kh)) (fun b16 => [(1,.s (.one (.lp 0 0))),(2,.s (.one (.lp 1 0))),(4,.s (.one (.lp 3 0))),(5,.s (.one (Ii6 s14.1))),(6,.s (.one (.lp 5 0)))]) (fun b16 => [.box (el a0),.box Zba,.box (el a0.Cfg),.box (Thb a0 v1 v2 (.ls 4 s14.2.length) (Znl) (Znl)),.arr 52 3 0 (s14.2.flatMap Ck),.box [.b u15.Prog.RO,.ls 6 b16.length],.arr 135 8 0 (b16.flatMap Ep)]) (fun b16 => Lh a0 s14 u15 b16 = some y14) (fun _ _ => A6 rfl) (fun _ _ => Ar rfl) (fun _ _ => Nbl rfl) (fun b16 h => ?_) ?_
   ·unfold Lh at h
    refine Ab0 5 1 rfl rfl (Em.ls _ _ _ _ _ _ rfl (A7 (f := Ep) (fun _ => rfl) (b16 : List Kh)).symm) rfl ?_
    obtain ⟨u17,hu17,h⟩ := Ag h
    obtain ⟨hb18,h⟩ := Dx h
    refine Jj [11,13] [0,1,0,4,0,28,60,124,0,508,1020,2047,4095,8191] [[.box (el a0),.box Zba,.box (el a0.Cfg),.box (Thb a0 v1 v2 (.ls 4 s14.2.length) (Znl) (Znl)),.arr 52 3 0 (s14.2.flatMap Ck),.box (el (Cp.mk u15.Prog.RO b16)),.arr 135 8 (b16.flatMap Ep).length (b16.flatMap Ep)],[.box (el a0),.box Zba,.box (el a0.Cfg),.box (Thb a0 v1 v2 (.ls 4 s14.2.length) (Znl) (Znl)),.arr 52 3 0 ((s14.2 ++ ([(Cf.mk u17.Token (Cp.mk u15.Prog.RO b16))] : List Cf)).flatMap Ck),.box (el (Cp.mk u15.Prog.RO b16)),.arr 135 8 (b16.flatMap Ep).length (b16.flatMap Ep)],[.box (el a0),.box Zba,.box (el a0.Cfg),.box [Ii6 a0.Cfg.Who,Ii6 a0.Cfg.Plan.Wait,Ii6 a0.Cfg.Plan.Most,Ii6 a0.Cfg.Plan.Tries,Ii6 a0.Cfg.Attempts,Ii6 a0.Cfg.Budget,.ls 4 (s14.2 ++ ([(Cf.mk u17.Token (Cp.mk u15.Prog.RO b16))] : List Cf)).length,Ii6 a0.Phase,Ii6 a0.Epoch,Ii6 a0.Seq,Ii6 a0.Attempt,Ii6 a0.Sent,Ii6 a0.Left,Ii6 a0.Resets,.b a0.Risk,Ii6 v1.PC,Ii6 v1.Regs.R0,Ii6 v1.Regs.R1,Ii6 v1.Regs.R2,Ii6 v1.Regs.R3,Ii6 v1.Regs.R4,Ii6 v1.Regs.R5,Ii6 v1.Regs.R6,Ii6 v1.Regs.R7,.b v1.Stopped,Ii6 v2.Kind,Ii6 v2.Seq,Ii6 v2.Token,Ii6 v2.Attempt,.b v2.RO,.sl v2.Key.length (v2.Key.flatMap eU8),.sl v2.Val.length (v2.Val.flatMap eU8),.sl v2.Rng.Lo.length (v2.Rng.Lo.flatMap eU8),.sl v2.Rng.Hi.length (v2.Rng.Hi.flatMap eU8),.b v2.Rng.Open,.sl a0.In.Buf.length (a0.In.Buf.flatMap eU8),Ii6 a0.In.Dead,.sl a0.Out.length (a0.Out.flatMap eU8),Znl,Znl],.arr 52 3 0 ((s14.2 ++ ([(Cf.mk u17.Token (Cp.mk u15.Prog.RO b16))] : List Cf)).flatMap Ck),.box (el (Cp.mk u15.Prog.RO b16)),.arr 135 8 (b16.flatMap Ep).length (b16.flatMap Ep)]] (by kernel_rfl) Kd (by kernel_rfl) (by decide) rfl rfl rfl rfl ?_
    refine ev (Bb 0 rfl rfl) rfl rfl (Aa Wb rfl) (ev (Bb 0 rfl rfl) rfl rfl (Ae Aog rfl (.lp _ _ _ rfl) rfl) (ev (Bb 0 rfl rfl) rfl rfl (Aa Lw rfl) (ev (Bb 0 rfl rfl) rfl rfl (Ae Zp rfl (.lp _ _ _ rfl) rfl) (ev (Bb 0 rfl rfl) rfl rfl (Bc rfl) (ev (Bb 0 rfl rfl) rfl rfl (Db (f := Ap) Vl (fun _ => rfl) rfl rfl rfl rfl hu17) ?_)))))
    refine ev (Bb 0 rfl rfl) rfl rfl (Bj Sx rfl) (ev (Bb 0 rfl rfl) rfl rfl (Ae ti3 rfl (.cp _) rfl) (ev (Bb 0 rfl rfl) rfl rfl (Ai Ash rfl (.lp _ _ _ rfl) (Nbl rfl)) (ev (Bb 0 rfl rfl) rfl rfl (Be A0d A0w (Ah rfl (Ah rfl Ay)) (.cons _ _ _ _ _ _ _ rfl rfl (Nbl rfl) (.cons _ _ _ _ _ _ _ rfl rfl (Nbl rfl) (.nil _)))) ?_)))
    refine ed (Bb 0 rfl rfl) rfl rfl (Aqy (out := ([(Cf.mk u17.Token (Cp.mk u15.Prog.RO b16))] : List Cf).flatMap Ck) Tryz.underlying77 Azf (Ah rfl Ay) (.cons _ _ _ _ _ _ _ rfl rfl (Nbl rfl) (.nil _)) rfl (by decide)) ?_
    refine ee (x := .s (.one (.ls 4 (s14.2 ++ ([(Cf.mk u17.Token (Cp.mk u15.Prog.RO b16))] : List Cf)).length))) 0 rfl rfl rfl rfl rfl (fun ζ => ?_) ?_
    ·refine Af4 (f := Ck) (xs := s14.2) (us := ([(Cf.mk u17.Token (Cp.mk u15.Prog.RO b16))] : List Cf)) rfl Tryz.underlying77 Azf A0n (fun _ => rfl) rfl rfl (.one _ _ _ _ (.id _ rfl)) rfl rfl rfl (.sl _ _ _ (A7 (f := Ck) (fun _ => rfl) _)) rfl rfl hb18 (by decide) ?_
     exact Sv
    refine ev (Bb 1 rfl rfl) rfl rfl (Aa Wb rfl) (ee0 1 rfl rfl rfl rfl (fun ζ => ?_) ?_)
    ·refine An A0t rfl rfl rfl rfl (Nbl rfl) (Bs [.box (el a0),.box Zba,.box (el a0.Cfg),.box [Ii6 a0.Cfg.Who,Ii6 a0.Cfg.Plan.Wait,Ii6 a0.Cfg.Plan.Most,Ii6 a0.Cfg.Plan.Tries,Ii6 a0.Cfg.Attempts,Ii6 a0.Cfg.Budget,.ls 4 (s14.2 ++ ([(Cf.mk u17.Token (Cp.mk u15.Prog.RO b16))] : List Cf)).length,Ii6 a0.Phase,Ii6 a0.Epoch,Ii6 a0.Seq,Ii6 a0.Attempt,Ii6 a0.Sent,Ii6 a0.Left,Ii6 a0.Resets,.b a0.Risk,Ii6 v1.PC,Ii6 v1.Regs.R0,Ii6 v1.Regs.R1,Ii6 v1.Regs.R2,Ii6 v1.Regs.R3,Ii6 v1.Regs.R4,Ii6 v1.Regs.R5,Ii6 v1.Regs.R6,Ii6 v1.Regs.R7,.b v1.Stopped,Ii6 v2.Kind,Ii6 v2.Seq,Ii6 v2.Token,Ii6 v2.Attempt,.b v2.RO,.sl v2.Key.length (v2.Key.flatMap eU8),.sl v2.Val.length (v2.Val.flatMap eU8),.sl v2.Rng.Lo.length (v2.Rng.Lo.flatMap eU8),.sl v2.Rng.Hi.length (v2.Rng.Hi.flatMap eU8),.b v2.Rng.Open,.sl a0.In.Buf.length (a0.In.Buf.flatMap eU8),Ii6 a0.In.Dead,.sl a0.Out.length (a0.Out.flatMap eU8),Znl,Znl],.arr 52 3 0 ((s14.2 ++ ([(Cf.mk u17.Token (Cp.mk u15.Prog.RO b16))] : List Cf)).flatMap Ck),.box (el (Cp.mk u15.Prog.RO b16)),.arr 135 8 (b16.flatMap Ep).length (b16.flatMap Ep)] rfl ?_)
     exact Sv
    refine Z1 (Aw (Ac (Az (rm 1 rfl (sv rfl (B4 rfl rfl) (rm 1 rfl (Al ?_)))))))
    cases SJ h
    exact ⟨(n14,((wI (s14.1 + 1)),(s14.2 ++ ([(Cf.mk u17.Token (Cp.mk u15.Prog.RO b16))] : List Cf)))),_,hk14,⟨rfl,rfl,rfl,rfl,trivial⟩,rfl,Nat.lt_succ_self _⟩
   ·skip
    refine B3 ?_
    obtain ⟨x19,hx19,ho19⟩ := Ag h
    refine Ct (G := Nat × (Int × (List Kh))) (fun g => [(1,.s (.one (.lp 0 0))),(2,.s (.one (.lp 1 0))),(4,.s (.one (.lp 3 0))),(5,.s (.one (Ii6 s14.1))),(6,.s (.one (.lp 5 0))),(7,.s (.one (Ii6 g.2.1)))]) (fun g => [.box (el a0),.box Zba,.box (el a0.Cfg),.box (Thb a0 v1 v2 (.ls 4 s14.2.length) (Znl) (Znl)),.arr 52 3 0 (s14.2.flatMap Ck),.box [.b u15.Prog.RO,.ls 6 g.2.2.length],.arr 135 8 0 (g.2.2.flatMap Ep)]) (fun g => Ec (Ho a0 s14) g.1 g.2 = some x19) (fun g => g.1) (fuel,(0,([] : List Kh))) hx19 ⟨rfl,rfl,rfl,rfl,rfl,rfl,trivial⟩ [] rfl (fun _ _ => A6 rfl) (fun _ _ => Ar rfl) (fun _ _ => Nbl rfl) ?_
    clear hx19 h
    rintro ⟨n19,s19⟩ h
    obtain ⟨n19,y19,rfl,h,hk19⟩ := Fj h
    unfold Ho at h
    refine Bp (csr (rm 1 rfl (fl Lw Zp rfl rfl rfl rfl rfl rfl (sv rfl (Bc rfl) ?_))))
    obtain ⟨u20,hu20,h⟩ := Ag h
    refine sv rfl (Db (f := Ap) Vl (fun _ => rfl) rfl rfl rfl rfl hu20) ?_
    refine sv rfl (Bj Y0 rfl) (sv rfl (Bj Si rfl) (sv rfl (Ae Ald rfl (.cp _) rfl) (sv rfl (Aq Aki rfl) (sv rfl (Ci rfl rfl) (Al (ccI h rfl (fun h => ?_) (fun h => ?_)))))))
    ·refine Bi (Ac (Bp (B3 (csr (fl Lw Zp rfl rfl rfl rfl rfl rfl (sv rfl (Bc rfl) ?_))))))
     obtain ⟨u21,hu21,h⟩ := Ag h
     refine sv rfl (Db (f := Ap) Vl (fun _ => rfl) rfl rfl rfl rfl hu21) ?_
     refine sv rfl (Bj Y0 rfl) (sv rfl (Bj Si rfl) (sv rfl (Ae Ald rfl (.cp _) rfl) (sv rfl (Bc rfl) ?_)))
     obtain ⟨u22,hu22,h⟩ := Ag h
     refine sv rfl (Db (f := Ce) Aki (fun _ => rfl) rfl rfl rfl rfl hu22) ?_
     refine sv rfl (Cb (ys := [Ii6 u22.What,Ii6 u22.A,Ii6 u22.B,Ii6 u22.N,.sl u22.Key.length (u22.Key.flatMap eU8),.sl u22.Rng.Lo.length (u22.Rng.Lo.flatMap eU8),.sl u22.Rng.Hi.length (u22.Rng.Hi.flatMap eU8),.b u22.Rng.Open]) Ame rfl (.cp _) rfl rfl) (Bw rfl Ar0 (An Au1 rfl rfl rfl rfl (Nbl rfl) (Bs [.box (el a0),.box Zba,.box (el a0.Cfg),.box (Thb a0 v1 v2 (.ls 4 s14.2.length) (Znl) (Znl)),.arr 52 3 0 (s14.2.flatMap Ck),.box [.b u15.Prog.RO,.ls 6 s19.2.length],.arr 135 8 0 (s19.2.flatMap Ep),.box (el u22)] rfl (Al (Az (fl Rm Ah7 rfl rfl rfl rfl rfl rfl (fl Xg ti3 rfl rfl rfl rfl rfl rfl (fl Vz ti3 rfl rfl rfl rfl rfl rfl (fl Zh ti3 rfl rfl rfl rfl rfl rfl (fl Aag ti3 rfl rfl rfl rfl rfl rfl (fl Aab I9 rfl rfl rfl rfl rfl rfl (sv rfl (Aa Agp rfl) (sv rfl (Ai Ahk rfl (.lp _ _ _ rfl) (Nbl rfl)) (sv rfl (Be Al0 Axp (Ah rfl (Ah rfl (Ah rfl (Ah rfl (Ah rfl (Ah rfl Ay)))))) (Cg [Ii6 u22.What,Ii6 0,Ii6 0,Ii6 0,Znl,Znl,Znl,.b false] rfl rfl (Nbl rfl) rfl (Cg [Ii6 u22.What,Ii6 u22.A,Ii6 0,Ii6 0,Znl,Znl,Znl,.b false] rfl rfl (Nbl rfl) rfl (Cg [Ii6 u22.What,Ii6 u22.A,Ii6 u22.B,Ii6 0,Znl,Znl,Znl,.b false] rfl rfl (Nbl rfl) rfl (Cg [Ii6 u22.What,Ii6 u22.A,Ii6 u22.B,Ii6 u22.N,Znl,Znl,Znl,.b false] rfl rfl (Nbl rfl) rfl (Cg [Ii6 u22.What,Ii6 u22.A,Ii6 u22.B,Ii6 u22.N,.sl u22.Key.length (u22.Key.flatMap eU8),Znl,Znl,.b false] rfl rfl (Nbl rfl) rfl (Cg [Ii6 u22.What,Ii6 u22.A,Ii6 u22.B,Ii6 u22.N,.sl u22.Key.length (u22.Key.flatMap eU8),.sl u22.Rng.Lo.length (u22.Rng.Lo.flatMap eU8),.sl u22.Rng.Hi.length (u22.Rng.Hi.flatMap eU8),.b u22.Rng.Open] rfl rfl (Nbl rfl) rfl (.nil _)))))))) ?_))))))))))))))
     refine O9 rfl Tryz.underlying48 As3 rfl rfl (List.all_eq_true.1 rfl) (by decide) ?_
     refine Bs [.box (el a0),.box Zba,.box (el a0.Cfg),.box (Thb a0 v1 v2 (.ls 4 s14.2.length) (Znl) (Znl)),.arr 52 3 0 (s14.2.flatMap Ck),.box [.b u15.Prog.RO,.ls 6 s19.2.length],.arr 135 8 0 (s19.2.flatMap Ep),.box (el u22),.arr 135 8 0 ([(Kh.mk u22.What u22.A u22.B u22.N u22.Key u22.Rng)].flatMap Ep)] rfl ?_
     obtain ⟨hb23,h⟩ := Dx h
     refine Af4 (f := Ep) (xs := s19.2) (us := [(Kh.mk u22.What u22.A u22.B u22.N u22.Key u22.Rng)]) rfl Tryz.underlying48 As3 A0l (fun _ => rfl) rfl rfl (.one _ _ _ _ (.ls _ _ _ _ _ _ rfl (A7 (f := Ep) (fun _ => rfl) [(Kh.mk u22.What u22.A u22.B u22.N u22.Key u22.Rng)]).symm)) rfl rfl rfl (.sl _ _ _ (A7 (f := Ep) (fun _ => rfl) _)) rfl rfl hb23 (by decide) ?_
     refine sv rfl (Aa Rm rfl) (An A1c rfl rfl rfl rfl (Nbl rfl) (Bs [.box (el a0),.box Zba,.box (el a0.Cfg),.box (Thb a0 v1 v2 (.ls 4 s14.2.length) (Znl) (Znl)),.arr 52 3 0 (s14.2.flatMap Ck),.box [.b u15.Prog.RO,.ls 6 (s19.2 ++ [(Kh.mk u22.What u22.A u22.B u22.N u22.Key u22.Rng)]).length],.arr 135 8 0 ((s19.2 ++ [(Kh.mk u22.What u22.A u22.B u22.N u22.Key u22.Rng)]).flatMap Ep),.box (el u22),.arr 135 8 ([(Kh.mk u22.What u22.A u22.B u22.N u22.Key u22.Rng)].flatMap Ep).length ([(Kh.mk u22.What u22.A u22.B u22.N u22.Key u22.Rng)].flatMap Ep)] rfl (Mp (Aw (Ac (Az (rm 1 rfl (sv rfl (B4 rfl rfl) (rm 1 rfl (Al ?_))))))))))
     cases SJ h
     exact ⟨(n19,((wI (s19.1 + 1)),(s19.2 ++ [(Kh.mk u22.What u22.A u22.B u22.N u22.Key u22.Rng)]))),_,hk19,⟨rfl,rfl,rfl,rfl,rfl,rfl,trivial⟩,rfl,Nat.lt_succ_self _⟩
    ·refine Kk (Bd (Bd (B8 (Ac ?_))))
     cases SJ h
     obtain rfl : _ = x19 := hk19
     exact ⟨s19.2,_,ho19,⟨rfl,rfl,rfl,rfl,rfl,trivial⟩,rfl⟩
  ·refine Kk (Bd (Bd (B8 (Ac ?_))))
   cases SJ h
   obtain rfl : _ = x14 := hk14
   exact ⟨s14.2,_,ho14,⟨rfl,rfl,rfl,trivial⟩,rfl⟩
def L6 (a0 : N5) (a1 : N5) : Option Bool :=
 if (decide (a0.Kind = a1.Kind)) then (if (decide (a0.Seq = a1.Seq)) then (if (decide (a0.Token = a1.Token)) then (if (decide (a0.Attempt = a1.Attempt)) then (if (a0.RO == a1.RO) then (if (a0.Key == a1.Key) then (if (a0.Val == a1.Val) then (if (a0.Rng.Lo == a1.Rng.Lo) then (if (a0.Rng.Hi == a1.Rng.Hi) then (some (a0.Rng.Open == a1.Rng.Open)) else (some false)) else (some false)) else (some false)) else (some false)) else (some false)) else (some false)) else (some false)) else (some false)) else (some false)
theorem Wm {a0 : N5} {a1 : N5} {r : Bool} (h : L6 a0 a1 = some r) : Bl Tryz.prog 48 [.agg (el a0),.agg (el a1)] (· = .s (.one (.b r))) := by
 unfold L6 at h
 refine Au Tryz.func48 rfl (nt := 87) rfl (Nbl rfl) ?_
 intro w0 S0
 refine csr (Ih rfl rfl (Ih rfl rfl (rm 1 rfl (Al (csr (fl Ao4 ti3 rfl rfl rfl rfl rfl rfl (fl Ao4 ti3 rfl rfl rfl rfl rfl rfl (sv rfl (Bn rfl rfl) (rm 1 rfl (Bf 10 rfl (fun hc => ?_) (fun hc => ?_)))))))))))
 ·replace h := Br hc h
  clear hc
  refine son rfl rfl rfl (sv rfl (Aa Aoc rfl) (son rfl rfl rfl (sv rfl (Ae ti3 rfl (.lp _ _ _ rfl) rfl) (son rfl rfl rfl (sv rfl (Aa Aoc rfl) (son rfl rfl rfl (sv rfl (Ae ti3 rfl (.lp _ _ _ rfl) rfl) (son rfl rfl rfl (sv rfl (Bn rfl rfl) (rm 2 rfl (Bf 17 rfl (fun hc => ?_) (fun hc => ?_))))))))))))
  ·replace h := Br hc h
   clear hc
   refine son rfl rfl rfl (sv rfl (Aa An6 rfl) (son rfl rfl rfl (sv rfl (Ae ti3 rfl (.lp _ _ _ rfl) rfl) (son rfl rfl rfl (sv rfl (Aa An6 rfl) (son rfl rfl rfl (sv rfl (Ae ti3 rfl (.lp _ _ _ rfl) rfl) (son rfl rfl rfl (sv rfl (Bn rfl rfl) (rm 2 rfl (Bf 24 rfl (fun hc => ?_) (fun hc => ?_))))))))))))
   ·replace h := Br hc h
    clear hc
    refine son rfl rfl rfl (sv rfl (Aa Aow rfl) (son rfl rfl rfl (sv rfl (Ae ti3 rfl (.lp _ _ _ rfl) rfl) (son rfl rfl rfl (sv rfl (Aa Aow rfl) (son rfl rfl rfl (sv rfl (Ae ti3 rfl (.lp _ _ _ rfl) rfl) (son rfl rfl rfl (sv rfl (Bn rfl rfl) (rm 2 rfl (Bf 31 rfl (fun hc => ?_) (fun hc => ?_))))))))))))
    ·replace h := Br hc h
     clear hc
     refine son rfl rfl rfl (sv rfl (Aa Aoh rfl) (son rfl rfl rfl (sv rfl (Ae ti4 rfl (.lp _ _ _ rfl) rfl) (son rfl rfl rfl (sv rfl (Aa Aoh rfl) (son rfl rfl rfl (sv rfl (Ae ti4 rfl (.lp _ _ _ rfl) rfl) (son rfl rfl rfl (sv rfl (Aa8 Tryz.underlying4 rfl rfl) (rm 2 rfl (Bf 38 rfl (fun hc => ?_) (fun hc => ?_))))))))))))
     ·replace h := Br hc h
      clear hc
      refine son rfl rfl rfl (sv rfl (Aa Aoi rfl) (son rfl rfl rfl (sv rfl (Ae I9 rfl (.lp _ _ _ rfl) rfl) (son rfl rfl rfl (sv rfl (N7 (l := a0.Key) Tryz.underlying33 Tryz.underlying5 Tryz.underlying9 rfl rfl rfl) (son rfl rfl rfl (sv rfl (Aa Aoi rfl) (son rfl rfl rfl (sv rfl (Ae I9 rfl (.lp _ _ _ rfl) rfl) (son rfl rfl rfl (sv rfl (N7 (l := a1.Key) Tryz.underlying33 Tryz.underlying5 Tryz.underlying9 rfl rfl rfl) (son rfl rfl rfl (sv rfl (Py rfl rfl) (rm 2 rfl (Bf 47 rfl (fun hc => ?_) (fun hc => ?_))))))))))))))))
      ·replace h := Br hc h
       clear hc
       refine son rfl rfl rfl (sv rfl (Aa Apl rfl) (son rfl rfl rfl (sv rfl (Ae I9 rfl (.lp _ _ _ rfl) rfl) (son rfl rfl rfl (sv rfl (N7 (l := a0.Val) Tryz.underlying33 Tryz.underlying5 Tryz.underlying9 rfl rfl rfl) (son rfl rfl rfl (sv rfl (Aa Apl rfl) (son rfl rfl rfl (sv rfl (Ae I9 rfl (.lp _ _ _ rfl) rfl) (son rfl rfl rfl (sv rfl (N7 (l := a1.Val) Tryz.underlying33 Tryz.underlying5 Tryz.underlying9 rfl rfl rfl) (son rfl rfl rfl (sv rfl (Py rfl rfl) (rm 2 rfl (Bf 56 rfl (fun hc => ?_) (fun hc => ?_))))))))))))))))
       ·replace h := Br hc h
        clear hc
        refine son rfl rfl rfl (sv rfl (Aa Aax rfl) (son rfl rfl rfl (sv rfl (Aa Rk rfl) (son rfl rfl rfl (sv rfl (Ae I9 rfl (.lp _ _ _ rfl) rfl) (son rfl rfl rfl (sv rfl (N7 (l := a0.Rng.Lo) Tryz.underlying33 Tryz.underlying5 Tryz.underlying9 rfl rfl rfl) (son rfl rfl rfl (sv rfl (Aa Aax rfl) (son rfl rfl rfl (sv rfl (Aa Rk rfl) (son rfl rfl rfl (sv rfl (Ae I9 rfl (.lp _ _ _ rfl) rfl) (son rfl rfl rfl (sv rfl (N7 (l := a1.Rng.Lo) Tryz.underlying33 Tryz.underlying5 Tryz.underlying9 rfl rfl rfl) (son rfl rfl rfl (sv rfl (Py rfl rfl) (rm 2 rfl (Bf 67 rfl (fun hc => ?_) (fun hc => ?_))))))))))))))))))))
        ·replace h := Br hc h
         clear hc
         refine son rfl rfl rfl (sv rfl (Aa Aax rfl) (son rfl rfl rfl (sv rfl (Aa Pw rfl) (son rfl rfl rfl (sv rfl (Ae I9 rfl (.lp _ _ _ rfl) rfl) (son rfl rfl rfl (sv rfl (N7 (l := a0.Rng.Hi) Tryz.underlying33 Tryz.underlying5 Tryz.underlying9 rfl rfl rfl) (son rfl rfl rfl (sv rfl (Aa Aax rfl) (son rfl rfl rfl (sv rfl (Aa Pw rfl) (son rfl rfl rfl (sv rfl (Ae I9 rfl (.lp _ _ _ rfl) rfl) (son rfl rfl rfl (sv rfl (N7 (l := a1.Rng.Hi) Tryz.underlying33 Tryz.underlying5 Tryz.underlying9 rfl rfl rfl) (son rfl rfl rfl (sv rfl (Py rfl rfl) (rm 2 rfl (Bf 78 rfl (fun hc => ?_) (fun hc => ?_))))))))))))))))))))
         ·replace h := Br hc h
          clear hc
          refine son rfl rfl rfl (sv rfl (Aa Aax rfl) (son rfl rfl rfl (sv rfl (Aa Uk rfl) (son rfl rfl rfl (sv rfl (Ae ti4 rfl (.lp _ _ _ rfl) rfl) (son rfl rfl rfl (sv rfl (Aa Aax rfl) (son rfl rfl rfl (sv rfl (Aa Uk rfl) (son rfl rfl rfl (sv rfl (Ae ti4 rfl (.lp _ _ _ rfl) rfl) (son rfl rfl rfl (sv rfl (Aa8 Tryz.underlying4 rfl rfl) (rm 2 rfl (Al (Bg ?_))))))))))))))))
          cases SJ h
          exact dnT rfl rfl rfl rfl
         ·replace h := Bq hc h
          clear hc
          refine rm 9 rfl (Al (Bg ?_))
          cases SJ h
          exact dnT rfl rfl rfl rfl
        ·replace h := Bq hc h
         clear hc
         refine rm 20 rfl (Al (Bg ?_))
         cases SJ h
         exact dnT rfl rfl rfl rfl
       ·replace h := Bq hc h
        clear hc
        refine rm 31 rfl (Al (Bg ?_))
        cases SJ h
        exact dnT rfl rfl rfl rfl
      ·replace h := Bq hc h
       clear hc
       refine rm 40 rfl (Al (Bg ?_))
       cases SJ h
       exact dnT rfl rfl rfl rfl
     ·replace h := Bq hc h
      clear hc
      refine rm 49 rfl (Al (Bg ?_))
      cases SJ h
      exact dnT rfl rfl rfl rfl
    ·replace h := Bq hc h
     clear hc
     refine rm 56 rfl (Al (Bg ?_))
     cases SJ h
     exact dnT rfl rfl rfl rfl
   ·replace h := Bq hc h
    clear hc
    refine rm 63 rfl (Al (Bg ?_))
    cases SJ h
    exact dnT rfl rfl rfl rfl
  ·replace h := Bq hc h
   clear hc
   refine rm 70 rfl (Al (Bg ?_))
   cases SJ h
   exact dnT rfl rfl rfl rfl
 ·replace h := Bq hc h
  clear hc
  refine rm 77 rfl (Al (Bg ?_))
  cases SJ h
  exact dnT rfl rfl rfl rfl
def O0 (a0 : Nj) (a1 : Nj) : Option Bool :=
 if (a0.Buf == a1.Buf) then (some (decide (a0.Dead = a1.Dead))) else (some false)
theorem Zw {a0 : Nj} {a1 : Nj} {r : Bool} (h : O0 a0 a1 = some r) : Bl Tryz.prog 49 [.agg (el a0),.agg (el a1)] (· = .s (.one (.b r))) := by
 unfold O0 at h
 refine Au Tryz.func49 rfl (nt := 19) rfl (Nbl rfl) ?_
 intro w0 S0
 refine csr (Ih rfl rfl (Ih rfl rfl (rm 1 rfl (Al (csr (fl Aod I9 rfl rfl rfl rfl rfl rfl (sv rfl (N7 (l := a0.Buf) Tryz.underlying33 Tryz.underlying5 Tryz.underlying9 rfl rfl rfl) (fl Aod I9 rfl rfl rfl rfl rfl rfl (sv rfl (N7 (l := a1.Buf) Tryz.underlying33 Tryz.underlying5 Tryz.underlying9 rfl rfl rfl) (sv rfl (Py rfl rfl) (rm 1 rfl (Bf 12 rfl (fun hc => ?_) (fun hc => ?_)))))))))))))
 ·replace h := Br hc h
  clear hc
  refine son rfl rfl rfl (sv rfl (Aa Aok rfl) (son rfl rfl rfl (sv rfl (Ae Aah rfl (.lp _ _ _ rfl) rfl) (son rfl rfl rfl (sv rfl (Aa Aok rfl) (son rfl rfl rfl (sv rfl (Ae Aah rfl (.lp _ _ _ rfl) rfl) (son rfl rfl rfl (sv rfl (Bn rfl rfl) (rm 2 rfl (Al (Bg ?_))))))))))))
  cases SJ h
  exact dnT rfl rfl rfl rfl
 ·replace h := Bq hc h
  clear hc
  refine rm 7 rfl (Al (Bg ?_))
  cases SJ h
  exact dnT rfl rfl rfl rfl
def Jr (a0 : B2) (a1 : B2) : Option Bool :=
 if (a0.Lo == a1.Lo) then (if (a0.Hi == a1.Hi) then (some (a0.Open == a1.Open)) else (some false)) else (some false)
theorem Ux {a0 : B2} {a1 : B2} {r : Bool} (h : Jr a0 a1 = some r) : Bl Tryz.prog 81 [.agg (el a0),.agg (el a1)] (· = .s (.one (.b r))) := by
 unfold Jr at h
 refine Au Tryz.func81 rfl (nt := 28) rfl (Nbl rfl) ?_
 intro w0 S0
 refine csr (Ih rfl rfl (Ih rfl rfl (rm 1 rfl (Al (csr (fl Rk I9 rfl rfl rfl rfl rfl rfl (sv rfl (N7 (l := a0.Lo) Tryz.underlying33 Tryz.underlying5 Tryz.underlying9 rfl rfl rfl) (fl Rk I9 rfl rfl rfl rfl rfl rfl (sv rfl (N7 (l := a1.Lo) Tryz.underlying33 Tryz.underlying5 Tryz.underlying9 rfl rfl rfl) (sv rfl (Py rfl rfl) (rm 1 rfl (Bf 12 rfl (fun hc => ?_) (fun hc => ?_)))))))))))))
 ·replace h := Br hc h
  clear hc
  refine son rfl rfl rfl (sv rfl (Aa Pw rfl) (son rfl rfl rfl (sv rfl (Ae I9 rfl (.lp _ _ _ rfl) rfl) (son rfl rfl rfl (sv rfl (N7 (l := a0.Hi) Tryz.underlying33 Tryz.underlying5 Tryz.underlying9 rfl rfl rfl) (son rfl rfl rfl (sv rfl (Aa Pw rfl) (son rfl rfl rfl (sv rfl (Ae I9 rfl (.lp _ _ _ rfl) rfl) (son rfl rfl rfl (sv rfl (N7 (l := a1.Hi) Tryz.underlying33 Tryz.underlying5 Tryz.underlying9 rfl rfl rfl) (son rfl rfl rfl (sv rfl (Py rfl rfl) (rm 2 rfl (Bf 21 rfl (fun hc => ?_) (fun hc => ?_))))))))))))))))
  ·replace h := Br hc h
   clear hc
   refine son rfl rfl rfl (sv rfl (Aa Uk rfl) (son rfl rfl rfl (sv rfl (Ae ti4 rfl (.lp _ _ _ rfl) rfl) (son rfl rfl rfl (sv rfl (Aa Uk rfl) (son rfl rfl rfl (sv rfl (Ae ti4 rfl (.lp _ _ _ rfl) rfl) (son rfl rfl rfl (sv rfl (Aa8 Tryz.underlying4 rfl rfl) (rm 2 rfl (Al (Bg ?_))))))))))))
   cases SJ h
   exact dnT rfl rfl rfl rfl
  ·replace h := Bq hc h
   clear hc
   refine rm 7 rfl (Al (Bg ?_))
   cases SJ h
   exact dnT rfl rfl rfl rfl
 ·replace h := Bq hc h
  clear hc
  refine rm 16 rfl (Al (Bg ?_))
  cases SJ h
  exact dnT rfl rfl rfl rfl
def P5 (b2 : Unit) : Option Bool :=
 some true
def Jy (a0 : Cp) (a1 : Cp) (s3 : Int) : Option (LR (Int) (Unit) (Bool)) :=
 if (decide (s3 < (a0.Ops.length : Int))) then ((idx a0.Ops s3).bind fun u4 => (idx a1.Ops s3).bind fun u5 => if (!decide (u4.What = u5.What)) then (some (.ret false)) else (if (!decide (u4.A = u5.A)) then (some (.ret false)) else (if (!decide (u4.B = u5.B)) then (some (.ret false)) else (if (!decide (u4.N = u5.N)) then (some (.ret false)) else (if (!(u4.Key == u5.Key)) then (some (.ret false)) else ((Jr u4.Rng u5.Rng).bind fun v6 => if (!v6) then (some (.ret false)) else (some (.cont (wI (s3 + 1)))))))))) else (some (.brk ()))
def N0 (a0 : Cp) (a1 : Cp) (b1 : Unit) : Option Bool :=
 (Qx (Jy a0 a1) fuel 0).bind fun x => match x with | .inl r => some r | .inr e7 => P5 e7
def Oy (a0 : Cp) (a1 : Cp) : Option Bool :=
 if (!(a0.RO == a1.RO)) then (some false) else (if (!decide ((a0.Ops.length : Int) = (a1.Ops.length : Int))) then (some false) else (N0 a0 a1 ()))
theorem Z0 {a0 : Cp} {a1 : Cp} {r : Bool} (h : Oy a0 a1 = some r) : Bl Tryz.prog 50 [.agg (el a0),.agg (el a1)] (· = .s (.one (.b r))) := by
 unfold Oy at h
 refine Au Tryz.func50 rfl (nt := 82) rfl (Nbl rfl) ?_
 intro w0 S0
 refine csr (Ih rfl rfl (Ih rfl rfl (rm 1 rfl (Al (Bp (Bp (Jk (Unit) (fun b1 => [(2,.s (.one (.lp 0 0))),(3,.s (.one (.lp 1 0)))]) (fun b1 => [.box (el a0),.box (el a1)]) (fun b1 => N0 a0 a1 b1 = some r) (fun _ _ => A6 rfl) (fun _ _ => Ar rfl) (fun _ _ => Nbl rfl) (fun b1 h => ?_) ?_)))))))
 ·unfold N0 at h
  refine Bp (csr (rm 1 rfl (Al (Gg (Unit) (fun b2 => []) (fun b2 => [.box (el a0),.box (el a1)]) (fun b2 => P5 b2 = some r) (fun _ _ => A6 rfl) (fun _ _ => Ar rfl) (fun _ _ => Nbl rfl) (fun b2 h => ?_) ?_))))
  ·unfold P5 at h
   refine csr (rm 1 rfl (Al (Bg ?_)))
   cases SJ h
   exact dnT rfl rfl rfl rfl
  ·skip
   refine B3 ?_
   obtain ⟨x3,hx3,ho3⟩ := Ag h
   refine Ct (G := Nat × (Int)) (fun g => [(2,.s (.one (.lp 0 0))),(3,.s (.one (.lp 1 0))),(5,.s (.one (Ii6 g.2)))]) (fun g => [.box (el a0),.box (el a1)]) (fun g => Qx (Jy a0 a1) g.1 g.2 = some x3) (fun g => g.1) (fuel,0) hx3 ⟨rfl,rfl,rfl,trivial⟩ [] rfl (fun _ _ => A6 rfl) (fun _ _ => Ar rfl) (fun _ _ => Nbl rfl) ?_
   clear hx3 h
   rintro ⟨n3,s3⟩ h
   obtain ⟨n3,y3,rfl,h,hk3⟩ := Oa h
   unfold Jy at h
   refine Bp (csr (rm 1 rfl (fl Rm Ah7 rfl rfl rfl rfl rfl rfl (sv rfl (Aq Akx rfl) (sv rfl (Ci rfl rfl) (Al (ccI h rfl (fun h => ?_) (fun h => ?_))))))))
   ·refine Bi (Ac (Bp (B3 (csr (fl Rm Ah7 rfl rfl rfl rfl rfl rfl (sv rfl (Bc rfl) ?_))))))
    obtain ⟨u4,hu4,h⟩ := Ag h
    refine sv rfl (Db (f := Ep) Akx (fun _ => rfl) rfl rfl rfl rfl hu4) ?_
    refine sv rfl (Cb (ys := [Ii6 u4.What,Ii6 u4.A,Ii6 u4.B,Ii6 u4.N,.sl u4.Key.length (u4.Key.flatMap eU8),.sl u4.Rng.Lo.length (u4.Rng.Lo.flatMap eU8),.sl u4.Rng.Hi.length (u4.Rng.Hi.flatMap eU8),.b u4.Rng.Open]) Ap7 rfl (.cp _) rfl rfl) (Bw rfl Al0 (An Aq5 rfl rfl rfl rfl (Nbl rfl) (Bs [.box (el a0),.box (el a1),.box (el u4)] rfl (Al (csr (fl Rm Ah7 rfl rfl rfl rfl rfl rfl (sv rfl (Bc rfl) ?_)))))))
    obtain ⟨u5,hu5,h⟩ := Ag h
    refine sv rfl (Db (f := Ep) Akx (fun _ => rfl) rfl rfl rfl rfl hu5) ?_
    refine sv rfl (Cb (ys := [Ii6 u5.What,Ii6 u5.A,Ii6 u5.B,Ii6 u5.N,.sl u5.Key.length (u5.Key.flatMap eU8),.sl u5.Rng.Lo.length (u5.Rng.Lo.flatMap eU8),.sl u5.Rng.Hi.length (u5.Rng.Hi.flatMap eU8),.b u5.Rng.Open]) Ap7 rfl (.cp _) rfl rfl) (Bw rfl Al0 (An Aq5 rfl rfl rfl rfl (Nbl rfl) (Bs [.box (el a0),.box (el a1),.box (el u4),.box (el u5)] rfl (Al (csr (fl Ad9 ti3 rfl rfl rfl rfl rfl rfl (fl Ad9 ti3 rfl rfl rfl rfl rfl rfl (sv rfl (Bt rfl rfl) (rm 1 rfl (Bf 44 rfl (fun hc => ?_) (fun hc => ?_)))))))))))
    ·replace h := Br hc h
     clear hc
     refine rm 37 rfl (Al (Ei rfl (fun _ => ?_) (fun hx => Bool.noConfusion hx)))
     refine csr (rm 1 rfl (Al (Bg (A2 (Ak (Ak (A2 (Ak ?_))))))))
     cases SJ h
     obtain rfl : Sum.inl _ = x3 := hk3
     replace ho3 : some _ = some _ := ho3
     obtain rfl := Option.some.inj ho3
     exact dnT rfl rfl rfl rfl
    ·replace h := Bq hc h
     clear hc
     refine son rfl rfl rfl (sv rfl (Aa Aed rfl) (son rfl rfl rfl (sv rfl (Ae ti3 rfl (.lp _ _ _ rfl) rfl) (son rfl rfl rfl (sv rfl (Aa Aed rfl) (son rfl rfl rfl (sv rfl (Ae ti3 rfl (.lp _ _ _ rfl) rfl) (son rfl rfl rfl (sv rfl (Bt rfl rfl) (rm 2 rfl (Bf 51 rfl (fun hc => ?_) (fun hc => ?_))))))))))))
     ·replace h := Br hc h
      clear hc
      refine rm 30 rfl (Al (Ei rfl (fun _ => ?_) (fun hx => Bool.noConfusion hx)))
      refine csr (rm 1 rfl (Al (Bg (A2 (Ak (Ak (A2 (Ak ?_))))))))
      cases SJ h
      obtain rfl : Sum.inl _ = x3 := hk3
      replace ho3 : some _ = some _ := ho3
      obtain rfl := Option.some.inj ho3
      exact dnT rfl rfl rfl rfl
     ·replace h := Bq hc h
      clear hc
      refine son rfl rfl rfl (sv rfl (Aa Ad2 rfl) (son rfl rfl rfl (sv rfl (Ae ti3 rfl (.lp _ _ _ rfl) rfl) (son rfl rfl rfl (sv rfl (Aa Ad2 rfl) (son rfl rfl rfl (sv rfl (Ae ti3 rfl (.lp _ _ _ rfl) rfl) (son rfl rfl rfl (sv rfl (Bt rfl rfl) (rm 2 rfl (Bf 58 rfl (fun hc => ?_) (fun hc => ?_))))))))))))
      ·replace h := Br hc h
       clear hc
       refine rm 23 rfl (Al (Ei rfl (fun _ => ?_) (fun hx => Bool.noConfusion hx)))
       refine csr (rm 1 rfl (Al (Bg (A2 (Ak (Ak (A2 (Ak ?_))))))))
       cases SJ h
       obtain rfl : Sum.inl _ = x3 := hk3
       replace ho3 : some _ = some _ := ho3
       obtain rfl := Option.some.inj ho3
       exact dnT rfl rfl rfl rfl
      ·replace h := Bq hc h
       clear hc
       refine son rfl rfl rfl (sv rfl (Aa Aec rfl) (son rfl rfl rfl (sv rfl (Ae ti3 rfl (.lp _ _ _ rfl) rfl) (son rfl rfl rfl (sv rfl (Aa Aec rfl) (son rfl rfl rfl (sv rfl (Ae ti3 rfl (.lp _ _ _ rfl) rfl) (son rfl rfl rfl (sv rfl (Bt rfl rfl) (rm 2 rfl (Bf 65 rfl (fun hc => ?_) (fun hc => ?_))))))))))))
       ·replace h := Br hc h
        clear hc
        refine rm 16 rfl (Al (Ei rfl (fun _ => ?_) (fun hx => Bool.noConfusion hx)))
        refine csr (rm 1 rfl (Al (Bg (A2 (Ak (Ak (A2 (Ak ?_))))))))
        cases SJ h
        obtain rfl : Sum.inl _ = x3 := hk3
        replace ho3 : some _ = some _ := ho3
        obtain rfl := Option.some.inj ho3
        exact dnT rfl rfl rfl rfl
       ·replace h := Bq hc h
        clear hc
        refine son rfl rfl rfl (sv rfl (Aa Abb rfl) (son rfl rfl rfl (sv rfl (Ae I9 rfl (.lp _ _ _ rfl) rfl) (son rfl rfl rfl (sv rfl (N7 (l := u4.Key) Tryz.underlying33 Tryz.underlying5 Tryz.underlying9 rfl rfl rfl) (son rfl rfl rfl (sv rfl (Aa Abb rfl) (son rfl rfl rfl (sv rfl (Ae I9 rfl (.lp _ _ _ rfl) rfl) (son rfl rfl rfl (sv rfl (N7 (l := u5.Key) Tryz.underlying33 Tryz.underlying5 Tryz.underlying9 rfl rfl rfl) (son rfl rfl rfl (sv rfl (Acf rfl rfl) (rm 2 rfl (Bf 74 rfl (fun hc => ?_) (fun hc => ?_))))))))))))))))
        ·replace h := Br hc h
         clear hc
         refine rm 7 rfl (Al (Ei rfl (fun _ => ?_) (fun hx => Bool.noConfusion hx)))
         refine csr (rm 1 rfl (Al (Bg (A2 (Ak (Ak (A2 (Ak ?_))))))))
         cases SJ h
         obtain rfl : Sum.inl _ = x3 := hk3
         replace ho3 : some _ = some _ := ho3
         obtain rfl := Option.some.inj ho3
         exact dnT rfl rfl rfl rfl
        ·replace h := Bq hc h
         clear hc
         refine son rfl rfl rfl (sv rfl (Aa Ab2 rfl) (son rfl rfl rfl (sv rfl (Ai Ahk rfl (.lp _ _ _ rfl) (Nbl rfl)) (son rfl rfl rfl (sv rfl (Aa Ab2 rfl) (son rfl rfl rfl (sv rfl (Ai Ahk rfl (.lp _ _ _ rfl) (Nbl rfl)) (son rfl rfl rfl ?_))))))))
         obtain ⟨v6,hv6,h⟩ := Ag h
         refine Av rfl A0b (Ab rfl (Ab rfl Af)) (Ao rfl) (Ux hv6) (son rfl rfl rfl (sv rfl (B5 rfl) (rm 1 rfl (Al (ccI h rfl (fun h => ?_) (fun h => ?_))))))
         ·refine csr (rm 1 rfl (Al (Bg (A2 (Ak (Ak (A2 (Ak ?_))))))))
          cases SJ h
          obtain rfl : Sum.inl _ = x3 := hk3
          replace ho3 : some _ = some _ := ho3
          obtain rfl := Option.some.inj ho3
          exact dnT rfl rfl rfl rfl
         ·refine Bi (Aw (Ac (Az (rm 1 rfl (sv rfl (B4 rfl rfl) (rm 1 rfl (Al ?_)))))))
          cases SJ h
          exact ⟨(n3,(wI (s3 + 1))),_,hk3,⟨rfl,rfl,rfl,trivial⟩,rfl,Nat.lt_succ_self _⟩
   ·refine Kk (Bd (Bd (B8 (Ac ?_))))
    cases SJ h
    obtain rfl : _ = x3 := hk3
    exact ⟨(),_,ho3,trivial,rfl⟩
 ·skip
  refine Az (fl Ain ti4 rfl rfl rfl rfl rfl rfl (fl Ain ti4 rfl rfl rfl rfl rfl rfl (sv rfl (Agm Tryz.underlying4 rfl rfl) (rm 1 rfl (Bf 13 rfl (fun hc => ?_) (fun hc => ?_))))))
  ·replace h := Br hc h
   clear hc
   refine rm 8 rfl (Al (Ei rfl (fun _ => ?_) (fun hx => Bool.noConfusion hx)))
   refine csr (rm 1 rfl (Al (Bg (Ak ?_))))
   cases SJ h
   exact dnT rfl rfl rfl rfl
  ·replace h := Bq hc h
   clear hc
   refine son rfl rfl rfl (sv rfl (Aa Rm rfl) (son rfl rfl rfl (sv rfl (Ae Ah7 rfl (.lp _ _ _ rfl) rfl) (son rfl rfl rfl (sv rfl (Aq Akx rfl) (son rfl rfl rfl (sv rfl (Aa Rm rfl) (son rfl rfl rfl (sv rfl (Ae Ah7 rfl (.lp _ _ _ rfl) rfl) (son rfl rfl rfl (sv rfl (Aq Akx rfl) (son rfl rfl rfl (sv rfl (Bt rfl rfl) (rm 1 rfl (Al (ccI h rfl (fun h => ?_) (fun h => ?_)))))))))))))))))
   ·refine csr (rm 1 rfl (Al (Bg (Ak ?_))))
    cases SJ h
    exact dnT rfl rfl rfl rfl
   ·refine Bi (Ac ?_)
    exact ⟨(),_,h,⟨rfl,rfl,trivial⟩,rfl⟩
def Qa (b5 : Unit) : Option Bool :=
 some true
def Iq (a0 : Cq) (a1 : Cq) (s6 : Int) : Option (LR (Int) (Unit) (Bool)) :=
 if (decide (s6 < (a0.Tried.length : Int))) then ((idx a0.Tried s6).bind fun u7 => (idx a1.Tried s6).bind fun u8 => if (!((decide (u7.Token = u8.Token)) && ((decide (u7.Attempt = u8.Attempt)) && ((decide (u7.Regs.R0 = u8.Regs.R0)) && ((decide (u7.Regs.R1 = u8.Regs.R1)) && ((decide (u7.Regs.R2 = u8.Regs.R2)) && ((decide (u7.Regs.R3 = u8.Regs.R3)) && ((decide (u7.Regs.R4 = u8.Regs.R4)) && ((decide (u7.Regs.R5 = u8.Regs.R5)) && ((decide (u7.Regs.R6 = u8.Regs.R6)) && ((decide (u7.Regs.R7 = u8.Regs.R7)) && true))))))))))) then (some (.ret false)) else (some (.cont (wI (s6 + 1))))) else (some (.brk ()))
def L5 (a0 : Cq) (a1 : Cq) (b4 : Unit) : Option Bool :=
 (Qx (Iq a0 a1) fuel 0).bind fun x => match x with | .inl r => some r | .inr e9 => Qa e9
def Hs (a0 : Cq) (a1 : Cq) (s10 : Int) : Option (LR (Int) (Unit) (Bool)) :=
 if (decide (s10 < (a0.Done.length : Int))) then ((idx a0.Done s10).bind fun u11 => (idx a1.Done s10).bind fun u12 => if (!((decide (u11.Token = u12.Token)) && ((decide (u11.Code = u12.Code)) && ((decide (u11.Attempt = u12.Attempt)) && ((decide (u11.Ts = u12.Ts)) && ((decide (u11.Regs.R0 = u12.Regs.R0)) && ((decide (u11.Regs.R1 = u12.Regs.R1)) && ((decide (u11.Regs.R2 = u12.Regs.R2)) && ((decide (u11.Regs.R3 = u12.Regs.R3)) && ((decide (u11.Regs.R4 = u12.Regs.R4)) && ((decide (u11.Regs.R5 = u12.Regs.R5)) && ((decide (u11.Regs.R6 = u12.Regs.R6)) && ((decide (u11.Regs.R7 = u12.Regs.R7)) && true))))))))))))) then (some (.ret false)) else (some (.cont (wI (s10 + 1))))) else (some (.brk ()))
def Lr (a0 : Cq) (a1 : Cq) (b3 : Unit) : Option Bool :=
 (Qx (Hs a0 a1) fuel 0).bind fun x => match x with | .inl r => some r | .inr e13 => L5 a0 a1 e13
def Hr (a0 : Cq) (a1 : Cq) (s14 : Int) : Option (LR (Int) (Unit) (Bool)) :=
 if (decide (s14 < (a0.Tasks.length : Int))) then ((idx a0.Tasks s14).bind fun u15 => (idx a1.Tasks s14).bind fun u16 => if (!decide (u15.Token = u16.Token)) then (some (.ret false)) else ((idx a0.Tasks s14).bind fun u17 => (idx a1.Tasks s14).bind fun u18 => (Oy u17.Prog u18.Prog).bind fun v19 => if (!v19) then (some (.ret false)) else (some (.cont (wI (s14 + 1)))))) else (some (.brk ()))
def Nv (a0 : Cq) (a1 : Cq) (b2 : Unit) : Option Bool :=
 (Qx (Hr a0 a1) fuel 0).bind fun x => match x with | .inl r => some r | .inr e20 => Lr a0 a1 e20
def Lv (a0 : Cq) (a1 : Cq) (b1 : Unit) : Option Bool :=
 if (!decide ((a0.Tasks.length : Int) = (a1.Tasks.length : Int))) then (some false) else (if (!decide ((a0.Done.length : Int) = (a1.Done.length : Int))) then (some false) else (if (!decide ((a0.Tried.length : Int) = (a1.Tried.length : Int))) then (some false) else (Nv a0 a1 ())))
def Kg (a0 : Cq) (a1 : Cq) : Option Bool :=
 if (!((decide (a0.Cfg.Who = a1.Cfg.Who)) && ((decide (a0.Cfg.Plan.Wait = a1.Cfg.Plan.Wait)) && ((decide (a0.Cfg.Plan.Most = a1.Cfg.Plan.Most)) && ((decide (a0.Cfg.Plan.Tries = a1.Cfg.Plan.Tries)) && ((decide (a0.Cfg.Attempts = a1.Cfg.Attempts)) && ((decide (a0.Cfg.Budget = a1.Cfg.Budget)) && true))))))) then (some false) else (if (!decide (a0.Phase = a1.Phase)) then (some false) else (if (!decide (a0.Epoch = a1.Epoch)) then (some false) else (if (!decide (a0.Seq = a1.Seq)) then (some false) else (if (!decide (a0.Attempt = a1.Attempt)) then (some false) else (if (!decide (a0.Sent = a1.Sent)) then (some false) else (if (!decide (a0.Left = a1.Left)) then (some false) else (if (!decide (a0.Resets = a1.Resets)) then (some false) else (if (!(a0.Risk == a1.Risk)) then (some false) else (if (!((decide (a0.St.PC = a1.St.PC)) && ((decide (a0.St.Regs.R0 = a1.St.Regs.R0)) && ((decide (a0.St.Regs.R1 = a1.St.Regs.R1)) && ((decide (a0.St.Regs.R2 = a1.St.Regs.R2)) && ((decide (a0.St.Regs.R3 = a1.St.Regs.R3)) && ((decide (a0.St.Regs.R4 = a1.St.Regs.R4)) && ((decide (a0.St.Regs.R5 = a1.St.Regs.R5)) && ((decide (a0.St.Regs.R6 = a1.St.Regs.R6)) && ((decide (a0.St.Regs.R7 = a1.St.Regs.R7)) && ((a0.St.Stopped == a1.St.Stopped) && true))))))))))) then (some false) else ((L6 a0.Req a1.Req).bind fun v21 => if (!v21) then (some false) else ((O0 a0.In a1.In).bind fun v22 => if (!v22) then (some false) else (if (!(a0.Out == a1.Out)) then (some false) else (Lv a0 a1 ())))))))))))))
theorem Qu {a0 : Cq} {a1 : Cq} {r : Bool} (h : Kg a0 a1 = some r) : Bl Tryz.prog 19 [.agg (el a0),.agg (el a1)] (· = .s (.one (.b r))) := by
 unfold Kg at h
 refine Au Tryz.func19 rfl (nt := 198) rfl (Nbl rfl) ?_
 intro w0 S0
 refine csr (Ih rfl rfl (Ih rfl rfl (rm 1 rfl (Al (Bp (Bp (Jk (Unit) (fun b1 => [(2,.s (.one (.lp 0 0))),(3,.s (.one (.lp 1 0)))]) (fun b1 => [.box (el a0),.box (el a1)]) (fun b1 => Lv a0 a1 b1 = some r) (fun _ _ => A6 rfl) (fun _ _ => Ar rfl) (fun _ _ => Nbl rfl) (fun b1 h => ?_) ?_)))))))
 ·unfold Lv at h
  refine Bp (Bp (Jk (Unit) (fun b2 => [(2,.s (.one (.lp 0 0))),(3,.s (.one (.lp 1 0)))]) (fun b2 => [.box (el a0),.box (el a1)]) (fun b2 => Nv a0 a1 b2 = some r) (fun _ _ => A6 rfl) (fun _ _ => Ar rfl) (fun _ _ => Nbl rfl) (fun b2 h => ?_) ?_))
  ·unfold Nv at h
   refine Bp (csr (rm 1 rfl (Al (Gg (Unit) (fun b3 => [(2,.s (.one (.lp 0 0))),(3,.s (.one (.lp 1 0)))]) (fun b3 => [.box (el a0),.box (el a1)]) (fun b3 => Lr a0 a1 b3 = some r) (fun _ _ => A6 rfl) (fun _ _ => Ar rfl) (fun _ _ => Nbl rfl) (fun b3 h => ?_) ?_))))
   ·unfold Lr at h
    refine Bp (csr (rm 1 rfl (Al (Gg (Unit) (fun b4 => [(2,.s (.one (.lp 0 0))),(3,.s (.one (.lp 1 0)))]) (fun b4 => [.box (el a0),.box (el a1)]) (fun b4 => L5 a0 a1 b4 = some r) (fun _ _ => A6 rfl) (fun _ _ => Ar rfl) (fun _ _ => Nbl rfl) (fun b4 h => ?_) ?_))))
    ·unfold L5 at h
     refine Bp (csr (rm 1 rfl (Al (Gg (Unit) (fun b5 => []) (fun b5 => [.box (el a0),.box (el a1)]) (fun b5 => Qa b5 = some r) (fun _ _ => A6 rfl) (fun _ _ => Ar rfl) (fun _ _ => Nbl rfl) (fun b5 h => ?_) ?_))))
     ·unfold Qa at h
      refine csr (rm 1 rfl (Al (Bg ?_)))
      cases SJ h
      exact dnT rfl rfl rfl rfl
     ·skip
      refine B3 ?_
      obtain ⟨x6,hx6,ho6⟩ := Ag h
      refine Ct (G := Nat × (Int)) (fun g => [(2,.s (.one (.lp 0 0))),(3,.s (.one (.lp 1 0))),(7,.s (.one (Ii6 g.2)))]) (fun g => [.box (el a0),.box (el a1)]) (fun g => Qx (Iq a0 a1) g.1 g.2 = some x6) (fun g => g.1) (fuel,0) hx6 ⟨rfl,rfl,rfl,trivial⟩ [] rfl (fun _ _ => A6 rfl) (fun _ _ => Ar rfl) (fun _ _ => Nbl rfl) ?_
      clear hx6 h
      rintro ⟨n6,s6⟩ h
      obtain ⟨n6,y6,rfl,h,hk6⟩ := Oa h
      unfold Iq at h
      refine Bp (csr (rm 1 rfl (fl Vg Ar6 rfl rfl rfl rfl rfl rfl (sv rfl (Aq Asj rfl) (sv rfl (Ci rfl rfl) (Al (ccI h rfl (fun h => ?_) (fun h => ?_))))))))
      ·refine Bi (Ac (Bp (B3 (Bp ?_))))
       refine Yf Kd (by kernel_rfl) ?_
       refine dv rfl (Aa Vg rfl) (dv rfl (Ae Ar6 rfl (.lp _ _ _ rfl) rfl) (dv rfl (Bc rfl) ?_))
       obtain ⟨u7,hu7,h⟩ := Ag h
       refine dv rfl (Db (f := Fz) Asj (fun _ => rfl) rfl rfl rfl rfl hu7) ?_
       refine dv rfl (Cb (ys := [Ii6 u7.Token,Ii6 u7.Attempt,Ii6 u7.Regs.R0,Ii6 u7.Regs.R1,Ii6 u7.Regs.R2,Ii6 u7.Regs.R3,Ii6 u7.Regs.R4,Ii6 u7.Regs.R5,Ii6 u7.Regs.R6,Ii6 u7.Regs.R7]) Aua rfl (.cp _) rfl rfl) (dv rfl (Aa Vg rfl) (dv rfl (Ae Ar6 rfl (.lp _ _ _ rfl) rfl) (dv rfl (Bc rfl) ?_)))
       obtain ⟨u8,hu8,h⟩ := Ag h
       refine dv rfl (Db (f := Fz) Asj (fun _ => rfl) rfl rfl rfl rfl hu8) ?_
       refine dv rfl (Cb (ys := [Ii6 u8.Token,Ii6 u8.Attempt,Ii6 u8.Regs.R0,Ii6 u8.Regs.R1,Ii6 u8.Regs.R2,Ii6 u8.Regs.R3,Ii6 u8.Regs.R4,Ii6 u8.Regs.R5,Ii6 u8.Regs.R6,Ii6 u8.Regs.R7]) Aua rfl (.cp _) rfl rfl) (dv rfl (T3 Av9 rfl rfl rfl rfl rfl) (Zy (Ac (ccI h rfl (fun h => ?_) (fun h => ?_)))))
       ·refine csr (rm 1 rfl (Al (Bg (A2 (Ak (Ak (A2 (Ak ?_))))))))
        cases SJ h
        obtain rfl : Sum.inl _ = x6 := hk6
        replace ho6 : some _ = some _ := ho6
        obtain rfl := Option.some.inj ho6
        exact dnT rfl rfl rfl rfl
       ·refine Bi (Aw (Ac (Az (rm 1 rfl (sv rfl (B4 rfl rfl) (rm 1 rfl (Al ?_)))))))
        cases SJ h
        exact ⟨(n6,(wI (s6 + 1))),_,hk6,⟨rfl,rfl,rfl,trivial⟩,rfl,Nat.lt_succ_self _⟩
      ·refine Kk (Bd (Bd (B8 (Ac ?_))))
       cases SJ h
       obtain rfl : _ = x6 := hk6
       exact ⟨(),_,ho6,trivial,rfl⟩
    ·skip
     refine B3 ?_
     obtain ⟨x10,hx10,ho10⟩ := Ag h
     refine Ct (G := Nat × (Int)) (fun g => [(2,.s (.one (.lp 0 0))),(3,.s (.one (.lp 1 0))),(6,.s (.one (Ii6 g.2)))]) (fun g => [.box (el a0),.box (el a1)]) (fun g => Qx (Hs a0 a1) g.1 g.2 = some x10) (fun g => g.1) (fuel,0) hx10 ⟨rfl,rfl,rfl,trivial⟩ [] rfl (fun _ _ => A6 rfl) (fun _ _ => Ar rfl) (fun _ _ => Nbl rfl) ?_
     clear hx10 h
     rintro ⟨n10,s10⟩ h
     obtain ⟨n10,y10,rfl,h,hk10⟩ := Oa h
     unfold Hs at h
     refine Bp (csr (rm 1 rfl (fl U7 Ar3 rfl rfl rfl rfl rfl rfl (sv rfl (Aq Atz rfl) (sv rfl (Ci rfl rfl) (Al (ccI h rfl (fun h => ?_) (fun h => ?_))))))))
     ·refine Bi (Ac (Bp (B3 (Bp ?_))))
      refine Yf Kd (by kernel_rfl) ?_
      refine dv rfl (Aa U7 rfl) (dv rfl (Ae Ar3 rfl (.lp _ _ _ rfl) rfl) (dv rfl (Bc rfl) ?_))
      obtain ⟨u11,hu11,h⟩ := Ag h
      refine dv rfl (Db (f := C0) Atz (fun _ => rfl) rfl rfl rfl rfl hu11) ?_
      refine dv rfl (Cb (ys := [Ii6 u11.Token,Ii6 u11.Code,Ii6 u11.Attempt,Ii6 u11.Ts,Ii6 u11.Regs.R0,Ii6 u11.Regs.R1,Ii6 u11.Regs.R2,Ii6 u11.Regs.R3,Ii6 u11.Regs.R4,Ii6 u11.Regs.R5,Ii6 u11.Regs.R6,Ii6 u11.Regs.R7]) As8 rfl (.cp _) rfl rfl) (dv rfl (Aa U7 rfl) (dv rfl (Ae Ar3 rfl (.lp _ _ _ rfl) rfl) (dv rfl (Bc rfl) ?_)))
      obtain ⟨u12,hu12,h⟩ := Ag h
      refine dv rfl (Db (f := C0) Atz (fun _ => rfl) rfl rfl rfl rfl hu12) ?_
      refine dv rfl (Cb (ys := [Ii6 u12.Token,Ii6 u12.Code,Ii6 u12.Attempt,Ii6 u12.Ts,Ii6 u12.Regs.R0,Ii6 u12.Regs.R1,Ii6 u12.Regs.R2,Ii6 u12.Regs.R3,Ii6 u12.Regs.R4,Ii6 u12.Regs.R5,Ii6 u12.Regs.R6,Ii6 u12.Regs.R7]) As8 rfl (.cp _) rfl rfl) (dv rfl (T3 Ax7 rfl rfl rfl rfl rfl) (Zy (Ac (ccI h rfl (fun h => ?_) (fun h => ?_)))))
      ·refine csr (rm 1 rfl (Al (Bg (A2 (Ak (Ak (A2 (Ak ?_))))))))
       cases SJ h
       obtain rfl : Sum.inl _ = x10 := hk10
       replace ho10 : some _ = some _ := ho10
       obtain rfl := Option.some.inj ho10
       exact dnT rfl rfl rfl rfl
      ·refine Bi (Aw (Ac (Az (rm 1 rfl (sv rfl (B4 rfl rfl) (rm 1 rfl (Al ?_)))))))
       cases SJ h
       exact ⟨(n10,(wI (s10 + 1))),_,hk10,⟨rfl,rfl,rfl,trivial⟩,rfl,Nat.lt_succ_self _⟩
     ·refine Kk (Bd (Bd (B8 (Ac ?_))))
      cases SJ h
      obtain rfl : _ = x10 := hk10
      exact ⟨(),_,ho10,⟨rfl,rfl,trivial⟩,rfl⟩
   ·skip
    refine B3 ?_
    obtain ⟨x14,hx14,ho14⟩ := Ag h
    refine Ct (G := Nat × (Int)) (fun g => [(2,.s (.one (.lp 0 0))),(3,.s (.one (.lp 1 0))),(5,.s (.one (Ii6 g.2)))]) (fun g => [.box (el a0),.box (el a1)]) (fun g => Qx (Hr a0 a1) g.1 g.2 = some x14) (fun g => g.1) (fuel,0) hx14 ⟨rfl,rfl,rfl,trivial⟩ [] rfl (fun _ _ => A6 rfl) (fun _ _ => Ar rfl) (fun _ _ => Nbl rfl) ?_
    clear hx14 h
    rintro ⟨n14,s14⟩ h
    obtain ⟨n14,y14,rfl,h,hk14⟩ := Oa h
    unfold Hr at h
    refine Bp (csr (rm 1 rfl (fl Wb Aog rfl rfl rfl rfl rfl rfl (sv rfl (Aq Apz rfl) (sv rfl (Ci rfl rfl) (Al (ccI h rfl (fun h => ?_) (fun h => ?_))))))))
    ·refine Bi (Ac (Bp (B3 (Bp ?_))))
     refine Yf Kd (by kernel_rfl) ?_
     refine dv rfl (Aa Wb rfl) (dv rfl (Ae Aog rfl (.lp _ _ _ rfl) rfl) (dv rfl (Bc rfl) ?_))
     obtain ⟨u15,hu15,h⟩ := Ag h
     refine dv rfl (Db (f := Ck) Apz (fun _ => rfl) rfl rfl rfl rfl hu15) ?_
     refine dv rfl (Bj Ai6 rfl) (dv rfl (Ae ti3 rfl (.cp _) rfl) (dv rfl (Aa Wb rfl) (dv rfl (Ae Aog rfl (.lp _ _ _ rfl) rfl) (dv rfl (Bc rfl) ?_))))
     obtain ⟨u16,hu16,h⟩ := Ag h
     refine dv rfl (Db (f := Ck) Apz (fun _ => rfl) rfl rfl rfl rfl hu16) ?_
     refine dv rfl (Bj Ai6 rfl) (dv rfl (Ae ti3 rfl (.cp _) rfl) (dv rfl (Bt rfl rfl) (dv rfl (Bc rfl) (Aa0 146 rfl (fun hc => ?_) (fun hc => ?_)))))
     ·replace h := Br hc h
      clear hc
      refine Uc rfl rfl rfl rfl (Uc rfl rfl rfl rfl (Uc rfl rfl rfl rfl (Uc rfl rfl rfl rfl (Uc rfl rfl rfl rfl (Uc rfl rfl rfl rfl (Uc rfl rfl rfl rfl (Uc rfl rfl rfl rfl (Uc rfl rfl rfl rfl (Uc rfl rfl rfl rfl (Uc rfl rfl rfl rfl (Uc rfl rfl rfl rfl (Uc rfl rfl rfl rfl (Uc rfl rfl rfl rfl (dv rfl (Oc rfl rfl) (Zy (Ac (Ei rfl (fun _ => ?_) (fun hx => Bool.noConfusion hx))))))))))))))))))
      refine csr (rm 1 rfl (Al (Bg (A2 (Ak (Ak (A2 (Ak ?_))))))))
      cases SJ h
      obtain rfl : Sum.inl _ = x14 := hk14
      replace ho14 : some _ = some _ := ho14
      obtain rfl := Option.some.inj ho14
      exact dnT rfl rfl rfl rfl
     ·replace h := Bq hc h
      clear hc
      refine dvg rfl rfl rfl (Aa Wb rfl) (dvg rfl rfl rfl (Ae Aog rfl (.lp _ _ _ rfl) rfl) (dvg rfl rfl rfl (Bc rfl) ?_))
      obtain ⟨u17,hu17,h⟩ := Ag h
      refine dvg rfl rfl rfl (Db (f := Ck) Apz (fun _ => rfl) rfl rfl rfl rfl hu17) ?_
      refine dvg rfl rfl rfl (Bj Agk rfl) (dvg rfl rfl rfl (Cb (ys := [.b u17.Prog.RO,.sl u17.Prog.Ops.length (u17.Prog.Ops.flatMap Ep)]) Ash rfl (.cp _) rfl rfl) (dvg rfl rfl rfl (Aa Wb rfl) (dvg rfl rfl rfl (Ae Aog rfl (.lp _ _ _ rfl) rfl) (dvg rfl rfl rfl (Bc rfl) ?_))))
      obtain ⟨u18,hu18,h⟩ := Ag h
      refine dvg rfl rfl rfl (Db (f := Ck) Apz (fun _ => rfl) rfl rfl rfl rfl hu18) ?_
      refine dvg rfl rfl rfl (Bj Agk rfl) (dvg rfl rfl rfl (Cb (ys := [.b u18.Prog.RO,.sl u18.Prog.Ops.length (u18.Prog.Ops.flatMap Ep)]) Ash rfl (.cp _) rfl rfl) ?_)
      obtain ⟨v19,hv19,h⟩ := Ag h
      refine ddg rfl rfl rfl (Cm A1j (Ab rfl (Ab rfl Af)) rfl (Z0 hv19)) (dvg rfl rfl rfl (B5 rfl) (dv rfl (Nh rfl rfl) (Zy (Ac (ccI h rfl (fun h => ?_) (fun h => ?_))))))
      ·refine csr (rm 1 rfl (Al (Bg (A2 (Ak (Ak (A2 (Ak ?_))))))))
       cases SJ h
       obtain rfl : Sum.inl _ = x14 := hk14
       replace ho14 : some _ = some _ := ho14
       obtain rfl := Option.some.inj ho14
       exact dnT rfl rfl rfl rfl
      ·refine Bi (Aw (Ac (Az (rm 1 rfl (sv rfl (B4 rfl rfl) (rm 1 rfl (Al ?_)))))))
       cases SJ h
       exact ⟨(n14,(wI (s14 + 1))),_,hk14,⟨rfl,rfl,rfl,trivial⟩,rfl,Nat.lt_succ_self _⟩
    ·refine Kk (Bd (Bd (B8 (Ac ?_))))
     cases SJ h
     obtain rfl : _ = x14 := hk14
     exact ⟨(),_,ho14,⟨rfl,rfl,trivial⟩,rfl⟩
  ·skip
   refine Az (fl Wb Aog rfl rfl rfl rfl rfl rfl (sv rfl (Aq Apz rfl) (fl Wb Aog rfl rfl rfl rfl rfl rfl (sv rfl (Aq Apz rfl) (sv rfl (Bt rfl rfl) (rm 1 rfl (Bf 108 rfl (fun hc => ?_) (fun hc => ?_))))))))
   ·replace h := Br hc h
    clear hc
    refine rm 17 rfl (Al (Ei rfl (fun _ => ?_) (fun hx => Bool.noConfusion hx)))
    refine csr (rm 1 rfl (Al (Bg (Ak ?_))))
    cases SJ h
    exact dnT rfl rfl rfl rfl
   ·replace h := Bq hc h
    clear hc
    refine son rfl rfl rfl (sv rfl (Aa U7 rfl) (son rfl rfl rfl (sv rfl (Ae Ar3 rfl (.lp _ _ _ rfl) rfl) (son rfl rfl rfl (sv rfl (Aq Atz rfl) (son rfl rfl rfl (sv rfl (Aa U7 rfl) (son rfl rfl rfl (sv rfl (Ae Ar3 rfl (.lp _ _ _ rfl) rfl) (son rfl rfl rfl (sv rfl (Aq Atz rfl) (son rfl rfl rfl (sv rfl (Bt rfl rfl) (rm 2 rfl (Bf 117 rfl (fun hc => ?_) (fun hc => ?_))))))))))))))))
    ·replace h := Br hc h
     clear hc
     refine rm 8 rfl (Al (Ei rfl (fun _ => ?_) (fun hx => Bool.noConfusion hx)))
     refine csr (rm 1 rfl (Al (Bg (Ak ?_))))
     cases SJ h
     exact dnT rfl rfl rfl rfl
    ·replace h := Bq hc h
     clear hc
     refine son rfl rfl rfl (sv rfl (Aa Vg rfl) (son rfl rfl rfl (sv rfl (Ae Ar6 rfl (.lp _ _ _ rfl) rfl) (son rfl rfl rfl (sv rfl (Aq Asj rfl) (son rfl rfl rfl (sv rfl (Aa Vg rfl) (son rfl rfl rfl (sv rfl (Ae Ar6 rfl (.lp _ _ _ rfl) rfl) (son rfl rfl rfl (sv rfl (Aq Asj rfl) (son rfl rfl rfl (sv rfl (Bt rfl rfl) (rm 1 rfl (Al (ccI h rfl (fun h => ?_) (fun h => ?_)))))))))))))))))
     ·refine csr (rm 1 rfl (Al (Bg (Ak ?_))))
      cases SJ h
      exact dnT rfl rfl rfl rfl
     ·refine Bi (Ac ?_)
      exact ⟨(),_,h,⟨rfl,rfl,trivial⟩,rfl⟩
 ·skip
  refine Az (sv rfl (Aa Akk rfl) (sv rfl (Ai Azc rfl (.lp _ _ _ rfl) (Nbl rfl)) (sv rfl (Aa Akk rfl) (sv rfl (Ai Azc rfl (.lp _ _ _ rfl) (Nbl rfl)) (sv rfl (T3 Az5 rfl rfl rfl rfl rfl) (rm 1 rfl (Bf 13 rfl (fun hc => ?_) (fun hc => ?_))))))))
  ·replace h := Br hc h
   clear hc
   refine rm 87 rfl (Al (Ei rfl (fun _ => ?_) (fun hx => Bool.noConfusion hx)))
   refine csr (rm 1 rfl (Al (Bg (Ak ?_))))
   cases SJ h
   exact dnT rfl rfl rfl rfl
  ·replace h := Bq hc h
   clear hc
   refine son rfl rfl rfl (sv rfl (Aa An7 rfl) (son rfl rfl rfl (sv rfl (Ae ti3 rfl (.lp _ _ _ rfl) rfl) (son rfl rfl rfl (sv rfl (Aa An7 rfl) (son rfl rfl rfl (sv rfl (Ae ti3 rfl (.lp _ _ _ rfl) rfl) (son rfl rfl rfl (sv rfl (Bt rfl rfl) (rm 2 rfl (Bf 20 rfl (fun hc => ?_) (fun hc => ?_))))))))))))
   ·replace h := Br hc h
    clear hc
    refine rm 80 rfl (Al (Ei rfl (fun _ => ?_) (fun hx => Bool.noConfusion hx)))
    refine csr (rm 1 rfl (Al (Bg (Ak ?_))))
    cases SJ h
    exact dnT rfl rfl rfl rfl
   ·replace h := Bq hc h
    clear hc
    refine son rfl rfl rfl (sv rfl (Aa Aoj rfl) (son rfl rfl rfl (sv rfl (Ae ti3 rfl (.lp _ _ _ rfl) rfl) (son rfl rfl rfl (sv rfl (Aa Aoj rfl) (son rfl rfl rfl (sv rfl (Ae ti3 rfl (.lp _ _ _ rfl) rfl) (son rfl rfl rfl (sv rfl (Bt rfl rfl) (rm 2 rfl (Bf 27 rfl (fun hc => ?_) (fun hc => ?_))))))))))))
    ·replace h := Br hc h
     clear hc
     refine rm 73 rfl (Al (Ei rfl (fun _ => ?_) (fun hx => Bool.noConfusion hx)))
     refine csr (rm 1 rfl (Al (Bg (Ak ?_))))
     cases SJ h
     exact dnT rfl rfl rfl rfl
    ·replace h := Bq hc h
     clear hc
     refine son rfl rfl rfl (sv rfl (Aa Ao8 rfl) (son rfl rfl rfl (sv rfl (Ae ti3 rfl (.lp _ _ _ rfl) rfl) (son rfl rfl rfl (sv rfl (Aa Ao8 rfl) (son rfl rfl rfl (sv rfl (Ae ti3 rfl (.lp _ _ _ rfl) rfl) (son rfl rfl rfl (sv rfl (Bt rfl rfl) (rm 2 rfl (Bf 34 rfl (fun hc => ?_) (fun hc => ?_))))))))))))
     ·replace h := Br hc h
      clear hc
      refine rm 66 rfl (Al (Ei rfl (fun _ => ?_) (fun hx => Bool.noConfusion hx)))
      refine csr (rm 1 rfl (Al (Bg (Ak ?_))))
      cases SJ h
      exact dnT rfl rfl rfl rfl
     ·replace h := Bq hc h
      clear hc
      refine son rfl rfl rfl (sv rfl (Aa Aoy rfl) (son rfl rfl rfl (sv rfl (Ae ti3 rfl (.lp _ _ _ rfl) rfl) (son rfl rfl rfl (sv rfl (Aa Aoy rfl) (son rfl rfl rfl (sv rfl (Ae ti3 rfl (.lp _ _ _ rfl) rfl) (son rfl rfl rfl (sv rfl (Bt rfl rfl) (rm 2 rfl (Bf 41 rfl (fun hc => ?_) (fun hc => ?_))))))))))))
      ·replace h := Br hc h
       clear hc
       refine rm 59 rfl (Al (Ei rfl (fun _ => ?_) (fun hx => Bool.noConfusion hx)))
       refine csr (rm 1 rfl (Al (Bg (Ak ?_))))
       cases SJ h
       exact dnT rfl rfl rfl rfl
      ·replace h := Bq hc h
       clear hc
       refine son rfl rfl rfl (sv rfl (Aa Aom rfl) (son rfl rfl rfl (sv rfl (Ae ti3 rfl (.lp _ _ _ rfl) rfl) (son rfl rfl rfl (sv rfl (Aa Aom rfl) (son rfl rfl rfl (sv rfl (Ae ti3 rfl (.lp _ _ _ rfl) rfl) (son rfl rfl rfl (sv rfl (Bt rfl rfl) (rm 2 rfl (Bf 48 rfl (fun hc => ?_) (fun hc => ?_))))))))))))
       ·replace h := Br hc h
        clear hc
        refine rm 52 rfl (Al (Ei rfl (fun _ => ?_) (fun hx => Bool.noConfusion hx)))
        refine csr (rm 1 rfl (Al (Bg (Ak ?_))))
        cases SJ h
        exact dnT rfl rfl rfl rfl
       ·replace h := Bq hc h
        clear hc
        refine son rfl rfl rfl (sv rfl (Aa Apb rfl) (son rfl rfl rfl (sv rfl (Ae ti3 rfl (.lp _ _ _ rfl) rfl) (son rfl rfl rfl (sv rfl (Aa Apb rfl) (son rfl rfl rfl (sv rfl (Ae ti3 rfl (.lp _ _ _ rfl) rfl) (son rfl rfl rfl (sv rfl (Bt rfl rfl) (rm 2 rfl (Bf 55 rfl (fun hc => ?_) (fun hc => ?_))))))))))))
        ·replace h := Br hc h
         clear hc
         refine rm 45 rfl (Al (Ei rfl (fun _ => ?_) (fun hx => Bool.noConfusion hx)))
         refine csr (rm 1 rfl (Al (Bg (Ak ?_))))
         cases SJ h
         exact dnT rfl rfl rfl rfl
        ·replace h := Bq hc h
         clear hc
         refine son rfl rfl rfl (sv rfl (Aa Ao7 rfl) (son rfl rfl rfl (sv rfl (Ae ti3 rfl (.lp _ _ _ rfl) rfl) (son rfl rfl rfl (sv rfl (Aa Ao7 rfl) (son rfl rfl rfl (sv rfl (Ae ti3 rfl (.lp _ _ _ rfl) rfl) (son rfl rfl rfl (sv rfl (Bt rfl rfl) (rm 2 rfl (Bf 62 rfl (fun hc => ?_) (fun hc => ?_))))))))))))
         ·replace h := Br hc h
          clear hc
          refine rm 38 rfl (Al (Ei rfl (fun _ => ?_) (fun hx => Bool.noConfusion hx)))
          refine csr (rm 1 rfl (Al (Bg (Ak ?_))))
          cases SJ h
          exact dnT rfl rfl rfl rfl
         ·replace h := Bq hc h
          clear hc
          refine son rfl rfl rfl (sv rfl (Aa Apk rfl) (son rfl rfl rfl (sv rfl (Ae ti4 rfl (.lp _ _ _ rfl) rfl) (son rfl rfl rfl (sv rfl (Aa Apk rfl) (son rfl rfl rfl (sv rfl (Ae ti4 rfl (.lp _ _ _ rfl) rfl) (son rfl rfl rfl (sv rfl (Agm Tryz.underlying4 rfl rfl) (rm 2 rfl (Bf 69 rfl (fun hc => ?_) (fun hc => ?_))))))))))))
          ·replace h := Br hc h
           clear hc
           refine rm 31 rfl (Al (Ei rfl (fun _ => ?_) (fun hx => Bool.noConfusion hx)))
           refine csr (rm 1 rfl (Al (Bg (Ak ?_))))
           cases SJ h
           exact dnT rfl rfl rfl rfl
          ·replace h := Bq hc h
           clear hc
           refine son rfl rfl rfl (sv rfl (Aa Ai5 rfl) (son rfl rfl rfl (sv rfl (Ai Axd rfl (.lp _ _ _ rfl) (Nbl rfl)) (son rfl rfl rfl (sv rfl (Aa Ai5 rfl) (son rfl rfl rfl (sv rfl (Ai Axd rfl (.lp _ _ _ rfl) (Nbl rfl)) (son rfl rfl rfl (sv rfl (T3 A08 rfl rfl rfl rfl rfl) (rm 2 rfl (Bf 76 rfl (fun hc => ?_) (fun hc => ?_))))))))))))
           ·replace h := Br hc h
            clear hc
            refine rm 24 rfl (Al (Ei rfl (fun _ => ?_) (fun hx => Bool.noConfusion hx)))
            refine csr (rm 1 rfl (Al (Bg (Ak ?_))))
            cases SJ h
            exact dnT rfl rfl rfl rfl
           ·replace h := Bq hc h
            clear hc
            refine son rfl rfl rfl (sv rfl (Aa Ake rfl) (son rfl rfl rfl (sv rfl (Ai Axw rfl (.lp _ _ _ rfl) (Nbl rfl)) (son rfl rfl rfl (sv rfl (Aa Ake rfl) (son rfl rfl rfl (sv rfl (Ai Axw rfl (.lp _ _ _ rfl) (Nbl rfl)) (son rfl rfl rfl ?_))))))))
            obtain ⟨v21,hv21,h⟩ := Ag h
            refine Av rfl Azu (Ab rfl (Ab rfl Af)) (Ao rfl) (Wm hv21) (son rfl rfl rfl (sv rfl (B5 rfl) (rm 2 rfl (Bf 84 rfl (fun hc => ?_) (fun hc => ?_)))))
            ·replace h := Br hc h
             clear hc
             refine rm 16 rfl (Al (Ei rfl (fun _ => ?_) (fun hx => Bool.noConfusion hx)))
             refine csr (rm 1 rfl (Al (Bg (Ak ?_))))
             cases SJ h
             exact dnT rfl rfl rfl rfl
            ·replace h := Bq hc h
             clear hc
             refine son rfl rfl rfl (sv rfl (Aa Aik rfl) (son rfl rfl rfl (sv rfl (Ai Azp rfl (.lp _ _ _ rfl) (Nbl rfl)) (son rfl rfl rfl (sv rfl (Aa Aik rfl) (son rfl rfl rfl (sv rfl (Ai Azp rfl (.lp _ _ _ rfl) (Nbl rfl)) (son rfl rfl rfl ?_))))))))
             obtain ⟨v22,hv22,h⟩ := Ag h
             refine Av rfl A1t (Ab rfl (Ab rfl Af)) (Ao rfl) (Zw hv22) (son rfl rfl rfl (sv rfl (B5 rfl) (rm 2 rfl (Bf 92 rfl (fun hc => ?_) (fun hc => ?_)))))
             ·replace h := Br hc h
              clear hc
              refine rm 8 rfl (Al (Ei rfl (fun _ => ?_) (fun hx => Bool.noConfusion hx)))
              refine csr (rm 1 rfl (Al (Bg (Ak ?_))))
              cases SJ h
              exact dnT rfl rfl rfl rfl
             ·replace h := Bq hc h
              clear hc
              refine son rfl rfl rfl (sv rfl (Aa Alb rfl) (son rfl rfl rfl (sv rfl (Ae I9 rfl (.lp _ _ _ rfl) rfl) (son rfl rfl rfl (sv rfl (N7 (l := a0.Out) Tryz.underlying33 Tryz.underlying5 Tryz.underlying9 rfl rfl rfl) (son rfl rfl rfl (sv rfl (Aa Alb rfl) (son rfl rfl rfl (sv rfl (Ae I9 rfl (.lp _ _ _ rfl) rfl) (son rfl rfl rfl (sv rfl (N7 (l := a1.Out) Tryz.underlying33 Tryz.underlying5 Tryz.underlying9 rfl rfl rfl) (son rfl rfl rfl (sv rfl (Acf rfl rfl) (rm 1 rfl (Al (ccI h rfl (fun h => ?_) (fun h => ?_)))))))))))))))))
              ·refine csr (rm 1 rfl (Al (Bg (Ak ?_))))
               cases SJ h
               exact dnT rfl rfl rfl rfl
              ·refine Bi (Ac ?_)
               exact ⟨(),_,h,⟨rfl,rfl,trivial⟩,rfl⟩
def Iy (v1 : Bool) (b5 : Ad) (v9 : Ad) (v10 : Ad) (b11 : Unit) : Option Bool :=
 if (!decide (v9.Phase = b5.Phase)) then (if (!decide (v9.Req.Seq = b5.Req.Seq)) then (if v1 then ((Dy v10).bind fun v12 => (Dy v9).bind fun v13 => (Kg v12 v13).bind fun v14 => some v14) else (some false)) else (some v1)) else (some v1)
def Jf (a2 : Int) (a3 : Int) (v1 : Bool) (b5 : Ad) (v7 : (List UInt8) × Int) (b8 : Unit) : Option Bool :=
 (F4 b5 v7.1).bind fun v9 => (F4 v9 v7.1).bind fun v10 => if (!decide ((wI ((BitVec.ofInt 64 a2 &&& BitVec.ofInt 64 15).toNat : Int)) = b5.Req.Kind)) then (if v1 then ((Dy v9).bind fun v15 => (Dy b5).bind fun v16 => (Kg v15 v16).bind fun v17 => some v17) else (some false)) else (if (!decide ((wI ((BitVec.ofInt 64 a3 &&& BitVec.ofInt 64 255).toNat : Int)) = b5.Req.Seq)) then (if v1 then ((Dy v9).bind fun v18 => (Dy b5).bind fun v19 => (Kg v18 v19).bind fun v20 => some v20) else (some false)) else (Iy v1 b5 v9 v10 ()))
def Hk (a1 : G3) (a2 : Int) (a3 : Int) (v1 : Bool) (b5 : Ad) : Option Bool :=
 (I2 (Ba.mk (wI ((BitVec.ofInt 64 a2 &&& BitVec.ofInt 64 15).toNat : Int)) (wI ((BitVec.ofInt 64 a3 &&& BitVec.ofInt 64 255).toNat : Int)) a1.Reply.Code a1.Reply.N a1.Reply.Found a1.Reply.Val a1.Reply.List)).bind fun v6 => (Ko ([] : List UInt8) v6.1).bind fun v7 => if (!decide (v6.2 = 0)) then (some v1) else (if (!decide (v7.2 = 0)) then (some v1) else (if (decide (0 < (b5.In.Buf.length : Int))) then (some v1) else (Jf a2 a3 v1 b5 v7 ())))
def Gx (a0 : List G3) (s21 : Int × Ad) : Option (LB (Int × Ad) (Ad)) :=
 if (decide (s21.1 < (a0.length : Int))) then ((idx a0 s21.1).bind fun u22 => (O2 s21.2 u22).bind fun v23 => some (.cont ((wI (s21.1 + 1)),v23))) else (some (.brk s21.2))
def I8 (a0 : List G3) (a1 : G3) (a2 : Int) (a3 : Int) (v1 : Bool) (b2 : Unit) : Option Bool :=
 (O3).bind fun v3 => (Mj v3).bind fun v4 => if (!decide (v4.2 = 0)) then (some false) else ((Ec (Gx a0) fuel (0,v4.1)).bind fun e24 => Hk a1 a2 a3 v1 e24)
def Li (a0 : List G3) (a1 : G3) (a2 : Int) (a3 : Int) : Option Bool :=
 (Qk).bind fun v1 => (Ng a0).bind fun v25 => if (!v25) then (some v1) else ((Ng [a1]).bind fun v26 => if (!v26) then (some v1) else (I8 a0 a1 a2 a3 v1 ()))
theorem T7 {a0 : List G3} {a1 : G3} {a2 : Int} {a3 : Int} {r : Bool} (h : Li a0 a1 a2 a3 = some r) : Bl Tryz.prog 6 [.one (.sl a0.length (a0.flatMap Lj)),.agg (el a1),.one (Ii6 a2),.one (Ii6 a3)] (· = .s (.one (.b r))) := by
 unfold Li at h
 refine Au Tryz.func6 rfl (nt := 145) rfl (Nbl rfl) ?_
 intro w0 S0
 refine csr (Ih rfl rfl (rm 1 rfl (Al (Bp (Az ?_)))))
 obtain ⟨v1,hv1,h⟩ := Ag h
 refine Av rfl fn7 Af (Ao rfl) (Zx hv1) (rm 1 rfl (Al (Bp (Bp (Jk (Unit) (fun b2 => [(0,.s (.one (.sl a0.length (a0.flatMap Lj)))),(2,.s (.one (Ii6 a2))),(3,.s (.one (Ii6 a3))),(5,.s (.one (.lp 0 0))),(9,.s (.one (.b v1)))]) (fun b2 => [.box (el a1)]) (fun b2 => I8 a0 a1 a2 a3 v1 b2 = some r) (fun _ _ => A6 rfl) (fun _ _ => Ar rfl) (fun _ _ => Nbl rfl) (fun b2 h => ?_) ?_)))))
 ·unfold I8 at h
  refine Bp (Az ?_)
  obtain ⟨v3,hv3,h⟩ := Ag h
  refine Av rfl Ay3 Af (Ao rfl) (Ul hv3) ?_
  obtain ⟨v4,hv4,h⟩ := Ag h
  refine Av rfl fn9 (Ab rfl Af) (Ao rfl) (Tu hv4) (sv rfl (Gc rfl) (sv rfl (A4 rfl rfl) (sv rfl (A4 rfl rfl) (Bw rfl O1 (An E2 rfl rfl rfl rfl (Nbl rfl) (Bs [.box (el a1),.box (el v4.1)] rfl (rm 1 rfl (Al (Bp (csr (rm 1 rfl (sv rfl (Bt rfl rfl) (Al (ccI h rfl (fun h => ?_) (fun h => ?_)))))))))))))))
  ·refine csr (rm 1 rfl (Al (Bg (Ak ?_))))
   cases SJ h
   exact dnT rfl rfl rfl rfl
  ·refine Bi (Ac (Bp (csr (rm 1 rfl (Al (Gg (Ad) (fun b5 => [(2,.s (.one (Ii6 a2))),(3,.s (.one (Ii6 a3))),(5,.s (.one (.lp 0 0))),(9,.s (.one (.b v1))),(10,.s (.one (.lp 1 0)))]) (fun b5 => [.box (el a1),.box (el b5)]) (fun b5 => Hk a1 a2 a3 v1 b5 = some r) (fun _ _ => A6 rfl) (fun _ _ => Ar rfl) (fun _ _ => Nbl rfl) (fun b5 h => ?_) ?_))))))
   ·unfold Hk at h
    refine csr (rm 1 rfl (sv rfl (Ae4 rfl rfl) (rm 1 rfl (sv rfl (Ae4 rfl rfl) (sv rfl (Aa Yj rfl) (fl Ao6 Aah rfl rfl rfl rfl rfl rfl (sv rfl (Aa Yj rfl) (fl Apa ti3 rfl rfl rfl rfl rfl rfl (sv rfl (Aa Yj rfl) (fl Aou ti4 rfl rfl rfl rfl rfl rfl (sv rfl (Aa Yj rfl) (fl Aiu I9 rfl rfl rfl rfl rfl rfl (sv rfl (Aa Yj rfl) (fl Aad Ag8 rfl rfl rfl rfl rfl rfl (sv rfl (Be Alv Atc (Ah rfl (Ah rfl (Ah rfl (Ah rfl (Ah rfl (Ah rfl (Ah rfl Ay))))))) (Cg [Ii6 (wI ((BitVec.ofInt 64 a2 &&& BitVec.ofInt 64 15).toNat : Int)),Ii6 0,Ii6 0,Ii6 0,.b false,Znl,Znl] rfl rfl (Nbl rfl) rfl (Cg [Ii6 (wI ((BitVec.ofInt 64 a2 &&& BitVec.ofInt 64 15).toNat : Int)),Ii6 (wI ((BitVec.ofInt 64 a3 &&& BitVec.ofInt 64 255).toNat : Int)),Ii6 0,Ii6 0,.b false,Znl,Znl] rfl rfl (Nbl rfl) rfl (Cg [Ii6 (wI ((BitVec.ofInt 64 a2 &&& BitVec.ofInt 64 15).toNat : Int)),Ii6 (wI ((BitVec.ofInt 64 a3 &&& BitVec.ofInt 64 255).toNat : Int)),Ii6 a1.Reply.Code,Ii6 0,.b false,Znl,Znl] rfl rfl (Nbl rfl) rfl (Cg [Ii6 (wI ((BitVec.ofInt 64 a2 &&& BitVec.ofInt 64 15).toNat : Int)),Ii6 (wI ((BitVec.ofInt 64 a3 &&& BitVec.ofInt 64 255).toNat : Int)),Ii6 a1.Reply.Code,Ii6 a1.Reply.N,.b false,Znl,Znl] rfl rfl (Nbl rfl) rfl (Cg [Ii6 (wI ((BitVec.ofInt 64 a2 &&& BitVec.ofInt 64 15).toNat : Int)),Ii6 (wI ((BitVec.ofInt 64 a3 &&& BitVec.ofInt 64 255).toNat : Int)),Ii6 a1.Reply.Code,Ii6 a1.Reply.N,.b a1.Reply.Found,Znl,Znl] rfl rfl (Nbl rfl) rfl (Cg [Ii6 (wI ((BitVec.ofInt 64 a2 &&& BitVec.ofInt 64 15).toNat : Int)),Ii6 (wI ((BitVec.ofInt 64 a3 &&& BitVec.ofInt 64 255).toNat : Int)),Ii6 a1.Reply.Code,Ii6 a1.Reply.N,.b a1.Reply.Found,.sl a1.Reply.Val.length (a1.Reply.Val.flatMap eU8),Znl] rfl rfl (Nbl rfl) rfl (Cg [Ii6 (wI ((BitVec.ofInt 64 a2 &&& BitVec.ofInt 64 15).toNat : Int)),Ii6 (wI ((BitVec.ofInt 64 a3 &&& BitVec.ofInt 64 255).toNat : Int)),Ii6 a1.Reply.Code,Ii6 a1.Reply.N,.b a1.Reply.Found,.sl a1.Reply.Val.length (a1.Reply.Val.flatMap eU8),.sl a1.Reply.List.length (a1.Reply.List.flatMap Dw)] rfl rfl (Nbl rfl) rfl (.nil _))))))))) (Bw rfl Alv (An Aqo rfl rfl rfl rfl (Nbl rfl) (Bs [.box (el a1),.box (el b5),.box (el {a1.Reply with Kind := wI ((BitVec.ofInt 64 a2 &&& BitVec.ofInt 64 15).toNat : Int),Seq := wI ((BitVec.ofInt 64 a3 &&& BitVec.ofInt 64 255).toNat : Int)})] rfl (Al (csr (sv rfl (Ai Ady rfl (.lp _ _ _ rfl) (Nbl rfl)) ?_)))))))))))))))))))))
    obtain ⟨v6,hv6,h⟩ := Ag h
    refine Av rfl Azm (Ab rfl Af) (Ao rfl) (Qo hv6) (sv rfl (Gc rfl) (sv rfl (A4 rfl rfl) (sv rfl (A4 rfl rfl) (rm 2 rfl (Al (csr (sv rfl (Bc rfl) ?_)))))))
    obtain ⟨v7,hv7,h⟩ := Ag h
    refine Av rfl Axc (Ab rfl (Ab rfl Af)) (O4 rfl) (P4 hv7) (sv rfl (Gc rfl) (sv rfl (A4 rfl rfl) (sv rfl (A4 rfl rfl) (rm 2 rfl (Al (Bp (Bp (Jk (Unit) (fun b8 => [(9,.s (.one (.b v1))),(10,.s (.one (.lp 1 0))),(13,.s (.one (.lp 2 0))),(16,.s (.one (.sl v7.1.length (v7.1.flatMap eU8))))]) (fun b8 => [.box (el a1),.box (el b5),.box (el {a1.Reply with Kind := wI ((BitVec.ofInt 64 a2 &&& BitVec.ofInt 64 15).toNat : Int),Seq := wI ((BitVec.ofInt 64 a3 &&& BitVec.ofInt 64 255).toNat : Int)})]) (fun b8 => Jf a2 a3 v1 b5 v7 b8 = some r) (fun _ _ => A6 rfl) (fun _ _ => Ar rfl) (fun _ _ => Nbl rfl) (fun b8 h => ?_) ?_))))))))
    ·unfold Jf at h
     refine csr (sv rfl (Ai B6 rfl (.lp _ _ _ rfl) (Nbl rfl)) (sv rfl (Bc rfl) ?_))
     obtain ⟨v9,hv9,h⟩ := Ag h
     refine Av rfl Aue (Ab rfl (Ab rfl Af)) (Ao rfl) (J3 hv9) (Bw rfl O1 (An E2 rfl rfl rfl rfl (Nbl rfl) (Bs [.box (el a1),.box (el b5),.box (el {a1.Reply with Kind := wI ((BitVec.ofInt 64 a2 &&& BitVec.ofInt 64 15).toNat : Int),Seq := wI ((BitVec.ofInt 64 a3 &&& BitVec.ofInt 64 255).toNat : Int)}),.box (el v9)] rfl (Al (csr (sv rfl (Ai B6 rfl (.lp _ _ _ rfl) (Nbl rfl)) (sv rfl (Bc rfl) ?_)))))))
     obtain ⟨v10,hv10,h⟩ := Ag h
     refine Av rfl Aue (Ab rfl (Ab rfl Af)) (Ao rfl) (J3 hv10) (Bw rfl O1 (An E2 rfl rfl rfl rfl (Nbl rfl) (Bs [.box (el a1),.box (el b5),.box (el {a1.Reply with Kind := wI ((BitVec.ofInt 64 a2 &&& BitVec.ofInt 64 15).toNat : Int),Seq := wI ((BitVec.ofInt 64 a3 &&& BitVec.ofInt 64 255).toNat : Int)}),.box (el v9),.box (el v10)] rfl (Al (Bp (Bp (Jk (Unit) (fun b11 => [(9,.s (.one (.b v1))),(10,.s (.one (.lp 1 0))),(18,.s (.one (.lp 3 0))),(19,.s (.one (.lp 4 0)))]) (fun b11 => [.box (el a1),.box (el b5),.box (el {a1.Reply with Kind := wI ((BitVec.ofInt 64 a2 &&& BitVec.ofInt 64 15).toNat : Int),Seq := wI ((BitVec.ofInt 64 a3 &&& BitVec.ofInt 64 255).toNat : Int)}),.box (el v9),.box (el v10)]) (fun b11 => Iy v1 b5 v9 v10 b11 = some r) (fun _ _ => A6 rfl) (fun _ _ => Ar rfl) (fun _ _ => Nbl rfl) (fun b11 h => ?_) ?_)))))))
     ·unfold Iy at h
      refine Bp (csr (fl G8 ti3 rfl rfl rfl rfl rfl rfl (fl G8 ti3 rfl rfl rfl rfl rfl rfl (sv rfl (Bt rfl rfl) (rm 1 rfl (Bf 127 rfl (fun hc => ?_) (fun hc => ?_)))))))
      ·replace h := Br hc h
       clear hc
       refine son rfl rfl rfl (sv rfl (Aa Hz rfl) (son rfl rfl rfl (sv rfl (Aa Pp rfl) (son rfl rfl rfl (sv rfl (Ae ti3 rfl (.lp _ _ _ rfl) rfl) (son rfl rfl rfl (sv rfl (Aa Hz rfl) (son rfl rfl rfl (sv rfl (Aa Pp rfl) (son rfl rfl rfl (sv rfl (Ae ti3 rfl (.lp _ _ _ rfl) rfl) (son rfl rfl rfl (sv rfl (Bt rfl rfl) (rm 1 rfl (Al (ccI h rfl (fun h => ?_) (fun h => ?_)))))))))))))))))
       ·refine Bp ?_
        refine Yf Kd (by kernel_rfl) ?_
        refine dv rfl (Bc rfl) (dv rfl (Bc rfl) (Aa0 137 rfl (fun hc => ?_) (fun hc => ?_)))
        ·replace h := Br hc h
         clear hc
         refine dvg rfl rfl rfl (Ai B6 rfl (.lp _ _ _ rfl) (Nbl rfl)) ?_
         obtain ⟨v12,hv12,h⟩ := Ag h
         refine ddg rfl rfl rfl (Cm Asd (Ab rfl Af) rfl (I3 hv12)) (dvg rfl rfl rfl (Ai B6 rfl (.lp _ _ _ rfl) (Nbl rfl)) ?_)
         obtain ⟨v13,hv13,h⟩ := Ag h
         refine ddg rfl rfl rfl (Cm Asd (Ab rfl Af) rfl (I3 hv13)) ?_
         obtain ⟨v14,hv14,h⟩ := Ag h
         refine ddg rfl rfl rfl (Cm Avk (Ab rfl (Ab rfl Af)) rfl (Qu hv14)) (dv rfl (Oc rfl rfl) (dv rfl (K5 rfl) (Zy (Ac (Bg (Ak ?_))))))
         cases SJ h
         exact dnT rfl rfl rfl rfl
        ·replace h := Bq hc h
         clear hc
         refine Uc rfl rfl rfl rfl (Uc rfl rfl rfl rfl (Uc rfl rfl rfl rfl (Uc rfl rfl rfl rfl (Uc rfl rfl rfl rfl (dv rfl (Nh rfl rfl) (dv rfl (K5 rfl) (Zy (Ac (Bg (Ak ?_))))))))))
         cases SJ h
         exact dnT rfl rfl rfl rfl
       ·refine Bi (Ac (csr (rm 2 rfl (Al (Bg ?_)))))
        cases SJ h
        exact dnT rfl rfl rfl rfl
      ·replace h := Bq hc h
       clear hc
       refine rm 8 rfl (Al (Ei rfl (fun hx => Bool.noConfusion hx) (fun _ => ?_)))
       refine Bi (Ac (csr (rm 2 rfl (Al (Bg ?_)))))
       cases SJ h
       exact dnT rfl rfl rfl rfl
     ·skip
      refine Az (fl Rq ti3 rfl rfl rfl rfl rfl rfl (sv rfl (Aa Hz rfl) (fl Qm ti3 rfl rfl rfl rfl rfl rfl (sv rfl (Bt rfl rfl) (rm 1 rfl (Bf 106 rfl (fun hc => ?_) (fun hc => ?_)))))))
      ·replace h := Br hc h
       clear hc
       refine rm 7 rfl (Al (Ei rfl (fun _ => ?_) (fun hx => Bool.noConfusion hx)))
       refine Bp ?_
       refine Yf Kd (by kernel_rfl) ?_
       refine dv rfl (Bc rfl) (dv rfl (Bc rfl) (Aa0 115 rfl (fun hc => ?_) (fun hc => ?_)))
       ·replace h := Br hc h
        clear hc
        refine dvg rfl rfl rfl (Ai B6 rfl (.lp _ _ _ rfl) (Nbl rfl)) ?_
        obtain ⟨v15,hv15,h⟩ := Ag h
        refine ddg rfl rfl rfl (Cm Asd (Ab rfl Af) rfl (I3 hv15)) (dvg rfl rfl rfl (Ai B6 rfl (.lp _ _ _ rfl) (Nbl rfl)) ?_)
        obtain ⟨v16,hv16,h⟩ := Ag h
        refine ddg rfl rfl rfl (Cm Asd (Ab rfl Af) rfl (I3 hv16)) ?_
        obtain ⟨v17,hv17,h⟩ := Ag h
        refine ddg rfl rfl rfl (Cm Avk (Ab rfl (Ab rfl Af)) rfl (Qu hv17)) (dv rfl (Oc rfl rfl) (dv rfl (K5 rfl) (Zy (Ac (Bg (Ak ?_))))))
        cases SJ h
        exact dnT rfl rfl rfl rfl
       ·replace h := Bq hc h
        clear hc
        refine Uc rfl rfl rfl rfl (Uc rfl rfl rfl rfl (Uc rfl rfl rfl rfl (Uc rfl rfl rfl rfl (Uc rfl rfl rfl rfl (dv rfl (Nh rfl rfl) (dv rfl (K5 rfl) (Zy (Ac (Bg (Ak ?_))))))))))
        cases SJ h
        exact dnT rfl rfl rfl rfl
      ·replace h := Bq hc h
       clear hc
       refine son rfl rfl rfl (sv rfl (Aa Tm rfl) (son rfl rfl rfl (sv rfl (Ae ti3 rfl (.lp _ _ _ rfl) rfl) (son rfl rfl rfl (sv rfl (Aa Hz rfl) (son rfl rfl rfl (sv rfl (Aa Pp rfl) (son rfl rfl rfl (sv rfl (Ae ti3 rfl (.lp _ _ _ rfl) rfl) (son rfl rfl rfl (sv rfl (Bt rfl rfl) (rm 1 rfl (Al (ccI h rfl (fun h => ?_) (fun h => ?_)))))))))))))))
       ·refine Bp ?_
        refine Yf Kd (by kernel_rfl) ?_
        refine dv rfl (Bc rfl) (dv rfl (Bc rfl) (Aa0 115 rfl (fun hc => ?_) (fun hc => ?_)))
        ·replace h := Br hc h
         clear hc
         refine dvg rfl rfl rfl (Ai B6 rfl (.lp _ _ _ rfl) (Nbl rfl)) ?_
         obtain ⟨v18,hv18,h⟩ := Ag h
         refine ddg rfl rfl rfl (Cm Asd (Ab rfl Af) rfl (I3 hv18)) (dvg rfl rfl rfl (Ai B6 rfl (.lp _ _ _ rfl) (Nbl rfl)) ?_)
         obtain ⟨v19,hv19,h⟩ := Ag h
         refine ddg rfl rfl rfl (Cm Asd (Ab rfl Af) rfl (I3 hv19)) ?_
         obtain ⟨v20,hv20,h⟩ := Ag h
         refine ddg rfl rfl rfl (Cm Avk (Ab rfl (Ab rfl Af)) rfl (Qu hv20)) (dv rfl (Oc rfl rfl) (dv rfl (K5 rfl) (Zy (Ac (Bg (Ak ?_))))))
         cases SJ h
         exact dnT rfl rfl rfl rfl
        ·replace h := Bq hc h
         clear hc
         refine Uc rfl rfl rfl rfl (Uc rfl rfl rfl rfl (Uc rfl rfl rfl rfl (Uc rfl rfl rfl rfl (Uc rfl rfl rfl rfl (dv rfl (Nh rfl rfl) (dv rfl (K5 rfl) (Zy (Ac (Bg (Ak ?_))))))))))
         cases SJ h
         exact dnT rfl rfl rfl rfl
       ·refine Bi (Ac ?_)
        exact ⟨(),_,h,⟨rfl,rfl,rfl,rfl,trivial⟩,rfl⟩
    ·skip
     refine Az (rm 1 rfl (sv rfl (Bt rfl rfl) (rm 1 rfl (Bf 82 rfl (fun hc => ?_) (fun hc => ?_)))))
     ·replace h := Br hc h
      clear hc
      refine rm 10 rfl (Al (Ei rfl (fun _ => ?_) (fun hx => Bool.noConfusion hx)))
      refine csr (rm 2 rfl (Al (Bg (Ak ?_))))
      cases SJ h
      exact dnT rfl rfl rfl rfl
     ·replace h := Bq hc h
      clear hc
      refine rm 1 rfl (son rfl rfl rfl (sv rfl (Bt rfl rfl) (rm 2 rfl (Bf 86 rfl (fun hc => ?_) (fun hc => ?_)))))
      ·replace h := Br hc h
       clear hc
       refine rm 6 rfl (Al (Ei rfl (fun _ => ?_) (fun hx => Bool.noConfusion hx)))
       refine csr (rm 2 rfl (Al (Bg (Ak ?_))))
       cases SJ h
       exact dnT rfl rfl rfl rfl
      ·replace h := Bq hc h
       clear hc
       refine son rfl rfl rfl (sv rfl (Aa Tf rfl) (son rfl rfl rfl (sv rfl (Aa Aai rfl) (son rfl rfl rfl (sv rfl (Ae I9 rfl (.lp _ _ _ rfl) rfl) (son rfl rfl rfl (sv rfl (Aq Mi rfl) (son rfl rfl rfl (sv rfl (Dr rfl rfl) (rm 1 rfl (Al (ccI h rfl (fun h => ?_) (fun h => ?_)))))))))))))
       ·refine csr (rm 2 rfl (Al (Bg (Ak ?_))))
        cases SJ h
        exact dnT rfl rfl rfl rfl
       ·refine Bi (Ac ?_)
        exact ⟨(),_,h,⟨rfl,rfl,rfl,rfl,trivial⟩,rfl⟩
   ·skip
    refine B3 ?_
    obtain ⟨x21,hx21,ho21⟩ := Ag h
    refine Ct (G := Nat × (Int × Ad)) (fun g => [(0,.s (.one (.sl a0.length (a0.flatMap Lj)))),(2,.s (.one (Ii6 a2))),(3,.s (.one (Ii6 a3))),(5,.s (.one (.lp 0 0))),(9,.s (.one (.b v1))),(10,.s (.one (.lp 1 0))),(12,.s (.one (Ii6 g.2.1)))]) (fun g => [.box (el a1),.box (el g.2.2)]) (fun g => Ec (Gx a0) g.1 g.2 = some x21) (fun g => g.1) (fuel,(0,v4.1)) hx21 ⟨rfl,rfl,rfl,rfl,rfl,rfl,rfl,trivial⟩ [] rfl (fun _ _ => A6 rfl) (fun _ _ => Ar rfl) (fun _ _ => Nbl rfl) ?_
    clear hx21 h
    rintro ⟨n21,s21⟩ h
    obtain ⟨n21,y21,rfl,h,hk21⟩ := Fj h
    unfold Gx at h
    refine Bp (csr (rm 2 rfl (sv rfl (Aq Ap4 rfl) (sv rfl (Ci rfl rfl) (Al (ccI h rfl (fun h => ?_) (fun h => ?_)))))))
    ·refine Bi (Ac (Bp (B3 ?_)))
     obtain ⟨u22,hu22,h⟩ := Ag h
     obtain ⟨v23,hv23,h⟩ := Ag h
     refine Jj [6] [0,0,0,6,14,31,63] [[.box (el a1),.box (el s21.2)],[.box (el a1),.box (el v23)]] (by kernel_rfl) Kd (by kernel_rfl) (by decide) rfl rfl rfl rfl ?_
     refine ev (Bb 0 rfl rfl) rfl rfl (Ai B6 rfl (.lp _ _ _ rfl) (Nbl rfl)) (ev (Bb 0 rfl rfl) rfl rfl (Bc rfl) (ev (Bb 0 rfl rfl) rfl rfl (Bc rfl) (ev (Bb 0 rfl rfl) rfl rfl (Db (f := Lj) Ap4 (fun _ => rfl) rfl rfl rfl rfl hu22) ?_)))
     refine ev (Bb 0 rfl rfl) rfl rfl (Cb (ys := [Ii6 u22.What,Ii6 u22.N,Ii6 u22.Task.Token,.b u22.Task.Prog.RO,.sl u22.Task.Prog.Ops.length (u22.Task.Prog.Ops.flatMap Ep),Ii6 u22.Reply.Kind,Ii6 u22.Reply.Seq,Ii6 u22.Reply.Code,Ii6 u22.Reply.N,.b u22.Reply.Found,.sl u22.Reply.Val.length (u22.Reply.Val.flatMap eU8),.sl u22.Reply.List.length (u22.Reply.List.flatMap Dw),.sl u22.Bytes.length (u22.Bytes.flatMap eU8)]) Azg rfl (.cp _) rfl rfl) (ed (Bb 0 rfl rfl) rfl rfl (Cm A1u (Ab rfl (Ab rfl Af)) rfl (Z2 hv23)) (ee0 0 rfl rfl rfl rfl (fun ζ => ?_) ?_))
     ·refine An E2 rfl rfl rfl rfl (Nbl rfl) (Bs [.box (el a1),.box (el v23)] rfl ?_)
      exact Sv
     refine Z1 (Aw (Ac (Az (rm 1 rfl (sv rfl (B4 rfl rfl) (rm 1 rfl (Al ?_)))))))
     cases SJ h
     exact ⟨(n21,((wI (s21.1 + 1)),v23)),_,hk21,⟨rfl,rfl,rfl,rfl,rfl,rfl,rfl,trivial⟩,rfl,Nat.lt_succ_self _⟩
    ·refine Kk (Bd (Bd (B8 (Ac ?_))))
     cases SJ h
     obtain rfl : _ = x21 := hk21
     exact ⟨s21.2,_,ho21,⟨rfl,rfl,rfl,rfl,rfl,trivial⟩,rfl⟩
 ·skip
  refine Az (sv rfl (Bc rfl) ?_)
  obtain ⟨v25,hv25,h⟩ := Ag h
  refine Av rfl fn8 (Ab rfl Af) (Ao rfl) (Uo hv25) (sv rfl (B5 rfl) (rm 1 rfl (Bf 24 rfl (fun hc => ?_) (fun hc => ?_))))
  ·replace h := Br hc h
   clear hc
   refine rm 5 rfl (Al (Ei rfl (fun _ => ?_) (fun hx => Bool.noConfusion hx)))
   refine csr (rm 2 rfl (Al (Bg (Ak ?_))))
   cases SJ h
   exact dnT rfl rfl rfl rfl
  ·replace h := Bq hc h
   clear hc
   refine son rfl rfl rfl (sv rfl (Ai Azg rfl (.lp _ _ _ rfl) (Nbl rfl)) (son rfl rfl rfl ?_))
   refine O9 rfl Tryz.underlying22 A0y rfl rfl (List.all_eq_true.1 rfl) (by decide) ?_
   refine Bs [.box (el a1),.arr 57 13 0 ([a1].flatMap Lj)] rfl (son rfl rfl rfl ?_)
   refine Ab7 26 rfl (by (repeat' first | exact Kf.nil _ | apply Kf.cons | apply Ke.one | apply Ke.agg | exact Em.nil | exact Em.ls _ _ _ _ _ _ rfl (A7 (f := Lj) (fun _ => rfl) ([a1] : List G3)).symm | exact Em.ls _ _ _ _ _ _ rfl (A7 (f := Lj) (fun _ => rfl) _).symm | exact Em.id _ rfl | exact Dv.nil _ | apply Dv.cons)) ?_
   obtain ⟨v26,hv26,h⟩ := Ag h
   refine Av rfl fn8 (Ab rfl Af) (Ao rfl) (Uo hv26) (son rfl rfl rfl (sv rfl (B5 rfl) (rm 1 rfl (Al (ccI h rfl (fun h => ?_) (fun h => ?_))))))
   ·refine csr (rm 2 rfl (Al (Bg (Ak ?_))))
    cases SJ h
    exact dnT rfl rfl rfl rfl
   ·refine Bi (Ac ?_)
    exact ⟨(),_,h,⟨rfl,rfl,rfl,rfl,rfl,trivial⟩,rfl⟩
end Go.Proofs.YtbjckaahoacbfaaGreatDoor.Abs
