/-
 t
-/
import Derived.Test.YtphgpfgibpgfiaaGreatST24rb
set_option linter.unusedVariables false
set_option linter.unusedSimpArgs false
namespace Go.Proofs.YtphgpfgibpgfiaaGreat.Abs
open Go.RowKit Go.Proofs
set_option maxRecDepth 100000
def Ly (a0 : List Ca) : Option Bool :=
 (Fc (Ir a0) fuel 0).bind fun x => match x with | .inl r => some r | .inr e16 => Oc a0 e16
theorem Xn {a0 : List Ca} {r : Bool} (h : Ly a0 = some r) : Bz Tryz.prog 36 [.one (.sl a0.length (a0.flatMap B4))] (· = .s (.one (.b r))) := by
 unfold Ly at h
 refine A8 Tryz.func36 rfl (nt := 73) rfl (Nbl rfl) ?_
 intro w0 S0
 refine csr (rm 1 rfl (Al (Bp (csr (rm 1 rfl (Al (C4 (Unit) (fun b1 => [(0, .s (.one (.sl a0.length (a0.flatMap B4))))]) (fun b1 => []) (fun b1 => Oc a0 b1 = some r) (fun _ _ => Az rfl) (fun _ _ => Ak rfl) (fun _ _ => Nbl rfl) (fun b1 h => ?_) ?_)))))))
 ·unfold Oc at h
  refine csr (rm 1 rfl (sv rfl (An Zg rfl) (sv rfl (Eb rfl rfl) (rm 1 rfl (Al (Bo ?_))))))
  obtain rfl := SJ h
  exact dnT rfl rfl rfl rfl
 ·skip
  refine Bf ?_
  obtain ⟨x2, hx2, ho2⟩ := Ag h
  refine Bs (G := Nat × (Int)) (fun g => [(0, .s (.one (.sl a0.length (a0.flatMap B4)))), (3, .s (.one (Ii6 g.2)))]) (fun g => []) (fun g => Fc (Ir a0) g.1 g.2 = some x2) (fun g => g.1) (fuel, 0) hx2 ⟨rfl, rfl, trivial⟩ [] rfl (fun _ _ => Az rfl) (fun _ _ => Ak rfl) (fun _ _ => Nbl rfl) ?_
  clear hx2 h
  rintro ⟨n2, s2⟩ h
  obtain ⟨n2, y2, rfl, h, hk2⟩ := Dc h
  unfold Ir at h
  refine Bp (csr (rm 2 rfl (sv rfl (An Zg rfl) (sv rfl (Bi rfl rfl) (Al (ccI h rfl (fun h => ?_) (fun h => ?_)))))))
  ·refine Be (Ab (Bp (Bf (csr (rm 1 rfl (sv rfl (A3 rfl) ?_))))))
   obtain ⟨u3, hu3, h⟩ := Ag h
   refine sv rfl (Bw (f := B4) Zg (fun _ => rfl) rfl rfl rfl rfl hu3) ?_
   refine sv rfl (Bq (ys := [Ii6 u3.Token, Ii6 u3.Snap, Ii6 u3.Ts, .sl u3.Reads.length (u3.Reads.flatMap A0), .sl u3.Writes.length (u3.Writes.flatMap Ac)]) Aej rfl (.cp _) rfl rfl) (Ce rfl Arq (A9 Arc rfl rfl rfl rfl (Nbl rfl) (Cc [.box (EL.el u3)] rfl (Al (Bp (Bp (I0 (Unit) (fun b4 => [(0, .s (.one (.sl a0.length (a0.flatMap B4)))), (3, .s (.one (Ii6 s2))), (4, .s (.one (.lp 0 0)))]) (fun b4 => [.box (EL.el u3)]) (fun b4 => Mo a0 s2 u3 b4 = some y2) (fun _ _ => Az rfl) (fun _ _ => Ak rfl) (fun _ _ => Nbl rfl) (fun b4 h => ?_) ?_)))))))
   ·unfold Mo at h
    refine Bp (csr (rm 1 rfl (Al (C4 (Unit) (fun b5 => [(0, .s (.one (.sl a0.length (a0.flatMap B4)))), (3, .s (.one (Ii6 s2))), (4, .s (.one (.lp 0 0)))]) (fun b5 => [.box (EL.el u3)]) (fun b5 => Jz a0 s2 u3 b5 = some y2) (fun _ _ => Az rfl) (fun _ _ => Ak rfl) (fun _ _ => Nbl rfl) (fun b5 h => ?_) ?_))))
    ·unfold Jz at h
     refine csr (rm 1 rfl (Al (Ac1 (Unit) (fun b6 => [(0, .s (.one (.sl a0.length (a0.flatMap B4)))), (3, .s (.one (Ii6 s2)))]) (fun b6 => [.box (EL.el u3)]) (fun b6 => J4 s2 b6 = some y2) (fun _ _ => Az rfl) (fun _ _ => Ak rfl) (fun _ _ => Nbl rfl) (fun b6 h => ?_) ?_)))
     ·unfold J4 at h
      refine Ax (rm 1 rfl (sv rfl (Bj rfl rfl) (rm 1 rfl (Al ?_))))
      obtain rfl := SJ h
      exact ⟨(n2, (wI (s2 + 1))), _, hk2, ⟨rfl, rfl, trivial⟩, rfl, Nat.lt_succ_self _⟩
     ·skip
      refine Bf ?_
      obtain ⟨x7, hx7, ho7⟩ := Ag h
      refine Bs (G := Nat × (Int)) (fun g => [(0, .s (.one (.sl a0.length (a0.flatMap B4)))), (3, .s (.one (Ii6 s2))), (4, .s (.one (.lp 0 0))), (6, .s (.one (Ii6 g.2)))]) (fun g => [.box (EL.el u3)]) (fun g => Fc (Ie a0 s2 u3) g.1 g.2 = some x7) (fun g => g.1) (fuel, 0) hx7 ⟨rfl, rfl, rfl, rfl, trivial⟩ [] rfl (fun _ _ => Az rfl) (fun _ _ => Ak rfl) (fun _ _ => Nbl rfl) ?_
      clear hx7 h
      rintro ⟨n7, s7⟩ h
      obtain ⟨n7, y7, rfl, h, hk7⟩ := Dc h
      unfold Ie at h
      refine Bp (csr (rm 2 rfl (sv rfl (Bi rfl rfl) (Al (ccI h rfl (fun h => ?_) (fun h => ?_))))))
      ·refine Be (Ab (Bp (Bf (Bp ?_))))
       refine Qc mixed (by kernel_rfl) ?_
       refine dv rfl (A3 rfl) (dv rfl (A3 rfl) ?_)
       obtain ⟨u8, hu8, h⟩ := Ag h
       refine dv rfl (Bw (f := B4) Zg (fun _ => rfl) rfl rfl rfl rfl hu8) ?_
       refine dv rfl (A6 Aaq rfl) (dv rfl (Ae ti3 rfl (.cp _) rfl) (dv rfl (Aa Aaq rfl) (dv rfl (Ae ti3 rfl (.lp _ _ _ rfl) rfl) (dv rfl (Bg rfl rfl) (dv rfl (A3 rfl) (Mw 60 rfl (fun hc => ?_) (fun hc => ?_)))))))
       ·replace h := Bt hc h
        clear hc
        refine Dz rfl rfl rfl rfl (Dz rfl rfl rfl rfl (Dz rfl rfl rfl rfl (Dz rfl rfl rfl rfl (Dz rfl rfl rfl rfl (Dz rfl rfl rfl rfl (Dz rfl rfl rfl rfl (Dz rfl rfl rfl rfl (dv rfl (Cs rfl rfl) (Py (Ab (Cm rfl (fun _ => ?_) (fun hx => Bool.noConfusion hx))))))))))))
        refine csr (rm 1 rfl (Al (Bo (Ao (Ah (Ah (Ao (Ao (Ah (Ah (Ao (Ah ?_))))))))))))
        obtain rfl := SJ h
        obtain rfl : Sum.inl _ = x7 := hk7
        replace ho7 : some _ = some _ := ho7
        obtain rfl := Option.some.inj ho7
        obtain rfl : Sum.inl _ = x2 := hk2
        replace ho2 : some _ = some _ := ho2
        obtain rfl := Option.some.inj ho2
        exact dnT rfl rfl rfl rfl
       ·replace h := Bu hc h
        clear hc
        refine dvg rfl rfl rfl (A3 rfl) (dvg rfl rfl rfl (A3 rfl) ?_)
        obtain ⟨u9, hu9, h⟩ := Ag h
        refine dvg rfl rfl rfl (Bw (f := B4) Zg (fun _ => rfl) rfl rfl rfl rfl hu9) ?_
        refine dvg rfl rfl rfl (A6 Qp rfl) (dvg rfl rfl rfl (Ae ti3 rfl (.cp _) rfl) (dvg rfl rfl rfl (Aa Qp rfl) (dvg rfl rfl rfl (Ae ti3 rfl (.lp _ _ _ rfl) rfl) (dvg rfl rfl rfl (Bg rfl rfl) (dv rfl (Cj rfl rfl) (Py (Ab (ccI h rfl (fun h => ?_) (fun h => ?_)))))))))
        ·refine csr (rm 1 rfl (Al (Bo (Ao (Ah (Ah (Ao (Ao (Ah (Ah (Ao (Ah ?_))))))))))))
         obtain rfl := SJ h
         obtain rfl : Sum.inl _ = x7 := hk7
         replace ho7 : some _ = some _ := ho7
         obtain rfl := Option.some.inj ho7
         obtain rfl : Sum.inl _ = x2 := hk2
         replace ho2 : some _ = some _ := ho2
         obtain rfl := Option.some.inj ho2
         exact dnT rfl rfl rfl rfl
        ·refine Be (Am (Ab (Ax (rm 1 rfl (sv rfl (Bj rfl rfl) (rm 1 rfl (Al ?_)))))))
         obtain rfl := SJ h
         exact ⟨(n7, (wI (s7 + 1))), _, hk7, ⟨rfl, rfl, rfl, rfl, trivial⟩, rfl, Nat.lt_succ_self _⟩
      ·refine Dp (Aq (Aq (Bd (Am (Ab ?_)))))
       obtain rfl := SJ h
       obtain rfl : _ = x7 := hk7
       exact ⟨(), _, ho7, ⟨rfl, rfl, trivial⟩, rfl⟩
    ·skip
     refine Bf ?_
     obtain ⟨x11, hx11, ho11⟩ := Ag h
     refine Bs (G := Nat × (Int)) (fun g => [(0, .s (.one (.sl a0.length (a0.flatMap B4)))), (3, .s (.one (Ii6 s2))), (4, .s (.one (.lp 0 0))), (5, .s (.one (Ii6 g.2)))]) (fun g => [.box (EL.el u3)]) (fun g => Fc (G7 u3) g.1 g.2 = some x11) (fun g => g.1) (fuel, 0) hx11 ⟨rfl, rfl, rfl, rfl, trivial⟩ [] rfl (fun _ _ => Az rfl) (fun _ _ => Ak rfl) (fun _ _ => Nbl rfl) ?_
     clear hx11 h
     rintro ⟨n11, s11⟩ h
     obtain ⟨n11, y11, rfl, h, hk11⟩ := Dc h
     unfold G7 at h
     refine Bp (csr (rm 1 rfl (fl U5 Ahc rfl rfl rfl rfl rfl rfl (sv rfl (An Aip rfl) (sv rfl (Bi rfl rfl) (Al (ccI h rfl (fun h => ?_) (fun h => ?_))))))))
     ·refine Be (Ab (Bp (Bf (csr (fl U5 Ahc rfl rfl rfl rfl rfl rfl (sv rfl (A3 rfl) ?_))))))
      obtain ⟨u12, hu12, h⟩ := Ag h
      refine sv rfl (Bw (f := A0) Aip (fun _ => rfl) rfl rfl rfl rfl hu12) ?_
      refine sv rfl (Bq (ys := [.sl u12.Lo.length (u12.Lo.flatMap eU8), .sl u12.Hi.length (u12.Hi.flatMap eU8), .b u12.Open]) Vd rfl (.cp _) rfl rfl) ?_
      obtain ⟨v13, hv13, h⟩ := Ag h
      refine Bn rfl Aqv (Ad rfl Aj) (A4 rfl) (N0 hv13) (sv rfl (B1 rfl) (Al (ccI h rfl (fun h => ?_) (fun h => ?_))))
      ·refine csr (rm 1 rfl (Al (Bo (Ao (Ah (Ah (Ao (Ah (Ao (Ah (Ah (Ao (Ah ?_)))))))))))))
       obtain rfl := SJ h
       obtain rfl : Sum.inl _ = x11 := hk11
       replace ho11 : some _ = some _ := ho11
       obtain rfl := Option.some.inj ho11
       obtain rfl : Sum.inl _ = x2 := hk2
       replace ho2 : some _ = some _ := ho2
       obtain rfl := Option.some.inj ho2
       exact dnT rfl rfl rfl rfl
      ·refine Be (Am (Ab (Ax (rm 1 rfl (sv rfl (Bj rfl rfl) (rm 1 rfl (Al ?_)))))))
       obtain rfl := SJ h
       exact ⟨(n11, (wI (s11 + 1))), _, hk11, ⟨rfl, rfl, rfl, rfl, trivial⟩, rfl, Nat.lt_succ_self _⟩
     ·refine Dp (Aq (Aq (Bd (Ab ?_))))
      obtain rfl := SJ h
      obtain rfl : _ = x11 := hk11
      exact ⟨(), _, ho11, ⟨rfl, rfl, rfl, trivial⟩, rfl⟩
   ·skip
    refine Ax (fl Tt ti3 rfl rfl rfl rfl rfl rfl (sv rfl (Bi rfl rfl) (rm 1 rfl (Bc 20 rfl (fun hc => ?_) (fun hc => ?_)))))
    ·replace h := Bt hc h
     clear hc
     refine rm 12 rfl (Al (Cm rfl (fun _ => ?_) (fun hx => Bool.noConfusion hx)))
     refine csr (rm 1 rfl (Al (Bo (Ah (Ao (Ah (Ah (Ao (Ah ?_)))))))))
     obtain rfl := SJ h
     obtain rfl : Sum.inl _ = x2 := hk2
     replace ho2 : some _ = some _ := ho2
     obtain rfl := Option.some.inj ho2
     exact dnT rfl rfl rfl rfl
    ·replace h := Bu hc h
     clear hc
     refine son rfl rfl rfl (sv rfl (Aa Qp rfl) (son rfl rfl rfl (sv rfl (Ae ti3 rfl (.lp _ _ _ rfl) rfl) (son rfl rfl rfl (sv rfl (Aa Tt rfl) (son rfl rfl rfl (sv rfl (Ae ti3 rfl (.lp _ _ _ rfl) rfl) (son rfl rfl rfl (sv rfl (Eb rfl rfl) (rm 2 rfl (Bc 27 rfl (fun hc => ?_) (fun hc => ?_))))))))))))
     ·replace h := Bt hc h
      clear hc
      refine rm 5 rfl (Al (Cm rfl (fun _ => ?_) (fun hx => Bool.noConfusion hx)))
      refine csr (rm 1 rfl (Al (Bo (Ah (Ao (Ah (Ah (Ao (Ah ?_)))))))))
      obtain rfl := SJ h
      obtain rfl : Sum.inl _ = x2 := hk2
      replace ho2 : some _ = some _ := ho2
      obtain rfl := Option.some.inj ho2
      exact dnT rfl rfl rfl rfl
     ·replace h := Bu hc h
      clear hc
      refine son rfl rfl rfl (sv rfl (Aa Qk rfl) (son rfl rfl rfl (sv rfl (Ae Ry rfl (.lp _ _ _ rfl) rfl) (son rfl rfl rfl ?_))))
      obtain ⟨v15, hv15, h⟩ := Ag h
      refine Bn rfl App (Ad rfl Aj) (A4 rfl) (Nl hv15) (son rfl rfl rfl (sv rfl (B1 rfl) (rm 1 rfl (Al (ccI h rfl (fun h => ?_) (fun h => ?_))))))
      ·refine csr (rm 1 rfl (Al (Bo (Ah (Ao (Ah (Ah (Ao (Ah ?_)))))))))
       obtain rfl := SJ h
       obtain rfl : Sum.inl _ = x2 := hk2
       replace ho2 : some _ = some _ := ho2
       obtain rfl := Option.some.inj ho2
       exact dnT rfl rfl rfl rfl
      ·refine Be (Ab ?_)
       exact ⟨(), _, h, ⟨rfl, rfl, rfl, trivial⟩, rfl⟩
  ·refine Dp (Aq (Aq (Bd (Ab ?_))))
   obtain rfl := SJ h
   obtain rfl : _ = x2 := hk2
   exact ⟨(), _, ho2, ⟨rfl, trivial⟩, rfl⟩
def N9 (b1 : Unit) : Option Bool :=
 some false
def Kf (s2 : Int) (b3 : Unit) : Option (LR (Int) (Unit) (Bool)) :=
 some (.cont (wI (s2 + 1)))
def Iq (a0 : List Af) (a1 : List Af) (s2 : Int) (s4 : Int) : Option (LR (Int) (Unit) (Bool)) :=
 if (decide (s4 < (a1.length : Int))) then ((idx a0 s2).bind fun u5 => (idx a1 s4).bind fun u6 => if (u5.Key == u6.Key) then (some (.ret true)) else (some (.cont (wI (s4 + 1))))) else (some (.brk ()))
def Il (a0 : List Af) (a1 : List Af) (s2 : Int) : Option (LR (Int) (Unit) (Bool)) :=
 if (decide (s2 < (a0.length : Int))) then ((Fc (Iq a0 a1 s2) fuel 0).bind fun x => match x with | .inl r => some (.ret r) | .inr e7 => Kf s2 e7) else (some (.brk ()))
def L0 (a0 : List Af) (a1 : List Af) : Option Bool :=
 (Fc (Il a0 a1) fuel 0).bind fun x => match x with | .inl r => some r | .inr e8 => N9 e8
theorem Xd {a0 : List Af} {a1 : List Af} {r : Bool} (h : L0 a0 a1 = some r) : Bz Tryz.prog 71 [.one (.sl a0.length (a0.flatMap Ac)), .one (.sl a1.length (a1.flatMap Ac))] (· = .s (.one (.b r))) := by
 unfold L0 at h
 refine A8 Tryz.func71 rfl (nt := 32) rfl (Nbl rfl) ?_
 intro w0 S0
 refine csr (rm 1 rfl (Al (Bp (csr (rm 1 rfl (Al (C4 (Unit) (fun b1 => []) (fun b1 => []) (fun b1 => N9 b1 = some r) (fun _ _ => Az rfl) (fun _ _ => Ak rfl) (fun _ _ => Nbl rfl) (fun b1 h => ?_) ?_)))))))
 ·unfold N9 at h
  refine csr (rm 1 rfl (Al (Bo ?_)))
  obtain rfl := SJ h
  exact dnT rfl rfl rfl rfl
 ·skip
  refine Bf ?_
  obtain ⟨x2, hx2, ho2⟩ := Ag h
  refine Bs (G := Nat × (Int)) (fun g => [(0, .s (.one (.sl a0.length (a0.flatMap Ac)))), (1, .s (.one (.sl a1.length (a1.flatMap Ac)))), (5, .s (.one (Ii6 g.2)))]) (fun g => []) (fun g => Fc (Il a0 a1) g.1 g.2 = some x2) (fun g => g.1) (fuel, 0) hx2 ⟨rfl, rfl, rfl, trivial⟩ [] rfl (fun _ _ => Az rfl) (fun _ _ => Ak rfl) (fun _ _ => Nbl rfl) ?_
  clear hx2 h
  rintro ⟨n2, s2⟩ h
  obtain ⟨n2, y2, rfl, h, hk2⟩ := Dc h
  unfold Il at h
  refine Bp (csr (rm 2 rfl (sv rfl (An Qr rfl) (sv rfl (Bi rfl rfl) (Al (ccI h rfl (fun h => ?_) (fun h => ?_)))))))
  ·refine Be (Ab (Bp (Bf (csr (rm 1 rfl (Al (Ac1 (Unit) (fun b3 => [(0, .s (.one (.sl a0.length (a0.flatMap Ac)))), (1, .s (.one (.sl a1.length (a1.flatMap Ac)))), (5, .s (.one (Ii6 s2)))]) (fun b3 => []) (fun b3 => Kf s2 b3 = some y2) (fun _ _ => Az rfl) (fun _ _ => Ak rfl) (fun _ _ => Nbl rfl) (fun b3 h => ?_) ?_)))))))
   ·unfold Kf at h
    refine Ax (rm 1 rfl (sv rfl (Bj rfl rfl) (rm 1 rfl (Al ?_))))
    obtain rfl := SJ h
    exact ⟨(n2, (wI (s2 + 1))), _, hk2, ⟨rfl, rfl, rfl, trivial⟩, rfl, Nat.lt_succ_self _⟩
   ·skip
    refine Bf ?_
    obtain ⟨x4, hx4, ho4⟩ := Ag h
    refine Bs (G := Nat × (Int)) (fun g => [(0, .s (.one (.sl a0.length (a0.flatMap Ac)))), (1, .s (.one (.sl a1.length (a1.flatMap Ac)))), (5, .s (.one (Ii6 s2))), (6, .s (.one (Ii6 g.2)))]) (fun g => []) (fun g => Fc (Iq a0 a1 s2) g.1 g.2 = some x4) (fun g => g.1) (fuel, 0) hx4 ⟨rfl, rfl, rfl, rfl, trivial⟩ [] rfl (fun _ _ => Az rfl) (fun _ _ => Ak rfl) (fun _ _ => Nbl rfl) ?_
    clear hx4 h
    rintro ⟨n4, s4⟩ h
    obtain ⟨n4, y4, rfl, h, hk4⟩ := Dc h
    unfold Iq at h
    refine Bp (csr (rm 2 rfl (sv rfl (An Qr rfl) (sv rfl (Bi rfl rfl) (Al (ccI h rfl (fun h => ?_) (fun h => ?_)))))))
    ·refine Be (Ab (Bp (Bf (Bp ?_))))
     refine Qc mixed (by kernel_rfl) ?_
     refine dv rfl (A3 rfl) (dv rfl (A3 rfl) ?_)
     obtain ⟨u5, hu5, h⟩ := Ag h
     refine dv rfl (Bw (f := Ac) Qr (fun _ => rfl) rfl rfl rfl rfl hu5) ?_
     refine dv rfl (A6 J3 rfl) (dv rfl (Ae E6 rfl (.cp _) rfl) (dv rfl (O9 (l := u5.Key) Tryz.underlying46 Tryz.underlying5 Tryz.underlying9 rfl rfl rfl) (dv rfl (A3 rfl) (dv rfl (A3 rfl) ?_))))
     obtain ⟨u6, hu6, h⟩ := Ag h
     refine dv rfl (Bw (f := Ac) Qr (fun _ => rfl) rfl rfl rfl rfl hu6) ?_
     refine dv rfl (A6 J3 rfl) (dv rfl (Ae E6 rfl (.cp _) rfl) (dv rfl (O9 (l := u6.Key) Tryz.underlying46 Tryz.underlying5 Tryz.underlying9 rfl rfl rfl) (dv rfl (W7 rfl rfl) (Py (Ab (ccI h rfl (fun h => ?_) (fun h => ?_)))))))
     ·refine csr (rm 1 rfl (Al (Bo (Ao (Ah (Ah (Ao (Ao (Ah (Ah (Ao (Ah ?_))))))))))))
      obtain rfl := SJ h
      obtain rfl : Sum.inl _ = x4 := hk4
      replace ho4 : some _ = some _ := ho4
      obtain rfl := Option.some.inj ho4
      obtain rfl : Sum.inl _ = x2 := hk2
      replace ho2 : some _ = some _ := ho2
      obtain rfl := Option.some.inj ho2
      exact dnT rfl rfl rfl rfl
     ·refine Be (Am (Ab (Ax (rm 1 rfl (sv rfl (Bj rfl rfl) (rm 1 rfl (Al ?_)))))))
      obtain rfl := SJ h
      exact ⟨(n4, (wI (s4 + 1))), _, hk4, ⟨rfl, rfl, rfl, rfl, trivial⟩, rfl, Nat.lt_succ_self _⟩
    ·refine Dp (Aq (Aq (Bd (Am (Ab ?_)))))
     obtain rfl := SJ h
     obtain rfl : _ = x4 := hk4
     exact ⟨(), _, ho4, ⟨rfl, rfl, rfl, trivial⟩, rfl⟩
  ·refine Dp (Aq (Aq (Bd (Ab ?_))))
   obtain rfl := SJ h
   obtain rfl : _ = x2 := hk2
   exact ⟨(), _, ho2, trivial, rfl⟩
def Lq (a0 : Ar) (a1 : List UInt8) : Option Bool :=
 (Gp a1 a0.Lo).bind fun v1 => if (decide (0 ≤ v1)) then (if a0.Open then (some true) else ((Gp a1 a0.Hi).bind fun v2 => some (decide (v2 < 0)))) else (some false)
theorem P9 {a0 : Ar} {a1 : List UInt8} {r : Bool} (h : Lq a0 a1 = some r) : Bz Tryz.prog 78 [.agg (EL.el a0), .one (.sl a1.length (a1.flatMap eU8))] (· = .s (.one (.b r))) := by
 unfold Lq at h
 refine A8 Tryz.func78 rfl (nt := 21) rfl (Nbl rfl) ?_
 intro w0 S0
 refine csr (Kp rfl rfl (rm 1 rfl (Al (csr (rm 1 rfl (sv rfl (Aa Pm rfl) (sv rfl (Ae E6 rfl (.lp _ _ _ rfl) rfl) ?_)))))))
 obtain ⟨v1, hv1, h⟩ := Ag h
 refine Bn rfl Akj (Ad rfl (Ad rfl Aj)) (A4 rfl) (I3 hv1) (sv rfl (G6 rfl rfl) (rm 1 rfl (Bc 10 rfl (fun hc => ?_) (fun hc => ?_))))
 ·replace h := Bt hc h
  clear hc
  refine son rfl rfl rfl (sv rfl (Aa U8 rfl) (son rfl rfl rfl (sv rfl (Ae ti4 rfl (.lp _ _ _ rfl) rfl) (rm 1 rfl (Bc 13 rfl (fun hc => ?_) (fun hc => ?_))))))
  ·replace h := Bt hc h
   clear hc
   refine rm 8 rfl (Al (Bo ?_))
   obtain rfl := SJ h
   exact dnT rfl rfl rfl rfl
  ·replace h := Bu hc h
   clear hc
   refine rm 1 rfl (son rfl rfl rfl (sv rfl (Aa Ng rfl) (son rfl rfl rfl (sv rfl (Ae E6 rfl (.lp _ _ _ rfl) rfl) (son rfl rfl rfl ?_)))))
   obtain ⟨v2, hv2, h⟩ := Ag h
   refine Bn rfl Akj (Ad rfl (Ad rfl Aj)) (A4 rfl) (I3 hv2) (son rfl rfl rfl (sv rfl (Bi rfl rfl) (rm 3 rfl (Al (Bo ?_)))))
   obtain rfl := SJ h
   exact dnT rfl rfl rfl rfl
 ·replace h := Bu hc h
  clear hc
  refine rm 3 rfl (Bh rfl rfl rfl (Bh rfl rfl rfl (Bh rfl rfl rfl (Bh rfl rfl rfl (Bh rfl rfl rfl (rm 3 rfl (Al (Bo ?_))))))))
  obtain rfl := SJ h
  exact dnT rfl rfl rfl rfl
def Od (b1 : Unit) : Option Bool :=
 some false
def J9 (s2 : Int) (b3 : Unit) : Option (LR (Int) (Unit) (Bool)) :=
 some (.cont (wI (s2 + 1)))
def Ix (a0 : Ca) (a1 : List Af) (s2 : Int) (s4 : Int) : Option (LR (Int) (Unit) (Bool)) :=
 if (decide (s4 < (a1.length : Int))) then ((idx a0.Reads s2).bind fun u5 => (idx a1 s4).bind fun u6 => (Lq u5 u6.Key).bind fun v7 => if v7 then (some (.ret true)) else (some (.cont (wI (s4 + 1))))) else (some (.brk ()))
def Iy (a0 : Ca) (a1 : List Af) (s2 : Int) : Option (LR (Int) (Unit) (Bool)) :=
 if (decide (s2 < (a0.Reads.length : Int))) then ((Fc (Ix a0 a1 s2) fuel 0).bind fun x => match x with | .inl r => some (.ret r) | .inr e8 => J9 s2 e8) else (some (.brk ()))
def E3 (a0 : Ca) (a1 : List Af) : Option Bool :=
 (Fc (Iy a0 a1) fuel 0).bind fun x => match x with | .inl r => some r | .inr e9 => Od e9
theorem Jt {a0 : Ca} {a1 : List Af} {r : Bool} (h : E3 a0 a1 = some r) : Bz Tryz.prog 72 [.agg (EL.el a0), .one (.sl a1.length (a1.flatMap Ac))] (· = .s (.one (.b r))) := by
 unfold E3 at h
 refine A8 Tryz.func72 rfl (nt := 31) rfl (Nbl rfl) ?_
 intro w0 S0
 refine csr (Kp rfl rfl (rm 1 rfl (Al (Bp (csr (rm 1 rfl (Al (C4 (Unit) (fun b1 => []) (fun b1 => [.box (EL.el a0)]) (fun b1 => Od b1 = some r) (fun _ _ => Az rfl) (fun _ _ => Ak rfl) (fun _ _ => Nbl rfl) (fun b1 h => ?_) ?_))))))))
 ·unfold Od at h
  refine csr (rm 1 rfl (Al (Bo ?_)))
  obtain rfl := SJ h
  exact dnT rfl rfl rfl rfl
 ·skip
  refine Bf ?_
  obtain ⟨x2, hx2, ho2⟩ := Ag h
  refine Bs (G := Nat × (Int)) (fun g => [(1, .s (.one (.sl a1.length (a1.flatMap Ac)))), (2, .s (.one (.lp 0 0))), (5, .s (.one (Ii6 g.2)))]) (fun g => [.box (EL.el a0)]) (fun g => Fc (Iy a0 a1) g.1 g.2 = some x2) (fun g => g.1) (fuel, 0) hx2 ⟨rfl, rfl, rfl, trivial⟩ [] rfl (fun _ _ => Az rfl) (fun _ _ => Ak rfl) (fun _ _ => Nbl rfl) ?_
  clear hx2 h
  rintro ⟨n2, s2⟩ h
  obtain ⟨n2, y2, rfl, h, hk2⟩ := Dc h
  unfold Iy at h
  refine Bp (csr (rm 1 rfl (fl U5 Ahc rfl rfl rfl rfl rfl rfl (sv rfl (An Aip rfl) (sv rfl (Bi rfl rfl) (Al (ccI h rfl (fun h => ?_) (fun h => ?_))))))))
  ·refine Be (Ab (Bp (Bf (csr (rm 1 rfl (Al (Ac1 (Unit) (fun b3 => [(1, .s (.one (.sl a1.length (a1.flatMap Ac)))), (2, .s (.one (.lp 0 0))), (5, .s (.one (Ii6 s2)))]) (fun b3 => [.box (EL.el a0)]) (fun b3 => J9 s2 b3 = some y2) (fun _ _ => Az rfl) (fun _ _ => Ak rfl) (fun _ _ => Nbl rfl) (fun b3 h => ?_) ?_)))))))
   ·unfold J9 at h
    refine Ax (rm 1 rfl (sv rfl (Bj rfl rfl) (rm 1 rfl (Al ?_))))
    obtain rfl := SJ h
    exact ⟨(n2, (wI (s2 + 1))), _, hk2, ⟨rfl, rfl, rfl, trivial⟩, rfl, Nat.lt_succ_self _⟩
   ·skip
    refine Bf ?_
    obtain ⟨x4, hx4, ho4⟩ := Ag h
    refine Bs (G := Nat × (Int)) (fun g => [(1, .s (.one (.sl a1.length (a1.flatMap Ac)))), (2, .s (.one (.lp 0 0))), (5, .s (.one (Ii6 s2))), (6, .s (.one (Ii6 g.2)))]) (fun g => [.box (EL.el a0)]) (fun g => Fc (Ix a0 a1 s2) g.1 g.2 = some x4) (fun g => g.1) (fuel, 0) hx4 ⟨rfl, rfl, rfl, rfl, trivial⟩ [] rfl (fun _ _ => Az rfl) (fun _ _ => Ak rfl) (fun _ _ => Nbl rfl) ?_
    clear hx4 h
    rintro ⟨n4, s4⟩ h
    obtain ⟨n4, y4, rfl, h, hk4⟩ := Dc h
    unfold Ix at h
    refine Bp (csr (rm 2 rfl (sv rfl (An Qr rfl) (sv rfl (Bi rfl rfl) (Al (ccI h rfl (fun h => ?_) (fun h => ?_)))))))
    ·refine Be (Ab (Bp (Bf (Bp ?_))))
     refine Qc mixed (by kernel_rfl) ?_
     refine dv rfl (Aa U5 rfl) (dv rfl (Ae Ahc rfl (.lp _ _ _ rfl) rfl) (dv rfl (A3 rfl) ?_))
     obtain ⟨u5, hu5, h⟩ := Ag h
     refine dv rfl (Bw (f := A0) Aip (fun _ => rfl) rfl rfl rfl rfl hu5) ?_
     refine dv rfl (Bq (ys := [.sl u5.Lo.length (u5.Lo.flatMap eU8), .sl u5.Hi.length (u5.Hi.flatMap eU8), .b u5.Open]) Vd rfl (.cp _) rfl rfl) (dv rfl (A3 rfl) (dv rfl (A3 rfl) ?_))
     obtain ⟨u6, hu6, h⟩ := Ag h
     refine dv rfl (Bw (f := Ac) Qr (fun _ => rfl) rfl rfl rfl rfl hu6) ?_
     refine dv rfl (A6 J3 rfl) (dv rfl (Ae E6 rfl (.cp _) rfl) ?_)
     obtain ⟨v7, hv7, h⟩ := Ag h
     refine dd rfl (C1 Aqa (Ad rfl (Ad rfl Aj)) rfl (P9 hv7)) (Py (Ab (ccI h rfl (fun h => ?_) (fun h => ?_))))
     ·refine csr (rm 1 rfl (Al (Bo (Ao (Ah (Ah (Ao (Ao (Ah (Ah (Ao (Ah ?_))))))))))))
      obtain rfl := SJ h
      obtain rfl : Sum.inl _ = x4 := hk4
      replace ho4 : some _ = some _ := ho4
      obtain rfl := Option.some.inj ho4
      obtain rfl : Sum.inl _ = x2 := hk2
      replace ho2 : some _ = some _ := ho2
      obtain rfl := Option.some.inj ho2
      exact dnT rfl rfl rfl rfl
     ·refine Be (Am (Ab (Ax (rm 1 rfl (sv rfl (Bj rfl rfl) (rm 1 rfl (Al ?_)))))))
      obtain rfl := SJ h
      exact ⟨(n4, (wI (s4 + 1))), _, hk4, ⟨rfl, rfl, rfl, rfl, trivial⟩, rfl, Nat.lt_succ_self _⟩
    ·refine Dp (Aq (Aq (Bd (Am (Ab ?_)))))
     obtain rfl := SJ h
     obtain rfl : _ = x4 := hk4
     exact ⟨(), _, ho4, ⟨rfl, rfl, rfl, trivial⟩, rfl⟩
  ·refine Dp (Aq (Aq (Bd (Ab ?_))))
   obtain rfl := SJ h
   obtain rfl : _ = x2 := hk2
   exact ⟨(), _, ho2, trivial, rfl⟩
def Kx (a0 : Ca) (a1 : Ca) : Option Bool :=
 if (decide (a0.Token = a1.Token)) then (some false) else ((L0 a0.Writes a1.Writes).bind fun v1 => if v1 then (if (decide (a0.Ts < a1.Ts)) then (some true) else ((E3 a1 a0.Writes).bind fun v2 => if v2 then (if (decide (a0.Ts ≤ a1.Snap)) then (some true) else ((E3 a0 a1.Writes).bind fun v3 => if v3 then (some (decide (a0.Snap < a1.Ts))) else (some false))) else ((E3 a0 a1.Writes).bind fun v4 => if v4 then (some (decide (a0.Snap < a1.Ts))) else (some false)))) else ((E3 a1 a0.Writes).bind fun v5 => if v5 then (if (decide (a0.Ts ≤ a1.Snap)) then (some true) else ((E3 a0 a1.Writes).bind fun v6 => if v6 then (some (decide (a0.Snap < a1.Ts))) else (some false))) else ((E3 a0 a1.Writes).bind fun v7 => if v7 then (some (decide (a0.Snap < a1.Ts))) else (some false))))
theorem Ws {a0 : Ca} {a1 : Ca} {r : Bool} (h : Kx a0 a1 = some r) : Bz Tryz.prog 37 [.agg (EL.el a0), .agg (EL.el a1)] (· = .s (.one (.b r))) := by
 unfold Kx at h
 refine A8 Tryz.func37 rfl (nt := 48) rfl (Nbl rfl) ?_
 intro w0 S0
 refine csr (Kp rfl rfl (Kp rfl rfl (rm 1 rfl (Al (Bp (csr (fl Aaq ti3 rfl rfl rfl rfl rfl rfl (fl Aaq ti3 rfl rfl rfl rfl rfl rfl (sv rfl (Bg rfl rfl) (Al (ccI h rfl (fun h => ?_) (fun h => ?_))))))))))))
 ·refine csr (rm 1 rfl (Al (Bo (Ah ?_))))
  obtain rfl := SJ h
  exact dnT rfl rfl rfl rfl
 ·refine Be (Ab (csr (fl Qk Ry rfl rfl rfl rfl rfl rfl (sv rfl (Aa Qk rfl) (sv rfl (Ae Ry rfl (.lp _ _ _ rfl) rfl) ?_)))))
  obtain ⟨v1, hv1, h⟩ := Ag h
  refine Bn rfl Ath (Ad rfl (Ad rfl Aj)) (A4 rfl) (Xd hv1) (rm 1 rfl (Bc 15 rfl (fun hc => ?_) (fun hc => ?_)))
  ·replace h := Bt hc h
   clear hc
   refine son rfl rfl rfl (sv rfl (Aa Qp rfl) (son rfl rfl rfl (sv rfl (Ae ti3 rfl (.lp _ _ _ rfl) rfl) (son rfl rfl rfl (sv rfl (Aa Qp rfl) (son rfl rfl rfl (sv rfl (Ae ti3 rfl (.lp _ _ _ rfl) rfl) (son rfl rfl rfl (sv rfl (Bi rfl rfl) (rm 2 rfl (Bc 22 rfl (fun hc => ?_) (fun hc => ?_))))))))))))
   ·replace h := Bt hc h
    clear hc
    refine rm 5 rfl (Bh rfl rfl rfl (Bh rfl rfl rfl (Bh rfl rfl rfl (Bh rfl rfl rfl (Bh rfl rfl rfl (rm 8 rfl (Bh rfl rfl rfl (Bh rfl rfl rfl (Bh rfl rfl rfl (Bh rfl rfl rfl (Bh rfl rfl rfl (rm 3 rfl (Al (Bo ?_))))))))))))))
    obtain rfl := SJ h
    exact dnT rfl rfl rfl rfl
   ·replace h := Bu hc h
    clear hc
    refine son rfl rfl rfl (sv rfl (Ap Aej rfl (.lp _ _ _ rfl) (Nbl rfl)) (son rfl rfl rfl (sv rfl (Aa Qk rfl) (son rfl rfl rfl (sv rfl (Ae Ry rfl (.lp _ _ _ rfl) rfl) (son rfl rfl rfl ?_))))))
    obtain ⟨v2, hv2, h⟩ := Ag h
    refine Bn rfl Al9 (Ad rfl (Ad rfl Aj)) (A4 rfl) (Jt hv2) (rm 1 rfl (Bc 27 rfl (fun hc => ?_) (fun hc => ?_)))
    ·replace h := Bt hc h
     clear hc
     refine son rfl rfl rfl (sv rfl (Aa Qp rfl) (son rfl rfl rfl (sv rfl (Ae ti3 rfl (.lp _ _ _ rfl) rfl) (son rfl rfl rfl (sv rfl (Aa Tt rfl) (son rfl rfl rfl (sv rfl (Ae ti3 rfl (.lp _ _ _ rfl) rfl) (son rfl rfl rfl (sv rfl (Eb rfl rfl) (rm 3 rfl (Bc 35 rfl (fun hc => ?_) (fun hc => ?_))))))))))))
     ·replace h := Bt hc h
      clear hc
      refine rm 5 rfl (Bh rfl rfl rfl (Bh rfl rfl rfl (Bh rfl rfl rfl (Bh rfl rfl rfl (Bh rfl rfl rfl (rm 3 rfl (Al (Bo ?_))))))))
      obtain rfl := SJ h
      exact dnT rfl rfl rfl rfl
     ·replace h := Bu hc h
      clear hc
      refine son rfl rfl rfl (sv rfl (Ap Aej rfl (.lp _ _ _ rfl) (Nbl rfl)) (son rfl rfl rfl (sv rfl (Aa Qk rfl) (son rfl rfl rfl (sv rfl (Ae Ry rfl (.lp _ _ _ rfl) rfl) (son rfl rfl rfl ?_))))))
      obtain ⟨v3, hv3, h⟩ := Ag h
      refine Bn rfl Al9 (Ad rfl (Ad rfl Aj)) (A4 rfl) (Jt hv3) (rm 1 rfl (Bc 40 rfl (fun hc => ?_) (fun hc => ?_)))
      ·replace h := Bt hc h
       clear hc
       refine son rfl rfl rfl (sv rfl (Aa Qp rfl) (son rfl rfl rfl (sv rfl (Ae ti3 rfl (.lp _ _ _ rfl) rfl) (son rfl rfl rfl (sv rfl (Aa Tt rfl) (son rfl rfl rfl (sv rfl (Ae ti3 rfl (.lp _ _ _ rfl) rfl) (son rfl rfl rfl (sv rfl (B8 rfl rfl) (rm 3 rfl (Al (Bo ?_))))))))))))
       obtain rfl := SJ h
       exact dnT rfl rfl rfl rfl
      ·replace h := Bu hc h
       clear hc
       refine rm 8 rfl (Al (Bo ?_))
       obtain rfl := SJ h
       exact dnT rfl rfl rfl rfl
    ·replace h := Bu hc h
     clear hc
     refine rm 8 rfl (son rfl rfl rfl (sv rfl (Ap Aej rfl (.lp _ _ _ rfl) (Nbl rfl)) (son rfl rfl rfl (sv rfl (Aa Qk rfl) (son rfl rfl rfl (sv rfl (Ae Ry rfl (.lp _ _ _ rfl) rfl) (son rfl rfl rfl ?_)))))))
     obtain ⟨v4, hv4, h⟩ := Ag h
     refine Bn rfl Al9 (Ad rfl (Ad rfl Aj)) (A4 rfl) (Jt hv4) (rm 1 rfl (Bc 40 rfl (fun hc => ?_) (fun hc => ?_)))
     ·replace h := Bt hc h
      clear hc
      refine son rfl rfl rfl (sv rfl (Aa Qp rfl) (son rfl rfl rfl (sv rfl (Ae ti3 rfl (.lp _ _ _ rfl) rfl) (son rfl rfl rfl (sv rfl (Aa Tt rfl) (son rfl rfl rfl (sv rfl (Ae ti3 rfl (.lp _ _ _ rfl) rfl) (son rfl rfl rfl (sv rfl (B8 rfl rfl) (rm 3 rfl (Al (Bo ?_))))))))))))
      obtain rfl := SJ h
      exact dnT rfl rfl rfl rfl
     ·replace h := Bu hc h
      clear hc
      refine rm 8 rfl (Al (Bo ?_))
      obtain rfl := SJ h
      exact dnT rfl rfl rfl rfl
  ·replace h := Bu hc h
   clear hc
   refine rm 7 rfl (son rfl rfl rfl (sv rfl (Ap Aej rfl (.lp _ _ _ rfl) (Nbl rfl)) (son rfl rfl rfl (sv rfl (Aa Qk rfl) (son rfl rfl rfl (sv rfl (Ae Ry rfl (.lp _ _ _ rfl) rfl) (son rfl rfl rfl ?_)))))))
   obtain ⟨v5, hv5, h⟩ := Ag h
   refine Bn rfl Al9 (Ad rfl (Ad rfl Aj)) (A4 rfl) (Jt hv5) (rm 1 rfl (Bc 27 rfl (fun hc => ?_) (fun hc => ?_)))
   ·replace h := Bt hc h
    clear hc
    refine son rfl rfl rfl (sv rfl (Aa Qp rfl) (son rfl rfl rfl (sv rfl (Ae ti3 rfl (.lp _ _ _ rfl) rfl) (son rfl rfl rfl (sv rfl (Aa Tt rfl) (son rfl rfl rfl (sv rfl (Ae ti3 rfl (.lp _ _ _ rfl) rfl) (son rfl rfl rfl (sv rfl (Eb rfl rfl) (rm 3 rfl (Bc 35 rfl (fun hc => ?_) (fun hc => ?_))))))))))))
    ·replace h := Bt hc h
     clear hc
     refine rm 5 rfl (Bh rfl rfl rfl (Bh rfl rfl rfl (Bh rfl rfl rfl (Bh rfl rfl rfl (Bh rfl rfl rfl (rm 3 rfl (Al (Bo ?_))))))))
     obtain rfl := SJ h
     exact dnT rfl rfl rfl rfl
    ·replace h := Bu hc h
     clear hc
     refine son rfl rfl rfl (sv rfl (Ap Aej rfl (.lp _ _ _ rfl) (Nbl rfl)) (son rfl rfl rfl (sv rfl (Aa Qk rfl) (son rfl rfl rfl (sv rfl (Ae Ry rfl (.lp _ _ _ rfl) rfl) (son rfl rfl rfl ?_))))))
     obtain ⟨v6, hv6, h⟩ := Ag h
     refine Bn rfl Al9 (Ad rfl (Ad rfl Aj)) (A4 rfl) (Jt hv6) (rm 1 rfl (Bc 40 rfl (fun hc => ?_) (fun hc => ?_)))
     ·replace h := Bt hc h
      clear hc
      refine son rfl rfl rfl (sv rfl (Aa Qp rfl) (son rfl rfl rfl (sv rfl (Ae ti3 rfl (.lp _ _ _ rfl) rfl) (son rfl rfl rfl (sv rfl (Aa Tt rfl) (son rfl rfl rfl (sv rfl (Ae ti3 rfl (.lp _ _ _ rfl) rfl) (son rfl rfl rfl (sv rfl (B8 rfl rfl) (rm 3 rfl (Al (Bo ?_))))))))))))
      obtain rfl := SJ h
      exact dnT rfl rfl rfl rfl
     ·replace h := Bu hc h
      clear hc
      refine rm 8 rfl (Al (Bo ?_))
      obtain rfl := SJ h
      exact dnT rfl rfl rfl rfl
   ·replace h := Bu hc h
    clear hc
    refine rm 8 rfl (son rfl rfl rfl (sv rfl (Ap Aej rfl (.lp _ _ _ rfl) (Nbl rfl)) (son rfl rfl rfl (sv rfl (Aa Qk rfl) (son rfl rfl rfl (sv rfl (Ae Ry rfl (.lp _ _ _ rfl) rfl) (son rfl rfl rfl ?_)))))))
    obtain ⟨v7, hv7, h⟩ := Ag h
    refine Bn rfl Al9 (Ad rfl (Ad rfl Aj)) (A4 rfl) (Jt hv7) (rm 1 rfl (Bc 40 rfl (fun hc => ?_) (fun hc => ?_)))
    ·replace h := Bt hc h
     clear hc
     refine son rfl rfl rfl (sv rfl (Aa Qp rfl) (son rfl rfl rfl (sv rfl (Ae ti3 rfl (.lp _ _ _ rfl) rfl) (son rfl rfl rfl (sv rfl (Aa Tt rfl) (son rfl rfl rfl (sv rfl (Ae ti3 rfl (.lp _ _ _ rfl) rfl) (son rfl rfl rfl (sv rfl (B8 rfl rfl) (rm 3 rfl (Al (Bo ?_))))))))))))
     obtain rfl := SJ h
     exact dnT rfl rfl rfl rfl
    ·replace h := Bu hc h
     clear hc
     refine rm 8 rfl (Al (Bo ?_))
     obtain rfl := SJ h
     exact dnT rfl rfl rfl rfl
def Nh (b3 : (List Bool) × (List Int)) : Option ((List Int) × Bool) :=
 some (b3.2, true)
def Lj (s4 : (List Bool) × (List Int)) (b5 : Int) : Option (LR ((List Bool) × (List Int)) ((List Bool) × (List Int)) ((List Int) × Bool)) :=
 if (decide (b5 < 0)) then (some (.ret (s4.2, false))) else ((idx s4.1 b5).bind fun u6 => if (s4.2.length + [b5].length) * 8 ≤ 140737488355328 then (some (.cont ((s4.1.set b5.toNat true), (s4.2 ++ [b5])))) else none)
def Kv (s8 : Int × Int) (b11 : Bool) : Option (LB (Int × Int) (Int)) :=
 if b11 then (some (.cont (s8.2, (wI (s8.2 + 1))))) else (some (.cont (s8.1, (wI (s8.2 + 1)))))
def Gi (a0 : List Ca) (s4 : (List Bool) × (List Int)) (s8 : Int × Int) (s12 : Bool × Int) : Option (LB (Bool × Int) (Bool)) :=
 if (decide (s12.2 < (a0.length : Int))) then (if s12.1 then ((idx s4.1 s12.2).bind fun u13 => if u13 then (some (.cont (true, (wI (s12.2 + 1))))) else ((idx a0 s12.2).bind fun u14 => (idx a0 s8.2).bind fun u15 => (Kx u14 u15).bind fun v16 => some (.cont ((!v16), (wI (s12.2 + 1)))))) else (some (.cont (false, (wI (s12.2 + 1)))))) else (some (.brk s12.1))
def Ll (a0 : List Ca) (s4 : (List Bool) × (List Int)) (s8 : Int × Int) (b9 : Unit) : Option (LB (Int × Int) (Int)) :=
 (idx s4.1 s8.2).bind fun u10 => (Cw (Gi a0 s4 s8) fuel ((!u10), 0)).bind fun e17 => Kv s8 e17
def Fx (a0 : List Ca) (s4 : (List Bool) × (List Int)) (s8 : Int × Int) : Option (LB (Int × Int) (Int)) :=
 if (decide (s8.2 < (a0.length : Int))) then (if (decide (s8.1 < 0)) then (Ll a0 s4 s8 ()) else (some (.brk s8.1))) else (some (.brk s8.1))
def Jc (a0 : List Ca) (s4 : (List Bool) × (List Int)) : Option (LR ((List Bool) × (List Int)) ((List Bool) × (List Int)) ((List Int) × Bool)) :=
 if (decide ((s4.2.length : Int) < (a0.length : Int))) then ((Cw (Fx a0 s4) fuel ((-1), 0)).bind fun e18 => Lj s4 e18) else (some (.brk (s4.1, s4.2)))
def Ja (a0 : List Ca) : Option ((List Int) × Bool) :=
 (Ly a0).bind fun v1 => if (!v1) then (some (([] : List Int), false)) else (if (0 : Int) ≤ (a0.length : Int) ∧ (a0.length : Int) ≤ (a0.length : Int) ∧ ((1 : Nat) : Int) * (a0.length : Int) ≤ 281474976710656 then ((Fc (Jc a0) fuel ((List.replicate (a0.length : Int).toNat false), ([] : List Int))).bind fun x => match x with | .inl r => some r | .inr e19 => Nh e19) else none)
theorem Wl {a0 : List Ca} {r : (List Int) × Bool} (h : Ja a0 = some r) : Bz Tryz.prog 19 [.one (.sl a0.length (a0.flatMap B4))] (· = .tup [.one (.sl r.1.length (r.1.flatMap eI)), .one (.b r.2)]) := by
 unfold Ja at h
 refine A8 Tryz.func19 rfl (nt := 74) rfl (Nbl rfl) ?_
 intro w0 S0
 refine csr (rm 2 rfl (Al (Bp (csr (sv rfl (A3 rfl) ?_)))))
 obtain ⟨v1, hv1, h⟩ := Ag h
 refine Bn rfl Asi (Ad rfl Aj) (A4 rfl) (Xn hv1) (sv rfl (B1 rfl) (Al (ccI h rfl (fun h => ?_) (fun h => ?_))))
 ·refine csr (rm 2 rfl (Al (Bo (Ah ?_))))
  obtain rfl := SJ h
  refine ⟨Or.inr rfl, _, _, _, (Ai (B9.tmp _ _ rfl) (Ai (B9.tmp _ _ rfl) Au)), (Sj rfl), ?_⟩
  rfl
 ·refine Be (Ab (csr (rm 1 rfl (sv rfl (An Zg rfl) ?_))))
  obtain ⟨hm2, h⟩ := Cl h
  refine smk (f := eB) (z := false) rfl Tryz.underlying104 ei4 (fun _ => rfl) rfl rfl rfl hm2 (by decide) ?_
  refine rm 1 rfl (Al (csr (rm 1 rfl (Al (Bp ?_)))))
  refine H6 3 1 5 (by decide) rfl ?_
  refine C4 ((List Bool) × (List Int)) (fun b3 => [(5, .s (.one (.ls 1 b3.2.length)))]) (fun b3 => [.arr 4 1 0 (b3.1.flatMap eB), .arr 3 1 0 (b3.2.flatMap eI)]) (fun b3 => Nh b3 = some r) (fun _ _ => Az rfl) (fun _ _ => Ak rfl) (fun _ _ => Nbl rfl) (fun b3 h => ?_) ?_
  ·unfold Nh at h
   refine csr (rm 3 rfl (Al (Bo ?_)))
   obtain rfl := SJ h
   refine ⟨Or.inr rfl, _, _, _, (Ai (B9.tmp _ _ rfl) (Ai (B9.tmp _ _ rfl) Au)), (by (repeat' first | exact Ga.nil _ | apply Ga.cons | apply F5.one | apply F5.agg | exact Ci.nil | exact Ci.ls _ _ _ _ _ _ rfl (Ay (f := eB) (fun _ => rfl) _).symm | exact Ci.ls _ _ _ _ _ _ rfl (Ay (f := eI) (fun _ => rfl) _).symm | exact Ci.id _ rfl | exact Cg.nil _ | apply Cg.cons)), ?_⟩
   rfl
  ·skip
   refine Bf ?_
   obtain ⟨x4, hx4, ho4⟩ := Ag h
   refine Bs (G := Nat × ((List Bool) × (List Int))) (fun g => [(0, .s (.one (.sl a0.length (a0.flatMap B4)))), (4, .s (.one (.ls 0 g.2.1.length))), (5, .s (.one (.ls 1 g.2.2.length)))]) (fun g => [.arr 4 1 0 (g.2.1.flatMap eB), .arr 3 1 0 (g.2.2.flatMap eI)]) (fun g => Fc (Jc a0) g.1 g.2 = some x4) (fun g => g.1) (fuel, ((List.replicate (a0.length : Int).toNat false), ([] : List Int))) hx4 ⟨rfl, rfl, rfl, trivial⟩ [] rfl (fun _ _ => Az rfl) (fun _ _ => Ak rfl) (fun _ _ => Nbl rfl) ?_
   clear hx4 h
   rintro ⟨n4, s4⟩ h
   obtain ⟨n4, y4, rfl, h, hk4⟩ := Dc h
   unfold Jc at h
   refine Bp (csr (rm 1 rfl (sv rfl (Lw Ajd rfl rfl (Ay (f := eI) (fun _ => rfl) _).symm) ?_)))
   refine rm 1 rfl (sv rfl (An Zg rfl) (sv rfl (Bi rfl rfl) (Al (ccI h rfl (fun h => ?_) (fun h => ?_)))))
   ·refine Be (Ab (Bf (csr (rm 1 rfl (Al (Bp (csr (rm 1 rfl (Al (C4 (Int) (fun b5 => [(0, .s (.one (.sl a0.length (a0.flatMap B4)))), (4, .s (.one (.ls 0 s4.1.length))), (5, .s (.one (.ls 1 s4.2.length))), (6, .s (.one (Ii6 b5)))]) (fun b5 => [.arr 4 1 0 (s4.1.flatMap eB), .arr 3 1 0 (s4.2.flatMap eI)]) (fun b5 => Lj s4 b5 = some y4) (fun _ _ => Az rfl) (fun _ _ => Ak rfl) (fun _ _ => Nbl rfl) (fun b5 h => ?_) ?_))))))))))
    ·unfold Lj at h
     refine Bp (csr (rm 1 rfl (sv rfl (Bi rfl rfl) (Al (ccI h rfl (fun h => ?_) (fun h => ?_))))))
     ·refine csr (rm 3 rfl (Al (Bo (Ah (Ao (Ah (Ao (Ah ?_))))))))
      obtain rfl := SJ h
      obtain rfl : Sum.inl _ = x4 := hk4
      replace ho4 : some _ = some _ := ho4
      obtain rfl := Option.some.inj ho4
      refine ⟨Or.inr rfl, _, _, _, (Ai (B9.tmp _ _ rfl) (Ai (B9.tmp _ _ rfl) Au)), (by (repeat' first | exact Ga.nil _ | apply Ga.cons | apply F5.one | apply F5.agg | exact Ci.nil | exact Ci.ls _ _ _ _ _ _ rfl (Ay (f := eB) (fun _ => rfl) _).symm | exact Ci.ls _ _ _ _ _ _ rfl (Ay (f := eI) (fun _ => rfl) _).symm | exact Ci.id _ rfl | exact Cg.nil _ | apply Cg.cons)), ?_⟩
      rfl
     ·refine Be (Ab (csr (rm 1 rfl (sv rfl (A3 rfl) ?_))))
      obtain ⟨u6, hu6, h⟩ := Ag h
      refine sv rfl (V6 (f := eB) Aks (fun _ => rfl) rfl rfl rfl rfl rfl hu6) ?_
      refine Al5 (f := eB) (u' := true) (sz := 1) 0 sz4 (fun _ => rfl) rfl rfl rfl rfl rfl rfl rfl (List.all_eq_true.1 rfl) (Sf hu6).2 (Nbl rfl) rfl ?_
      refine Abg 4 (y := .s (.one (.ls 0 s4.1.length))) (.s (.one (.ls 0 (s4.1.set b5.toNat true).length))) rfl (congrArg (fun n => AV.s (.one (.ls 0 n))) List.length_set.symm) ?_
      refine Abg 66 (y := .s (.one (.ls 0 s4.1.length))) (.s (.one (.ls 0 (s4.1.set b5.toNat true).length))) rfl (congrArg (fun n => AV.s (.one (.ls 0 n))) List.length_set.symm) ?_
      refine Al (Ax (rm 1 rfl (sv rfl (A3 rfl) ?_)))
      refine Fw rfl Tryz.underlying50 ei3 rfl rfl (List.all_eq_true.1 rfl) (by decide) ?_
      refine Cc [.arr 4 1 0 ((s4.1.set b5.toNat true).flatMap eB), .arr 3 1 0 (s4.2.flatMap eI), .arr 3 1 0 ([b5].flatMap eI)] rfl ?_
      obtain ⟨hb7, h⟩ := Cl h
      refine Wx (f := eI) (xs := s4.2) (us := [b5]) rfl Tryz.underlying50 ei3 Aq8 (fun _ => rfl) rfl rfl (.one _ _ _ _ (.ls _ _ _ _ _ _ rfl (Ay (f := eI) (fun _ => rfl) [b5]).symm)) rfl rfl rfl (.sl _ _ _ (Ay (f := eI) (fun _ => rfl) _)) rfl rfl hb7 (by decide) ?_
      refine rm 1 rfl (Hy (Am (Ab ?_)))
      obtain rfl := SJ h
      exact ⟨(n4, ((s4.1.set b5.toNat true), (s4.2 ++ [b5]))), _, hk4, ⟨rfl, rfl, rfl, trivial⟩, rfl, Nat.lt_succ_self _⟩
    ·skip
     refine Bf ?_
     obtain ⟨x8, hx8, ho8⟩ := Ag h
     refine Bs (G := Nat × (Int × Int)) (fun g => [(0, .s (.one (.sl a0.length (a0.flatMap B4)))), (4, .s (.one (.ls 0 s4.1.length))), (5, .s (.one (.ls 1 s4.2.length))), (6, .s (.one (Ii6 g.2.1))), (7, .s (.one (Ii6 g.2.2)))]) (fun g => [.arr 4 1 0 (s4.1.flatMap eB), .arr 3 1 0 (s4.2.flatMap eI)]) (fun g => Cw (Fx a0 s4) g.1 g.2 = some x8) (fun g => g.1) (fuel, ((-1), 0)) hx8 ⟨rfl, rfl, rfl, rfl, rfl, trivial⟩ [] rfl (fun _ _ => Az rfl) (fun _ _ => Ak rfl) (fun _ _ => Nbl rfl) ?_
     clear hx8 h
     rintro ⟨n8, s8⟩ h
     obtain ⟨n8, y8, rfl, h, hk8⟩ := Dw h
     unfold Fx at h
     refine Bp (Bp (I0 (Unit) (fun b9 => [(0, .s (.one (.sl a0.length (a0.flatMap B4)))), (4, .s (.one (.ls 0 s4.1.length))), (5, .s (.one (.ls 1 s4.2.length))), (6, .s (.one (Ii6 s8.1))), (7, .s (.one (Ii6 s8.2)))]) (fun b9 => [.arr 4 1 0 (s4.1.flatMap eB), .arr 3 1 0 (s4.2.flatMap eI)]) (fun b9 => Ll a0 s4 s8 b9 = some y8) (fun _ _ => Az rfl) (fun _ _ => Ak rfl) (fun _ _ => Nbl rfl) (fun b9 h => ?_) ?_))
     ·unfold Ll at h
      refine Bp (Bf (csr (rm 1 rfl (sv rfl (A3 rfl) ?_))))
      obtain ⟨u10, hu10, h⟩ := Ag h
      refine sv rfl (V6 (f := eB) Aks (fun _ => rfl) rfl rfl rfl rfl rfl hu10) ?_
      refine sv rfl (Adj (f := eB) 0 ti4 (fun _ => rfl) rfl rfl rfl rfl (Sf hu10).2 rfl) ?_
      refine sv rfl (B1 rfl) (rm 1 rfl (Al (Bp (csr (rm 1 rfl (Al (C4 (Bool) (fun b11 => [(0, .s (.one (.sl a0.length (a0.flatMap B4)))), (4, .s (.one (.ls 0 s4.1.length))), (5, .s (.one (.ls 1 s4.2.length))), (6, .s (.one (Ii6 s8.1))), (7, .s (.one (Ii6 s8.2))), (8, .s (.one (.b b11)))]) (fun b11 => [.arr 4 1 0 (s4.1.flatMap eB), .arr 3 1 0 (s4.2.flatMap eI)]) (fun b11 => Kv s8 b11 = some y8) (fun _ _ => Az rfl) (fun _ _ => Ak rfl) (fun _ _ => Nbl rfl) (fun b11 h => ?_) ?_)))))))
      ·unfold Kv at h
       refine csr (rm 1 rfl (Al (ccI h rfl (fun h => ?_) (fun h => ?_))))
       ·refine Ax (rm 2 rfl (Hy (Am (Ab (Ax (rm 1 rfl (sv rfl (Bj rfl rfl) (rm 1 rfl (Al ?_)))))))))
        obtain rfl := SJ h
        exact ⟨(n8, (s8.2, (wI (s8.2 + 1)))), _, hk8, ⟨rfl, rfl, rfl, rfl, rfl, trivial⟩, rfl, Nat.lt_succ_self _⟩
       ·refine Be (Am (Ab (Ax (rm 1 rfl (sv rfl (Bj rfl rfl) (rm 1 rfl (Al ?_)))))))
        obtain rfl := SJ h
        exact ⟨(n8, (s8.1, (wI (s8.2 + 1)))), _, hk8, ⟨rfl, rfl, rfl, rfl, rfl, trivial⟩, rfl, Nat.lt_succ_self _⟩
      ·skip
       refine Bf ?_
       obtain ⟨x12, hx12, ho12⟩ := Ag h
       refine Bs (G := Nat × (Bool × Int)) (fun g => [(0, .s (.one (.sl a0.length (a0.flatMap B4)))), (4, .s (.one (.ls 0 s4.1.length))), (5, .s (.one (.ls 1 s4.2.length))), (6, .s (.one (Ii6 s8.1))), (7, .s (.one (Ii6 s8.2))), (8, .s (.one (.b g.2.1))), (9, .s (.one (Ii6 g.2.2)))]) (fun g => [.arr 4 1 0 (s4.1.flatMap eB), .arr 3 1 0 (s4.2.flatMap eI)]) (fun g => Cw (Gi a0 s4 s8) g.1 g.2 = some x12) (fun g => g.1) (fuel, ((!u10), 0)) hx12 ⟨rfl, rfl, rfl, rfl, rfl, rfl, rfl, trivial⟩ [] rfl (fun _ _ => Az rfl) (fun _ _ => Ak rfl) (fun _ _ => Nbl rfl) ?_
       clear hx12 h
       rintro ⟨n12, s12⟩ h
       obtain ⟨n12, y12, rfl, h, hk12⟩ := Dw h
       unfold Gi at h
       refine Bp (csr (rm 2 rfl (sv rfl (An Zg rfl) (sv rfl (Bi rfl rfl) (Al (ccI h rfl (fun h => ?_) (fun h => ?_)))))))
       ·refine Be (Ab (Bp (Bf ?_)))
        refine Afh mixed (by kernel_rfl) ?_
        refine dv rfl (A3 rfl) (dv rfl (A3 rfl) (Mw 43 rfl (fun hc => ?_) (fun hc => ?_)))
        ·replace h := Bt hc h
         clear hc
         refine dvg rfl rfl rfl (A3 rfl) (dvg rfl rfl rfl (A3 rfl) ?_)
         obtain ⟨u13, hu13, h⟩ := Ag h
         refine dvg rfl rfl rfl (V6 (f := eB) Aks (fun _ => rfl) rfl rfl rfl rfl rfl hu13) ?_
         refine dvg rfl rfl rfl (Adj (f := eB) 0 ti4 (fun _ => rfl) rfl rfl rfl rfl (Sf hu13).2 rfl) ?_
         refine dvg rfl rfl rfl (A3 rfl) (Mw 48 rfl (fun hc => ?_) (fun hc => ?_))
         ·replace h := Bt hc h
          clear hc
          refine Dz rfl rfl rfl rfl (Dz rfl rfl rfl rfl (Dz rfl rfl rfl rfl (Dz rfl rfl rfl rfl (Dz rfl rfl rfl rfl (Dz rfl rfl rfl rfl (Dz rfl rfl rfl rfl (Dz rfl rfl rfl rfl (Dz rfl rfl rfl rfl (Dz rfl rfl rfl rfl (dvg rfl rfl rfl (Cs rfl rfl) (dv rfl (Cs rfl rfl) (dv rfl (E8 rfl) (Py (Am (Ab (Ax (rm 1 rfl (sv rfl (Bj rfl rfl) (rm 1 rfl (Al ?_))))))))))))))))))))
          obtain rfl := SJ h
          exact ⟨(n12, (true, (wI (s12.2 + 1)))), _, hk12, ⟨rfl, rfl, rfl, rfl, rfl, rfl, rfl, trivial⟩, rfl, Nat.lt_succ_self _⟩
         ·replace h := Bu hc h
          clear hc
          refine dvg rfl rfl rfl (A3 rfl) (dvg rfl rfl rfl (A3 rfl) ?_)
          obtain ⟨u14, hu14, h⟩ := Ag h
          refine dvg rfl rfl rfl (Bw (f := B4) Zg (fun _ => rfl) rfl rfl rfl rfl hu14) ?_
          refine dvg rfl rfl rfl (Bq (ys := [Ii6 u14.Token, Ii6 u14.Snap, Ii6 u14.Ts, .sl u14.Reads.length (u14.Reads.flatMap A0), .sl u14.Writes.length (u14.Writes.flatMap Ac)]) Aej rfl (.cp _) rfl rfl) (dvg rfl rfl rfl (A3 rfl) (dvg rfl rfl rfl (A3 rfl) ?_))
          obtain ⟨u15, hu15, h⟩ := Ag h
          refine dvg rfl rfl rfl (Bw (f := B4) Zg (fun _ => rfl) rfl rfl rfl rfl hu15) ?_
          refine dvg rfl rfl rfl (Bq (ys := [Ii6 u15.Token, Ii6 u15.Snap, Ii6 u15.Ts, .sl u15.Reads.length (u15.Reads.flatMap A0), .sl u15.Writes.length (u15.Writes.flatMap Ac)]) Aej rfl (.cp _) rfl rfl) ?_
          obtain ⟨v16, hv16, h⟩ := Ag h
          refine ddg rfl rfl rfl (C1 Ati (Ad rfl (Ad rfl Aj)) rfl (Ws hv16)) (dvg rfl rfl rfl (B1 rfl) (dvg rfl rfl rfl (Cj rfl rfl) (dv rfl (Cs rfl rfl) (dv rfl (E8 rfl) (Py (Am (Ab (Ax (rm 1 rfl (sv rfl (Bj rfl rfl) (rm 1 rfl (Al ?_))))))))))))
          obtain rfl := SJ h
          exact ⟨(n12, ((!v16), (wI (s12.2 + 1)))), _, hk12, ⟨rfl, rfl, rfl, rfl, rfl, rfl, rfl, trivial⟩, rfl, Nat.lt_succ_self _⟩
        ·replace h := Bu hc h
         clear hc
         refine Dz rfl rfl rfl rfl (Dz rfl rfl rfl rfl (Dz rfl rfl rfl rfl (Dz rfl rfl rfl rfl (Dz rfl rfl rfl rfl (Jv rfl rfl rfl (Jv rfl rfl rfl (Jv rfl rfl rfl (Jv rfl rfl rfl (Jv rfl rfl rfl (Jv rfl rfl rfl (Jv rfl rfl rfl (Jv rfl rfl rfl (Jv rfl rfl rfl (Jv rfl rfl rfl (Dz rfl rfl rfl rfl (dv rfl (Cj rfl rfl) (dv rfl (E8 rfl) (Py (Am (Ab (Ax (rm 1 rfl (sv rfl (Bj rfl rfl) (rm 1 rfl (Al ?_)))))))))))))))))))))))))
         obtain rfl := SJ h
         exact ⟨(n12, (false, (wI (s12.2 + 1)))), _, hk12, ⟨rfl, rfl, rfl, rfl, rfl, rfl, rfl, trivial⟩, rfl, Nat.lt_succ_self _⟩
       ·refine Dp (Aq (Aq (Bd (Ab ?_))))
        obtain rfl := SJ h
        obtain rfl : _ = x12 := hk12
        exact ⟨s12.1, _, ho12, ⟨rfl, rfl, rfl, rfl, rfl, rfl, trivial⟩, rfl⟩
     ·skip
      refine Ax (rm 2 rfl (sv rfl (An Zg rfl) (sv rfl (Bi rfl rfl) (rm 1 rfl (Bc 25 rfl (fun hc => ?_) (fun hc => ?_))))))
      ·replace h := Bt hc h
       clear hc
       refine rm 1 rfl (son rfl rfl rfl (sv rfl (Bi rfl rfl) (rm 1 rfl (Al (ccI h rfl (fun h => ?_) (fun h => ?_))))))
       ·refine Be (Ab ?_)
        exact ⟨(), _, h, ⟨rfl, rfl, rfl, rfl, rfl, trivial⟩, rfl⟩
       ·refine Dp (Aq (Aq (Bd (Ab ?_))))
        obtain rfl := SJ h
        obtain rfl : _ = x8 := hk8
        exact ⟨s8.1, _, ho8, ⟨rfl, rfl, rfl, rfl, trivial⟩, rfl⟩
      ·replace h := Bu hc h
       clear hc
       refine rm 3 rfl (Al (Cm rfl (fun hx => Bool.noConfusion hx) (fun _ => ?_)))
       refine Dp (Aq (Aq (Bd (Ab ?_))))
       obtain rfl := SJ h
       obtain rfl : _ = x8 := hk8
       exact ⟨s8.1, _, ho8, ⟨rfl, rfl, rfl, rfl, trivial⟩, rfl⟩
   ·refine Dp (Aq (Aq (Bd (Ab ?_))))
    obtain rfl := SJ h
    obtain rfl : _ = x4 := hk4
    exact ⟨(s4.1, s4.2), _, ho4, ⟨rfl, trivial⟩, rfl⟩
def K7 (a0 : Ar) : Option Bool :=
 if (!a0.Open) then ((Gp a0.Hi a0.Lo).bind fun v1 => if (decide (v1 ≤ 0)) then (some true) else (if (decide ((a0.Lo.length : Int) = 0)) then (if (decide ((a0.Hi.length : Int) = 1)) then ((idx a0.Hi 0).bind fun u2 => some (decide ((u2.toBitVec.toNat : Int) = (0 : Int)))) else (some false)) else (some false))) else (some false)
theorem Ve {a0 : Ar} {r : Bool} (h : K7 a0 = some r) : Bz Tryz.prog 104 [.agg (EL.el a0)] (· = .s (.one (.b r))) := by
 unfold K7 at h
 refine A8 Tryz.func104 rfl (nt := 33) rfl (Nbl rfl) ?_
 intro w0 S0
 refine csr (Kp rfl rfl (rm 1 rfl (Al (csr (fl U8 ti4 rfl rfl rfl rfl rfl rfl (sv rfl (B1 rfl) (rm 1 rfl (Bc 6 rfl (fun hc => ?_) (fun hc => ?_)))))))))
 ·replace h := Bt hc h
  clear hc
  refine son rfl rfl rfl (sv rfl (Aa Ng rfl) (son rfl rfl rfl (sv rfl (Ae E6 rfl (.lp _ _ _ rfl) rfl) (son rfl rfl rfl (sv rfl (Aa Pm rfl) (son rfl rfl rfl (sv rfl (Ae E6 rfl (.lp _ _ _ rfl) rfl) (son rfl rfl rfl ?_))))))))
  obtain ⟨v1, hv1, h⟩ := Ag h
  refine Bn rfl Akj (Ad rfl (Ad rfl Aj)) (A4 rfl) (I3 hv1) (son rfl rfl rfl (sv rfl (Eb rfl rfl) (rm 1 rfl (Bc 13 rfl (fun hc => ?_) (fun hc => ?_)))))
  ·replace h := Bt hc h
   clear hc
   refine rm 5 rfl (Bh rfl rfl rfl (Bh rfl rfl rfl (Bh rfl rfl rfl (Bh rfl rfl rfl (rm 2 rfl (Bh rfl rfl rfl (Bh rfl rfl rfl (Bh rfl rfl rfl (Bh rfl rfl rfl (Bh rfl rfl rfl (rm 4 rfl (Al (Bo ?_)))))))))))))
   obtain rfl := SJ h
   exact dnT rfl rfl rfl rfl
  ·replace h := Bu hc h
   clear hc
   refine son rfl rfl rfl (sv rfl (Aa Pm rfl) (son rfl rfl rfl (sv rfl (Ae E6 rfl (.lp _ _ _ rfl) rfl) (son rfl rfl rfl (sv rfl (An Ku rfl) (son rfl rfl rfl (sv rfl (Bg rfl rfl) (rm 1 rfl (Bc 18 rfl (fun hc => ?_) (fun hc => ?_))))))))))
   ·replace h := Bt hc h
    clear hc
    refine son rfl rfl rfl (sv rfl (Aa Ng rfl) (son rfl rfl rfl (sv rfl (Ae E6 rfl (.lp _ _ _ rfl) rfl) (son rfl rfl rfl (sv rfl (An Ku rfl) (son rfl rfl rfl (sv rfl (Bg rfl rfl) (rm 2 rfl (Bc 24 rfl (fun hc => ?_) (fun hc => ?_))))))))))
    ·replace h := Bt hc h
     clear hc
     refine son rfl rfl rfl (sv rfl (Aa Ng rfl) (son rfl rfl rfl (sv rfl (Ae E6 rfl (.lp _ _ _ rfl) rfl) (son rfl rfl rfl ?_))))
     obtain ⟨u2, hu2, h⟩ := Ag h
     refine sv rfl (Bw (f := eU8) Ku (fun _ => rfl) rfl rfl rfl rfl hu2) ?_
     refine son rfl rfl rfl (sv rfl (Ae ti5 rfl (.cp _) rfl) (son rfl rfl rfl (sv rfl (Bg rfl rfl) (rm 4 rfl (Al (Bo ?_))))))
     obtain rfl := SJ h
     exact dnT rfl rfl rfl rfl
    ·replace h := Bu hc h
     clear hc
     refine rm 9 rfl (Al (Bo ?_))
     obtain rfl := SJ h
     exact dnT rfl rfl rfl rfl
   ·replace h := Bu hc h
    clear hc
    refine rm 15 rfl (Al (Bo ?_))
    obtain rfl := SJ h
    exact dnT rfl rfl rfl rfl
 ·replace h := Bu hc h
  clear hc
  refine rm 7 rfl (Bh rfl rfl rfl (Bh rfl rfl rfl (Bh rfl rfl rfl (Bh rfl rfl rfl (Bh rfl rfl rfl (Bh rfl rfl rfl (Bh rfl rfl rfl (Bh rfl rfl rfl (Bh rfl rfl rfl (Bh rfl rfl rfl (Bh rfl rfl rfl (Bh rfl rfl rfl (Bh rfl rfl rfl (Bh rfl rfl rfl (Bh rfl rfl rfl (Bh rfl rfl rfl (Bh rfl rfl rfl (rm 3 rfl (Al (Bo ?_))))))))))))))))))))
  obtain rfl := SJ h
  exact dnT rfl rfl rfl rfl
def B5 (a0 : Na) (b2 : Unit) : Option Bool :=
 if (decide (a0.What = 4)) then (if (decide ((a0.Rng.Lo.length : Int) ≤ 16)) then (if (decide ((a0.Rng.Hi.length : Int) ≤ 16)) then ((Gj a0.Rng).bind fun v3 => if v3 then ((K7 a0.Rng).bind fun v4 => some (!v4)) else (some false)) else (some false)) else (some false)) else (if (decide ((a0.Rng.Lo.length : Int) = 0)) then (if (decide ((a0.Rng.Hi.length : Int) = 0)) then (some (!a0.Rng.Open)) else (some false)) else (some false))
def K5 (a0 : Na) (a1 : Bool) (b1 : Unit) : Option Bool :=
 if (decide (a0.What ≤ 3)) then ((I1 a0.Key).bind fun v5 => if (!v5) then (some false) else (if (decide (3 < a0.What)) then (if (decide (0 < (a0.Key.length : Int))) then (some false) else (if (decide (a0.What = 7)) then (if (decide (24 < a0.N)) then (some false) else (if a1 then (if (decide (a0.What = 2)) then (some false) else (if (decide (a0.What = 3)) then (some false) else (B5 a0 ()))) else (B5 a0 ()))) else (if a1 then (if (decide (a0.What = 2)) then (some false) else (if (decide (a0.What = 3)) then (some false) else (B5 a0 ()))) else (B5 a0 ())))) else (if (decide (a0.What = 7)) then (if (decide (24 < a0.N)) then (some false) else (if a1 then (if (decide (a0.What = 2)) then (some false) else (if (decide (a0.What = 3)) then (some false) else (B5 a0 ()))) else (B5 a0 ()))) else (if a1 then (if (decide (a0.What = 2)) then (some false) else (if (decide (a0.What = 3)) then (some false) else (B5 a0 ()))) else (B5 a0 ()))))) else (if (decide (3 < a0.What)) then (if (decide (0 < (a0.Key.length : Int))) then (some false) else (if (decide (a0.What = 7)) then (if (decide (24 < a0.N)) then (some false) else (if a1 then (if (decide (a0.What = 2)) then (some false) else (if (decide (a0.What = 3)) then (some false) else (B5 a0 ()))) else (B5 a0 ()))) else (if a1 then (if (decide (a0.What = 2)) then (some false) else (if (decide (a0.What = 3)) then (some false) else (B5 a0 ()))) else (B5 a0 ())))) else (if (decide (a0.What = 7)) then (if (decide (24 < a0.N)) then (some false) else (if a1 then (if (decide (a0.What = 2)) then (some false) else (if (decide (a0.What = 3)) then (some false) else (B5 a0 ()))) else (B5 a0 ()))) else (if a1 then (if (decide (a0.What = 2)) then (some false) else (if (decide (a0.What = 3)) then (some false) else (B5 a0 ()))) else (B5 a0 ()))))
def N7 (a0 : Na) (a1 : Bool) : Option Bool :=
 if (decide (a0.What < 1)) then (some false) else (if (decide (8 < a0.What)) then (some false) else (if (decide (a0.A < 0)) then (some false) else (if (decide (7 < a0.A)) then (some false) else (if (decide (a0.B < 0)) then (some false) else (if (decide (7 < a0.B)) then (some false) else (if (decide (a0.N < 0)) then (some false) else (if (decide (4294967296 ≤ a0.N)) then (some false) else (K5 a0 a1 ()))))))))
theorem Yj {a0 : Na} {a1 : Bool} {r : Bool} (h : N7 a0 a1 = some r) : Bz Tryz.prog 73 [.agg (EL.el a0), .one (.b a1)] (· = .s (.one (.b r))) := by
 unfold N7 at h
 refine A8 Tryz.func73 rfl (nt := 130) rfl (Nbl rfl) ?_
 intro w0 S0
 refine csr (Kp rfl rfl (rm 1 rfl (Al (Bp (Bp (I0 (Unit) (fun b1 => [(1, .s (.one (.b a1))), (2, .s (.one (.lp 0 0)))]) (fun b1 => [.box (EL.el a0)]) (fun b1 => K5 a0 a1 b1 = some r) (fun _ _ => Az rfl) (fun _ _ => Ak rfl) (fun _ _ => Nbl rfl) (fun b1 h => ?_) ?_))))))
 ·unfold K5 at h
  refine Bp (Bp (I0 (Unit) (fun b2 => [(2, .s (.one (.lp 0 0)))]) (fun b2 => [.box (EL.el a0)]) (fun b2 => B5 a0 b2 = some r) (fun _ _ => Az rfl) (fun _ _ => Ak rfl) (fun _ _ => Nbl rfl) (fun b2 h => ?_) ?_))
  ·unfold B5 at h
   refine Bp (csr (fl Gv ti3 rfl rfl rfl rfl rfl rfl (sv rfl (Bg rfl rfl) (Al (ccI h rfl (fun h => ?_) (fun h => ?_))))))
   ·refine csr (sv rfl (Aa Si rfl) (fl Pm E6 rfl rfl rfl rfl rfl rfl (sv rfl (An Ku rfl) (sv rfl (Eb rfl rfl) (rm 1 rfl (Bc 94 rfl (fun hc => ?_) (fun hc => ?_)))))))
    ·replace h := Bt hc h
     clear hc
     refine son rfl rfl rfl (sv rfl (Aa Si rfl) (son rfl rfl rfl (sv rfl (Aa Ng rfl) (son rfl rfl rfl (sv rfl (Ae E6 rfl (.lp _ _ _ rfl) rfl) (son rfl rfl rfl (sv rfl (An Ku rfl) (son rfl rfl rfl (sv rfl (Eb rfl rfl) (rm 2 rfl (Bc 101 rfl (fun hc => ?_) (fun hc => ?_))))))))))))
     ·replace h := Bt hc h
      clear hc
      refine son rfl rfl rfl (sv rfl (Aa Si rfl) (son rfl rfl rfl (sv rfl (Ap Vd rfl (.lp _ _ _ rfl) (Nbl rfl)) (son rfl rfl rfl ?_))))
      obtain ⟨v3, hv3, h⟩ := Ag h
      refine Bn rfl Aqv (Ad rfl Aj) (A4 rfl) (N0 hv3) (rm 2 rfl (Bc 106 rfl (fun hc => ?_) (fun hc => ?_)))
      ·replace h := Bt hc h
       clear hc
       refine son rfl rfl rfl (sv rfl (Aa Si rfl) (son rfl rfl rfl (sv rfl (Ap Vd rfl (.lp _ _ _ rfl) (Nbl rfl)) (son rfl rfl rfl ?_))))
       obtain ⟨v4, hv4, h⟩ := Ag h
       refine Bn rfl Ap8 (Ad rfl Aj) (A4 rfl) (Ve hv4) (son rfl rfl rfl (sv rfl (B1 rfl) (rm 2 rfl (Al (Bo (Ah ?_))))))
       obtain rfl := SJ h
       exact dnT rfl rfl rfl rfl
      ·replace h := Bu hc h
       clear hc
       refine rm 6 rfl (Al (Bo (Ah ?_)))
       obtain rfl := SJ h
       exact dnT rfl rfl rfl rfl
     ·replace h := Bu hc h
      clear hc
      refine rm 11 rfl (Al (Bo (Ah ?_)))
      obtain rfl := SJ h
      exact dnT rfl rfl rfl rfl
    ·replace h := Bu hc h
     clear hc
     refine rm 18 rfl (Al (Bo (Ah ?_)))
     obtain rfl := SJ h
     exact dnT rfl rfl rfl rfl
   ·refine Be (Ab (csr (sv rfl (Aa Si rfl) (fl Pm E6 rfl rfl rfl rfl rfl rfl (sv rfl (An Ku rfl) (sv rfl (Bg rfl rfl) (rm 1 rfl (Bc 117 rfl (fun hc => ?_) (fun hc => ?_)))))))))
    ·replace h := Bt hc h
     clear hc
     refine son rfl rfl rfl (sv rfl (Aa Si rfl) (son rfl rfl rfl (sv rfl (Aa Ng rfl) (son rfl rfl rfl (sv rfl (Ae E6 rfl (.lp _ _ _ rfl) rfl) (son rfl rfl rfl (sv rfl (An Ku rfl) (son rfl rfl rfl (sv rfl (Bg rfl rfl) (rm 2 rfl (Bc 124 rfl (fun hc => ?_) (fun hc => ?_))))))))))))
     ·replace h := Bt hc h
      clear hc
      refine son rfl rfl rfl (sv rfl (Aa Si rfl) (son rfl rfl rfl (sv rfl (Aa U8 rfl) (son rfl rfl rfl (sv rfl (Ae ti4 rfl (.lp _ _ _ rfl) rfl) (son rfl rfl rfl (sv rfl (B1 rfl) (rm 2 rfl (Al (Bo ?_))))))))))
      obtain rfl := SJ h
      exact dnT rfl rfl rfl rfl
     ·replace h := Bu hc h
      clear hc
      refine rm 6 rfl (Al (Bo ?_))
      obtain rfl := SJ h
      exact dnT rfl rfl rfl rfl
    ·replace h := Bu hc h
     clear hc
     refine rm 13 rfl (Al (Bo ?_))
     obtain rfl := SJ h
     exact dnT rfl rfl rfl rfl
  ·skip
   refine Ax (fl Gv ti3 rfl rfl rfl rfl rfl rfl (sv rfl (Eb rfl rfl) (rm 1 rfl (Bc 46 rfl (fun hc => ?_) (fun hc => ?_)))))
   ·replace h := Bt hc h
    clear hc
    refine son rfl rfl rfl (sv rfl (Aa U2 rfl) (son rfl rfl rfl (sv rfl (Ae E6 rfl (.lp _ _ _ rfl) rfl) (son rfl rfl rfl ?_))))
    obtain ⟨v5, hv5, h⟩ := Ag h
    refine Bn rfl Anc (Ad rfl Aj) (A4 rfl) (Q9 hv5) (son rfl rfl rfl (sv rfl (B1 rfl) (rm 2 rfl (Bc 52 rfl (fun hc => ?_) (fun hc => ?_)))))
    ·replace h := Bt hc h
     clear hc
     refine rm 4 rfl (Bh rfl rfl rfl (Bh rfl rfl rfl (Bh rfl rfl rfl (Bh rfl rfl rfl (rm 7 rfl (Bh rfl rfl rfl (Bh rfl rfl rfl (Bh rfl rfl rfl (rm 5 rfl (Bh rfl rfl rfl (Bh rfl rfl rfl (Bh rfl rfl rfl (Bh rfl rfl rfl (Bh rfl rfl rfl (Bh rfl rfl rfl (Bh rfl rfl rfl (Bh rfl rfl rfl (rm 2 rfl (Al (Cm rfl (fun _ => ?_) (fun hx => Bool.noConfusion hx)))))))))))))))))))))
     refine csr (rm 1 rfl (Al (Bo (Ah ?_))))
     obtain rfl := SJ h
     exact dnT rfl rfl rfl rfl
    ·replace h := Bu hc h
     clear hc
     refine son rfl rfl rfl (sv rfl (Aa Gv rfl) (son rfl rfl rfl (sv rfl (Ae ti3 rfl (.lp _ _ _ rfl) rfl) (son rfl rfl rfl (sv rfl (B8 rfl rfl) (rm 1 rfl (Bc 56 rfl (fun hc => ?_) (fun hc => ?_))))))))
     ·replace h := Bt hc h
      clear hc
      refine son rfl rfl rfl (sv rfl (Aa U2 rfl) (son rfl rfl rfl (sv rfl (Ae E6 rfl (.lp _ _ _ rfl) rfl) (son rfl rfl rfl (sv rfl (An Ku rfl) (son rfl rfl rfl (sv rfl (B8 rfl rfl) (rm 3 rfl (Bc 63 rfl (fun hc => ?_) (fun hc => ?_))))))))))
      ·replace h := Bt hc h
       clear hc
       refine rm 4 rfl (Bh rfl rfl rfl (Bh rfl rfl rfl (Bh rfl rfl rfl (rm 5 rfl (Bh rfl rfl rfl (Bh rfl rfl rfl (Bh rfl rfl rfl (Bh rfl rfl rfl (Bh rfl rfl rfl (Bh rfl rfl rfl (Bh rfl rfl rfl (Bh rfl rfl rfl (rm 2 rfl (Al (Cm rfl (fun _ => ?_) (fun hx => Bool.noConfusion hx))))))))))))))))
       refine csr (rm 1 rfl (Al (Bo (Ah ?_))))
       obtain rfl := SJ h
       exact dnT rfl rfl rfl rfl
      ·replace h := Bu hc h
       clear hc
       refine son rfl rfl rfl (sv rfl (Aa Gv rfl) (son rfl rfl rfl (sv rfl (Ae ti3 rfl (.lp _ _ _ rfl) rfl) (son rfl rfl rfl (sv rfl (Bg rfl rfl) (rm 1 rfl (Bc 67 rfl (fun hc => ?_) (fun hc => ?_))))))))
       ·replace h := Bt hc h
        clear hc
        refine son rfl rfl rfl (sv rfl (Aa Sl rfl) (son rfl rfl rfl (sv rfl (Ae ti3 rfl (.lp _ _ _ rfl) rfl) (son rfl rfl rfl (sv rfl (B8 rfl rfl) (rm 3 rfl (Bc 73 rfl (fun hc => ?_) (fun hc => ?_))))))))
        ·replace h := Bt hc h
         clear hc
         refine rm 2 rfl (Bh rfl rfl rfl (Bh rfl rfl rfl (Bh rfl rfl rfl (Bh rfl rfl rfl (Bh rfl rfl rfl (Bh rfl rfl rfl (Bh rfl rfl rfl (Bh rfl rfl rfl (rm 2 rfl (Al (Cm rfl (fun _ => ?_) (fun hx => Bool.noConfusion hx))))))))))))
         refine csr (rm 1 rfl (Al (Bo (Ah ?_))))
         obtain rfl := SJ h
         exact dnT rfl rfl rfl rfl
        ·replace h := Bu hc h
         clear hc
         refine rm 2 rfl (Bc 75 rfl (fun hc => ?_) (fun hc => ?_))
         ·replace h := Bt hc h
          clear hc
          refine son rfl rfl rfl (sv rfl (Aa Gv rfl) (son rfl rfl rfl (sv rfl (Ae ti3 rfl (.lp _ _ _ rfl) rfl) (son rfl rfl rfl (sv rfl (Bg rfl rfl) (rm 1 rfl (Bc 79 rfl (fun hc => ?_) (fun hc => ?_))))))))
          ·replace h := Bt hc h
           clear hc
           refine rm 6 rfl (Al (Cm rfl (fun _ => ?_) (fun hx => Bool.noConfusion hx)))
           refine csr (rm 1 rfl (Al (Bo (Ah ?_))))
           obtain rfl := SJ h
           exact dnT rfl rfl rfl rfl
          ·replace h := Bu hc h
           clear hc
           refine son rfl rfl rfl (sv rfl (Aa Gv rfl) (son rfl rfl rfl (sv rfl (Ae ti3 rfl (.lp _ _ _ rfl) rfl) (son rfl rfl rfl (sv rfl (Bg rfl rfl) (rm 3 rfl (Al (ccI h rfl (fun h => ?_) (fun h => ?_)))))))))
           ·refine csr (rm 1 rfl (Al (Bo (Ah ?_))))
            obtain rfl := SJ h
            exact dnT rfl rfl rfl rfl
           ·refine Be (Ab ?_)
            exact ⟨(), _, h, ⟨rfl, trivial⟩, rfl⟩
         ·replace h := Bu hc h
          clear hc
          refine rm 4 rfl (Bh rfl rfl rfl (Bh rfl rfl rfl (Bh rfl rfl rfl (rm 3 rfl (Al (Cm rfl (fun hx => Bool.noConfusion hx) (fun _ => ?_)))))))
          refine Be (Ab ?_)
          exact ⟨(), _, h, ⟨rfl, trivial⟩, rfl⟩
       ·replace h := Bu hc h
        clear hc
        refine rm 8 rfl (Bc 75 rfl (fun hc => ?_) (fun hc => ?_))
        ·replace h := Bt hc h
         clear hc
         refine son rfl rfl rfl (sv rfl (Aa Gv rfl) (son rfl rfl rfl (sv rfl (Ae ti3 rfl (.lp _ _ _ rfl) rfl) (son rfl rfl rfl (sv rfl (Bg rfl rfl) (rm 1 rfl (Bc 79 rfl (fun hc => ?_) (fun hc => ?_))))))))
         ·replace h := Bt hc h
          clear hc
          refine rm 6 rfl (Al (Cm rfl (fun _ => ?_) (fun hx => Bool.noConfusion hx)))
          refine csr (rm 1 rfl (Al (Bo (Ah ?_))))
          obtain rfl := SJ h
          exact dnT rfl rfl rfl rfl
         ·replace h := Bu hc h
          clear hc
          refine son rfl rfl rfl (sv rfl (Aa Gv rfl) (son rfl rfl rfl (sv rfl (Ae ti3 rfl (.lp _ _ _ rfl) rfl) (son rfl rfl rfl (sv rfl (Bg rfl rfl) (rm 3 rfl (Al (ccI h rfl (fun h => ?_) (fun h => ?_)))))))))
          ·refine csr (rm 1 rfl (Al (Bo (Ah ?_))))
           obtain rfl := SJ h
           exact dnT rfl rfl rfl rfl
          ·refine Be (Ab ?_)
           exact ⟨(), _, h, ⟨rfl, trivial⟩, rfl⟩
        ·replace h := Bu hc h
         clear hc
         refine rm 4 rfl (Bh rfl rfl rfl (Bh rfl rfl rfl (Bh rfl rfl rfl (rm 3 rfl (Al (Cm rfl (fun hx => Bool.noConfusion hx) (fun _ => ?_)))))))
         refine Be (Ab ?_)
         exact ⟨(), _, h, ⟨rfl, trivial⟩, rfl⟩
     ·replace h := Bu hc h
      clear hc
      refine rm 7 rfl (son rfl rfl rfl (sv rfl (Aa Gv rfl) (son rfl rfl rfl (sv rfl (Ae ti3 rfl (.lp _ _ _ rfl) rfl) (son rfl rfl rfl (sv rfl (Bg rfl rfl) (rm 1 rfl (Bc 67 rfl (fun hc => ?_) (fun hc => ?_)))))))))
      ·replace h := Bt hc h
       clear hc
       refine son rfl rfl rfl (sv rfl (Aa Sl rfl) (son rfl rfl rfl (sv rfl (Ae ti3 rfl (.lp _ _ _ rfl) rfl) (son rfl rfl rfl (sv rfl (B8 rfl rfl) (rm 3 rfl (Bc 73 rfl (fun hc => ?_) (fun hc => ?_))))))))
       ·replace h := Bt hc h
        clear hc
        refine rm 2 rfl (Bh rfl rfl rfl (Bh rfl rfl rfl (Bh rfl rfl rfl (Bh rfl rfl rfl (Bh rfl rfl rfl (Bh rfl rfl rfl (Bh rfl rfl rfl (Bh rfl rfl rfl (rm 2 rfl (Al (Cm rfl (fun _ => ?_) (fun hx => Bool.noConfusion hx))))))))))))
        refine csr (rm 1 rfl (Al (Bo (Ah ?_))))
        obtain rfl := SJ h
        exact dnT rfl rfl rfl rfl
       ·replace h := Bu hc h
        clear hc
        refine rm 2 rfl (Bc 75 rfl (fun hc => ?_) (fun hc => ?_))
        ·replace h := Bt hc h
         clear hc
         refine son rfl rfl rfl (sv rfl (Aa Gv rfl) (son rfl rfl rfl (sv rfl (Ae ti3 rfl (.lp _ _ _ rfl) rfl) (son rfl rfl rfl (sv rfl (Bg rfl rfl) (rm 1 rfl (Bc 79 rfl (fun hc => ?_) (fun hc => ?_))))))))
         ·replace h := Bt hc h
          clear hc
          refine rm 6 rfl (Al (Cm rfl (fun _ => ?_) (fun hx => Bool.noConfusion hx)))
          refine csr (rm 1 rfl (Al (Bo (Ah ?_))))
          obtain rfl := SJ h
          exact dnT rfl rfl rfl rfl
         ·replace h := Bu hc h
          clear hc
          refine son rfl rfl rfl (sv rfl (Aa Gv rfl) (son rfl rfl rfl (sv rfl (Ae ti3 rfl (.lp _ _ _ rfl) rfl) (son rfl rfl rfl (sv rfl (Bg rfl rfl) (rm 3 rfl (Al (ccI h rfl (fun h => ?_) (fun h => ?_)))))))))
          ·refine csr (rm 1 rfl (Al (Bo (Ah ?_))))
           obtain rfl := SJ h
           exact dnT rfl rfl rfl rfl
          ·refine Be (Ab ?_)
           exact ⟨(), _, h, ⟨rfl, trivial⟩, rfl⟩
        ·replace h := Bu hc h
         clear hc
         refine rm 4 rfl (Bh rfl rfl rfl (Bh rfl rfl rfl (Bh rfl rfl rfl (rm 3 rfl (Al (Cm rfl (fun hx => Bool.noConfusion hx) (fun _ => ?_)))))))
         refine Be (Ab ?_)
         exact ⟨(), _, h, ⟨rfl, trivial⟩, rfl⟩
      ·replace h := Bu hc h
       clear hc
       refine rm 8 rfl (Bc 75 rfl (fun hc => ?_) (fun hc => ?_))
       ·replace h := Bt hc h
        clear hc
        refine son rfl rfl rfl (sv rfl (Aa Gv rfl) (son rfl rfl rfl (sv rfl (Ae ti3 rfl (.lp _ _ _ rfl) rfl) (son rfl rfl rfl (sv rfl (Bg rfl rfl) (rm 1 rfl (Bc 79 rfl (fun hc => ?_) (fun hc => ?_))))))))
        ·replace h := Bt hc h
         clear hc
         refine rm 6 rfl (Al (Cm rfl (fun _ => ?_) (fun hx => Bool.noConfusion hx)))
         refine csr (rm 1 rfl (Al (Bo (Ah ?_))))
         obtain rfl := SJ h
         exact dnT rfl rfl rfl rfl
        ·replace h := Bu hc h
         clear hc
         refine son rfl rfl rfl (sv rfl (Aa Gv rfl) (son rfl rfl rfl (sv rfl (Ae ti3 rfl (.lp _ _ _ rfl) rfl) (son rfl rfl rfl (sv rfl (Bg rfl rfl) (rm 3 rfl (Al (ccI h rfl (fun h => ?_) (fun h => ?_)))))))))
         ·refine csr (rm 1 rfl (Al (Bo (Ah ?_))))
          obtain rfl := SJ h
          exact dnT rfl rfl rfl rfl
         ·refine Be (Ab ?_)
          exact ⟨(), _, h, ⟨rfl, trivial⟩, rfl⟩
       ·replace h := Bu hc h
        clear hc
        refine rm 4 rfl (Bh rfl rfl rfl (Bh rfl rfl rfl (Bh rfl rfl rfl (rm 3 rfl (Al (Cm rfl (fun hx => Bool.noConfusion hx) (fun _ => ?_)))))))
        refine Be (Ab ?_)
        exact ⟨(), _, h, ⟨rfl, trivial⟩, rfl⟩
   ·replace h := Bu hc h
    clear hc
    refine rm 6 rfl (son rfl rfl rfl (sv rfl (Aa Gv rfl) (son rfl rfl rfl (sv rfl (Ae ti3 rfl (.lp _ _ _ rfl) rfl) (son rfl rfl rfl (sv rfl (B8 rfl rfl) (rm 1 rfl (Bc 56 rfl (fun hc => ?_) (fun hc => ?_)))))))))
    ·replace h := Bt hc h
     clear hc
     refine son rfl rfl rfl (sv rfl (Aa U2 rfl) (son rfl rfl rfl (sv rfl (Ae E6 rfl (.lp _ _ _ rfl) rfl) (son rfl rfl rfl (sv rfl (An Ku rfl) (son rfl rfl rfl (sv rfl (B8 rfl rfl) (rm 3 rfl (Bc 63 rfl (fun hc => ?_) (fun hc => ?_))))))))))
     ·replace h := Bt hc h
      clear hc
      refine rm 4 rfl (Bh rfl rfl rfl (Bh rfl rfl rfl (Bh rfl rfl rfl (rm 5 rfl (Bh rfl rfl rfl (Bh rfl rfl rfl (Bh rfl rfl rfl (Bh rfl rfl rfl (Bh rfl rfl rfl (Bh rfl rfl rfl (Bh rfl rfl rfl (Bh rfl rfl rfl (rm 2 rfl (Al (Cm rfl (fun _ => ?_) (fun hx => Bool.noConfusion hx))))))))))))))))
      refine csr (rm 1 rfl (Al (Bo (Ah ?_))))
      obtain rfl := SJ h
      exact dnT rfl rfl rfl rfl
     ·replace h := Bu hc h
      clear hc
      refine son rfl rfl rfl (sv rfl (Aa Gv rfl) (son rfl rfl rfl (sv rfl (Ae ti3 rfl (.lp _ _ _ rfl) rfl) (son rfl rfl rfl (sv rfl (Bg rfl rfl) (rm 1 rfl (Bc 67 rfl (fun hc => ?_) (fun hc => ?_))))))))
      ·replace h := Bt hc h
       clear hc
       refine son rfl rfl rfl (sv rfl (Aa Sl rfl) (son rfl rfl rfl (sv rfl (Ae ti3 rfl (.lp _ _ _ rfl) rfl) (son rfl rfl rfl (sv rfl (B8 rfl rfl) (rm 3 rfl (Bc 73 rfl (fun hc => ?_) (fun hc => ?_))))))))
       ·replace h := Bt hc h
        clear hc
        refine rm 2 rfl (Bh rfl rfl rfl (Bh rfl rfl rfl (Bh rfl rfl rfl (Bh rfl rfl rfl (Bh rfl rfl rfl (Bh rfl rfl rfl (Bh rfl rfl rfl (Bh rfl rfl rfl (rm 2 rfl (Al (Cm rfl (fun _ => ?_) (fun hx => Bool.noConfusion hx))))))))))))
        refine csr (rm 1 rfl (Al (Bo (Ah ?_))))
        obtain rfl := SJ h
        exact dnT rfl rfl rfl rfl
       ·replace h := Bu hc h
        clear hc
        refine rm 2 rfl (Bc 75 rfl (fun hc => ?_) (fun hc => ?_))
        ·replace h := Bt hc h
         clear hc
         refine son rfl rfl rfl (sv rfl (Aa Gv rfl) (son rfl rfl rfl (sv rfl (Ae ti3 rfl (.lp _ _ _ rfl) rfl) (son rfl rfl rfl (sv rfl (Bg rfl rfl) (rm 1 rfl (Bc 79 rfl (fun hc => ?_) (fun hc => ?_))))))))
         ·replace h := Bt hc h
          clear hc
          refine rm 6 rfl (Al (Cm rfl (fun _ => ?_) (fun hx => Bool.noConfusion hx)))
          refine csr (rm 1 rfl (Al (Bo (Ah ?_))))
          obtain rfl := SJ h
          exact dnT rfl rfl rfl rfl
         ·replace h := Bu hc h
          clear hc
          refine son rfl rfl rfl (sv rfl (Aa Gv rfl) (son rfl rfl rfl (sv rfl (Ae ti3 rfl (.lp _ _ _ rfl) rfl) (son rfl rfl rfl (sv rfl (Bg rfl rfl) (rm 3 rfl (Al (ccI h rfl (fun h => ?_) (fun h => ?_)))))))))
          ·refine csr (rm 1 rfl (Al (Bo (Ah ?_))))
           obtain rfl := SJ h
           exact dnT rfl rfl rfl rfl
          ·refine Be (Ab ?_)
           exact ⟨(), _, h, ⟨rfl, trivial⟩, rfl⟩
        ·replace h := Bu hc h
         clear hc
         refine rm 4 rfl (Bh rfl rfl rfl (Bh rfl rfl rfl (Bh rfl rfl rfl (rm 3 rfl (Al (Cm rfl (fun hx => Bool.noConfusion hx) (fun _ => ?_)))))))
         refine Be (Ab ?_)
         exact ⟨(), _, h, ⟨rfl, trivial⟩, rfl⟩
      ·replace h := Bu hc h
       clear hc
       refine rm 8 rfl (Bc 75 rfl (fun hc => ?_) (fun hc => ?_))
       ·replace h := Bt hc h
        clear hc
        refine son rfl rfl rfl (sv rfl (Aa Gv rfl) (son rfl rfl rfl (sv rfl (Ae ti3 rfl (.lp _ _ _ rfl) rfl) (son rfl rfl rfl (sv rfl (Bg rfl rfl) (rm 1 rfl (Bc 79 rfl (fun hc => ?_) (fun hc => ?_))))))))
        ·replace h := Bt hc h
         clear hc
         refine rm 6 rfl (Al (Cm rfl (fun _ => ?_) (fun hx => Bool.noConfusion hx)))
         refine csr (rm 1 rfl (Al (Bo (Ah ?_))))
         obtain rfl := SJ h
         exact dnT rfl rfl rfl rfl
        ·replace h := Bu hc h
         clear hc
         refine son rfl rfl rfl (sv rfl (Aa Gv rfl) (son rfl rfl rfl (sv rfl (Ae ti3 rfl (.lp _ _ _ rfl) rfl) (son rfl rfl rfl (sv rfl (Bg rfl rfl) (rm 3 rfl (Al (ccI h rfl (fun h => ?_) (fun h => ?_)))))))))
         ·refine csr (rm 1 rfl (Al (Bo (Ah ?_))))
          obtain rfl := SJ h
          exact dnT rfl rfl rfl rfl
         ·refine Be (Ab ?_)
          exact ⟨(), _, h, ⟨rfl, trivial⟩, rfl⟩
       ·replace h := Bu hc h
        clear hc
        refine rm 4 rfl (Bh rfl rfl rfl (Bh rfl rfl rfl (Bh rfl rfl rfl (rm 3 rfl (Al (Cm rfl (fun hx => Bool.noConfusion hx) (fun _ => ?_)))))))
        refine Be (Ab ?_)
        exact ⟨(), _, h, ⟨rfl, trivial⟩, rfl⟩
    ·replace h := Bu hc h
     clear hc
     refine rm 7 rfl (son rfl rfl rfl (sv rfl (Aa Gv rfl) (son rfl rfl rfl (sv rfl (Ae ti3 rfl (.lp _ _ _ rfl) rfl) (son rfl rfl rfl (sv rfl (Bg rfl rfl) (rm 1 rfl (Bc 67 rfl (fun hc => ?_) (fun hc => ?_)))))))))
     ·replace h := Bt hc h
      clear hc
      refine son rfl rfl rfl (sv rfl (Aa Sl rfl) (son rfl rfl rfl (sv rfl (Ae ti3 rfl (.lp _ _ _ rfl) rfl) (son rfl rfl rfl (sv rfl (B8 rfl rfl) (rm 3 rfl (Bc 73 rfl (fun hc => ?_) (fun hc => ?_))))))))
      ·replace h := Bt hc h
       clear hc
       refine rm 2 rfl (Bh rfl rfl rfl (Bh rfl rfl rfl (Bh rfl rfl rfl (Bh rfl rfl rfl (Bh rfl rfl rfl (Bh rfl rfl rfl (Bh rfl rfl rfl (Bh rfl rfl rfl (rm 2 rfl (Al (Cm rfl (fun _ => ?_) (fun hx => Bool.noConfusion hx))))))))))))
       refine csr (rm 1 rfl (Al (Bo (Ah ?_))))
       obtain rfl := SJ h
       exact dnT rfl rfl rfl rfl
      ·replace h := Bu hc h
       clear hc
       refine rm 2 rfl (Bc 75 rfl (fun hc => ?_) (fun hc => ?_))
       ·replace h := Bt hc h
        clear hc
        refine son rfl rfl rfl (sv rfl (Aa Gv rfl) (son rfl rfl rfl (sv rfl (Ae ti3 rfl (.lp _ _ _ rfl) rfl) (son rfl rfl rfl (sv rfl (Bg rfl rfl) (rm 1 rfl (Bc 79 rfl (fun hc => ?_) (fun hc => ?_))))))))
        ·replace h := Bt hc h
         clear hc
         refine rm 6 rfl (Al (Cm rfl (fun _ => ?_) (fun hx => Bool.noConfusion hx)))
         refine csr (rm 1 rfl (Al (Bo (Ah ?_))))
         obtain rfl := SJ h
         exact dnT rfl rfl rfl rfl
        ·replace h := Bu hc h
         clear hc
         refine son rfl rfl rfl (sv rfl (Aa Gv rfl) (son rfl rfl rfl (sv rfl (Ae ti3 rfl (.lp _ _ _ rfl) rfl) (son rfl rfl rfl (sv rfl (Bg rfl rfl) (rm 3 rfl (Al (ccI h rfl (fun h => ?_) (fun h => ?_)))))))))
         ·refine csr (rm 1 rfl (Al (Bo (Ah ?_))))
          obtain rfl := SJ h
          exact dnT rfl rfl rfl rfl
         ·refine Be (Ab ?_)
          exact ⟨(), _, h, ⟨rfl, trivial⟩, rfl⟩
       ·replace h := Bu hc h
        clear hc
        refine rm 4 rfl (Bh rfl rfl rfl (Bh rfl rfl rfl (Bh rfl rfl rfl (rm 3 rfl (Al (Cm rfl (fun hx => Bool.noConfusion hx) (fun _ => ?_)))))))
        refine Be (Ab ?_)
        exact ⟨(), _, h, ⟨rfl, trivial⟩, rfl⟩
     ·replace h := Bu hc h
      clear hc
      refine rm 8 rfl (Bc 75 rfl (fun hc => ?_) (fun hc => ?_))
      ·replace h := Bt hc h
       clear hc
       refine son rfl rfl rfl (sv rfl (Aa Gv rfl) (son rfl rfl rfl (sv rfl (Ae ti3 rfl (.lp _ _ _ rfl) rfl) (son rfl rfl rfl (sv rfl (Bg rfl rfl) (rm 1 rfl (Bc 79 rfl (fun hc => ?_) (fun hc => ?_))))))))
       ·replace h := Bt hc h
        clear hc
        refine rm 6 rfl (Al (Cm rfl (fun _ => ?_) (fun hx => Bool.noConfusion hx)))
        refine csr (rm 1 rfl (Al (Bo (Ah ?_))))
        obtain rfl := SJ h
        exact dnT rfl rfl rfl rfl
       ·replace h := Bu hc h
        clear hc
        refine son rfl rfl rfl (sv rfl (Aa Gv rfl) (son rfl rfl rfl (sv rfl (Ae ti3 rfl (.lp _ _ _ rfl) rfl) (son rfl rfl rfl (sv rfl (Bg rfl rfl) (rm 3 rfl (Al (ccI h rfl (fun h => ?_) (fun h => ?_)))))))))
        ·refine csr (rm 1 rfl (Al (Bo (Ah ?_))))
         obtain rfl := SJ h
         exact dnT rfl rfl rfl rfl
        ·refine Be (Ab ?_)
         exact ⟨(), _, h, ⟨rfl, trivial⟩, rfl⟩
      ·replace h := Bu hc h
       clear hc
       refine rm 4 rfl (Bh rfl rfl rfl (Bh rfl rfl rfl (Bh rfl rfl rfl (rm 3 rfl (Al (Cm rfl (fun hx => Bool.noConfusion hx) (fun _ => ?_)))))))
       refine Be (Ab ?_)
       exact ⟨(), _, h, ⟨rfl, trivial⟩, rfl⟩
 ·skip
  refine Ax (fl Gv ti3 rfl rfl rfl rfl rfl rfl (sv rfl (Bi rfl rfl) (rm 1 rfl (Bc 8 rfl (fun hc => ?_) (fun hc => ?_)))))
  ·replace h := Bt hc h
   clear hc
   refine rm 34 rfl (Al (Cm rfl (fun _ => ?_) (fun hx => Bool.noConfusion hx)))
   refine csr (rm 1 rfl (Al (Bo (Ah ?_))))
   obtain rfl := SJ h
   exact dnT rfl rfl rfl rfl
  ·replace h := Bu hc h
   clear hc
   refine son rfl rfl rfl (sv rfl (Aa Gv rfl) (son rfl rfl rfl (sv rfl (Ae ti3 rfl (.lp _ _ _ rfl) rfl) (son rfl rfl rfl (sv rfl (B8 rfl rfl) (rm 2 rfl (Bc 13 rfl (fun hc => ?_) (fun hc => ?_))))))))
   ·replace h := Bt hc h
    clear hc
    refine rm 29 rfl (Al (Cm rfl (fun _ => ?_) (fun hx => Bool.noConfusion hx)))
    refine csr (rm 1 rfl (Al (Bo (Ah ?_))))
    obtain rfl := SJ h
    exact dnT rfl rfl rfl rfl
   ·replace h := Bu hc h
    clear hc
    refine son rfl rfl rfl (sv rfl (Aa R9 rfl) (son rfl rfl rfl (sv rfl (Ae ti3 rfl (.lp _ _ _ rfl) rfl) (son rfl rfl rfl (sv rfl (Bi rfl rfl) (rm 2 rfl (Bc 18 rfl (fun hc => ?_) (fun hc => ?_))))))))
    ·replace h := Bt hc h
     clear hc
     refine rm 24 rfl (Al (Cm rfl (fun _ => ?_) (fun hx => Bool.noConfusion hx)))
     refine csr (rm 1 rfl (Al (Bo (Ah ?_))))
     obtain rfl := SJ h
     exact dnT rfl rfl rfl rfl
    ·replace h := Bu hc h
     clear hc
     refine son rfl rfl rfl (sv rfl (Aa R9 rfl) (son rfl rfl rfl (sv rfl (Ae ti3 rfl (.lp _ _ _ rfl) rfl) (son rfl rfl rfl (sv rfl (B8 rfl rfl) (rm 2 rfl (Bc 23 rfl (fun hc => ?_) (fun hc => ?_))))))))
     ·replace h := Bt hc h
      clear hc
      refine rm 19 rfl (Al (Cm rfl (fun _ => ?_) (fun hx => Bool.noConfusion hx)))
      refine csr (rm 1 rfl (Al (Bo (Ah ?_))))
      obtain rfl := SJ h
      exact dnT rfl rfl rfl rfl
     ·replace h := Bu hc h
      clear hc
      refine son rfl rfl rfl (sv rfl (Aa U0 rfl) (son rfl rfl rfl (sv rfl (Ae ti3 rfl (.lp _ _ _ rfl) rfl) (son rfl rfl rfl (sv rfl (Bi rfl rfl) (rm 2 rfl (Bc 28 rfl (fun hc => ?_) (fun hc => ?_))))))))
      ·replace h := Bt hc h
       clear hc
       refine rm 14 rfl (Al (Cm rfl (fun _ => ?_) (fun hx => Bool.noConfusion hx)))
       refine csr (rm 1 rfl (Al (Bo (Ah ?_))))
       obtain rfl := SJ h
       exact dnT rfl rfl rfl rfl
      ·replace h := Bu hc h
       clear hc
       refine son rfl rfl rfl (sv rfl (Aa U0 rfl) (son rfl rfl rfl (sv rfl (Ae ti3 rfl (.lp _ _ _ rfl) rfl) (son rfl rfl rfl (sv rfl (B8 rfl rfl) (rm 2 rfl (Bc 33 rfl (fun hc => ?_) (fun hc => ?_))))))))
       ·replace h := Bt hc h
        clear hc
        refine rm 9 rfl (Al (Cm rfl (fun _ => ?_) (fun hx => Bool.noConfusion hx)))
        refine csr (rm 1 rfl (Al (Bo (Ah ?_))))
        obtain rfl := SJ h
        exact dnT rfl rfl rfl rfl
       ·replace h := Bu hc h
        clear hc
        refine son rfl rfl rfl (sv rfl (Aa Sl rfl) (son rfl rfl rfl (sv rfl (Ae ti3 rfl (.lp _ _ _ rfl) rfl) (son rfl rfl rfl (sv rfl (Bi rfl rfl) (rm 2 rfl (Bc 38 rfl (fun hc => ?_) (fun hc => ?_))))))))
        ·replace h := Bt hc h
         clear hc
         refine rm 4 rfl (Al (Cm rfl (fun _ => ?_) (fun hx => Bool.noConfusion hx)))
         refine csr (rm 1 rfl (Al (Bo (Ah ?_))))
         obtain rfl := SJ h
         exact dnT rfl rfl rfl rfl
        ·replace h := Bu hc h
         clear hc
         refine son rfl rfl rfl (sv rfl (Aa Sl rfl) (son rfl rfl rfl (sv rfl (Ae ti3 rfl (.lp _ _ _ rfl) rfl) (son rfl rfl rfl (sv rfl (G6 rfl rfl) (rm 1 rfl (Al (ccI h rfl (fun h => ?_) (fun h => ?_)))))))))
         ·refine csr (rm 1 rfl (Al (Bo (Ah ?_))))
          obtain rfl := SJ h
          exact dnT rfl rfl rfl rfl
         ·refine Be (Ab ?_)
          exact ⟨(), _, h, ⟨rfl, rfl, trivial⟩, rfl⟩
def Km (a0 : Cb) (b1 : Unit) : Option Bool :=
 some (decide ((a0.Ops.length : Int) ≤ 24))
def Ik (a0 : Cb) (s2 : Int) : Option (LR (Int) (Unit) (Bool)) :=
 if (decide (s2 < (a0.Ops.length : Int))) then ((idx a0.Ops s2).bind fun u3 => (N7 u3 a0.RO).bind fun v4 => if (!v4) then (some (.ret false)) else (some (.cont (wI (s2 + 1))))) else (some (.brk ()))
def Hd (a0 : Cb) : Option Bool :=
 (Fc (Ik a0) fuel 0).bind fun x => match x with | .inl r => some r | .inr e5 => Km a0 e5
theorem O4 {a0 : Cb} {r : Bool} (h : Hd a0 = some r) : Bz Tryz.prog 38 [.agg (EL.el a0)] (· = .s (.one (.b r))) := by
 unfold Hd at h
 refine A8 Tryz.func38 rfl (nt := 24) rfl (Nbl rfl) ?_
 intro w0 S0
 refine csr (Kp rfl rfl (rm 1 rfl (Al (Bp (csr (rm 1 rfl (Al (C4 (Unit) (fun b1 => [(1, .s (.one (.lp 0 0)))]) (fun b1 => [.box (EL.el a0)]) (fun b1 => Km a0 b1 = some r) (fun _ _ => Az rfl) (fun _ _ => Ak rfl) (fun _ _ => Nbl rfl) (fun b1 h => ?_) ?_))))))))
 ·unfold Km at h
  refine csr (fl Oa Ab5 rfl rfl rfl rfl rfl rfl (sv rfl (An Abz rfl) (sv rfl (Eb rfl rfl) (rm 1 rfl (Al (Bo ?_))))))
  obtain rfl := SJ h
  exact dnT rfl rfl rfl rfl
 ·skip
  refine Bf ?_
  obtain ⟨x2, hx2, ho2⟩ := Ag h
  refine Bs (G := Nat × (Int)) (fun g => [(1, .s (.one (.lp 0 0))), (3, .s (.one (Ii6 g.2)))]) (fun g => [.box (EL.el a0)]) (fun g => Fc (Ik a0) g.1 g.2 = some x2) (fun g => g.1) (fuel, 0) hx2 ⟨rfl, rfl, trivial⟩ [] rfl (fun _ _ => Az rfl) (fun _ _ => Ak rfl) (fun _ _ => Nbl rfl) ?_
  clear hx2 h
  rintro ⟨n2, s2⟩ h
  obtain ⟨n2, y2, rfl, h, hk2⟩ := Dc h
  unfold Ik at h
  refine Bp (csr (rm 1 rfl (fl Oa Ab5 rfl rfl rfl rfl rfl rfl (sv rfl (An Abz rfl) (sv rfl (Bi rfl rfl) (Al (ccI h rfl (fun h => ?_) (fun h => ?_))))))))
  ·refine Be (Ab (Bp (Bf (Bp ?_))))
   refine Qc mixed (by kernel_rfl) ?_
   refine dv rfl (Aa Oa rfl) (dv rfl (Ae Ab5 rfl (.lp _ _ _ rfl) rfl) (dv rfl (A3 rfl) ?_))
   obtain ⟨u3, hu3, h⟩ := Ag h
   refine dv rfl (Bw (f := Md) Abz (fun _ => rfl) rfl rfl rfl rfl hu3) ?_
   refine dv rfl (Bq (ys := [Ii6 u3.What, Ii6 u3.A, Ii6 u3.B, Ii6 u3.N, .sl u3.Key.length (u3.Key.flatMap eU8), .sl u3.Rng.Lo.length (u3.Rng.Lo.flatMap eU8), .sl u3.Rng.Hi.length (u3.Rng.Hi.flatMap eU8), .b u3.Rng.Open]) Aoj rfl (.cp _) rfl rfl) (dv rfl (Aa Aji rfl) (dv rfl (Ae ti4 rfl (.lp _ _ _ rfl) rfl) ?_))
   obtain ⟨v4, hv4, h⟩ := Ag h
   refine dd rfl (C1 Asx (Ad rfl (Ad rfl Aj)) rfl (Yj hv4)) (dv rfl (B1 rfl) (Py (Ab (ccI h rfl (fun h => ?_) (fun h => ?_)))))
   ·refine csr (rm 1 rfl (Al (Bo (Ao (Ah (Ah (Ao (Ah ?_))))))))
    obtain rfl := SJ h
    obtain rfl : Sum.inl _ = x2 := hk2
    replace ho2 : some _ = some _ := ho2
    obtain rfl := Option.some.inj ho2
    exact dnT rfl rfl rfl rfl
   ·refine Be (Am (Ab (Ax (rm 1 rfl (sv rfl (Bj rfl rfl) (rm 1 rfl (Al ?_)))))))
    obtain rfl := SJ h
    exact ⟨(n2, (wI (s2 + 1))), _, hk2, ⟨rfl, rfl, trivial⟩, rfl, Nat.lt_succ_self _⟩
  ·refine Dp (Aq (Aq (Bd (Ab ?_))))
   obtain rfl := SJ h
   obtain rfl : _ = x2 := hk2
   exact ⟨(), _, ho2, ⟨rfl, trivial⟩, rfl⟩
def Mx (b1 : Unit) : Option Bool :=
 some true
def Ip (a0 : List Aw) (s2 : Int) : Option (LR (Int) (Unit) (Bool)) :=
 if (decide (s2 < (a0.length : Int))) then ((idx a0 (wI (s2 - 1))).bind fun u3 => (idx a0 s2).bind fun u4 => (Gp u3.Key u4.Key).bind fun v5 => if (decide (0 ≤ v5)) then (some (.ret false)) else (some (.cont (wI (s2 + 1))))) else (some (.brk ()))
def Jp (a0 : List Aw) : Option Bool :=
 (Fc (Ip a0) fuel 1).bind fun x => match x with | .inl r => some r | .inr e6 => Mx e6
theorem Qj {a0 : List Aw} {r : Bool} (h : Jp a0 = some r) : Bz Tryz.prog 39 [.one (.sl a0.length (a0.flatMap A2))] (· = .s (.one (.b r))) := by
 unfold Jp at h
 refine A8 Tryz.func39 rfl (nt := 23) rfl (Nbl rfl) ?_
 intro w0 S0
 refine csr (rm 1 rfl (Al (Bp (csr (rm 1 rfl (Al (C4 (Unit) (fun b1 => []) (fun b1 => []) (fun b1 => Mx b1 = some r) (fun _ _ => Az rfl) (fun _ _ => Ak rfl) (fun _ _ => Nbl rfl) (fun b1 h => ?_) ?_)))))))
 ·unfold Mx at h
  refine csr (rm 1 rfl (Al (Bo ?_)))
  obtain rfl := SJ h
  exact dnT rfl rfl rfl rfl
 ·skip
  refine Bf ?_
  obtain ⟨x2, hx2, ho2⟩ := Ag h
  refine Bs (G := Nat × (Int)) (fun g => [(0, .s (.one (.sl a0.length (a0.flatMap A2)))), (3, .s (.one (Ii6 g.2)))]) (fun g => []) (fun g => Fc (Ip a0) g.1 g.2 = some x2) (fun g => g.1) (fuel, 1) hx2 ⟨rfl, rfl, trivial⟩ [] rfl (fun _ _ => Az rfl) (fun _ _ => Ak rfl) (fun _ _ => Nbl rfl) ?_
  clear hx2 h
  rintro ⟨n2, s2⟩ h
  obtain ⟨n2, y2, rfl, h, hk2⟩ := Dc h
  unfold Ip at h
  refine Bp (csr (rm 2 rfl (sv rfl (An P8 rfl) (sv rfl (Bi rfl rfl) (Al (ccI h rfl (fun h => ?_) (fun h => ?_)))))))
  ·refine Be (Ab (Bp (Bf (Bp ?_))))
   refine Qc mixed (by kernel_rfl) ?_
   refine dv rfl (A3 rfl) (dv rfl (A3 rfl) (dv rfl (Qi rfl rfl) ?_))
   obtain ⟨u3, hu3, h⟩ := Ag h
   refine dv rfl (Bw (f := A2) P8 (fun _ => rfl) rfl rfl rfl rfl hu3) ?_
   refine dv rfl (A6 Ql rfl) (dv rfl (Ae E6 rfl (.cp _) rfl) (dv rfl (A3 rfl) (dv rfl (A3 rfl) ?_)))
   obtain ⟨u4, hu4, h⟩ := Ag h
   refine dv rfl (Bw (f := A2) P8 (fun _ => rfl) rfl rfl rfl rfl hu4) ?_
   refine dv rfl (A6 Ql rfl) (dv rfl (Ae E6 rfl (.cp _) rfl) ?_)
   obtain ⟨v5, hv5, h⟩ := Ag h
   refine dd rfl (C1 Akj (Ad rfl (Ad rfl Aj)) rfl (I3 hv5)) (dv rfl (G6 rfl rfl) (Py (Ab (ccI h rfl (fun h => ?_) (fun h => ?_)))))
   ·refine csr (rm 1 rfl (Al (Bo (Ao (Ah (Ah (Ao (Ah ?_))))))))
    obtain rfl := SJ h
    obtain rfl : Sum.inl _ = x2 := hk2
    replace ho2 : some _ = some _ := ho2
    obtain rfl := Option.some.inj ho2
    exact dnT rfl rfl rfl rfl
   ·refine Be (Am (Ab (Ax (rm 1 rfl (sv rfl (Bj rfl rfl) (rm 1 rfl (Al ?_)))))))
    obtain rfl := SJ h
    exact ⟨(n2, (wI (s2 + 1))), _, hk2, ⟨rfl, rfl, trivial⟩, rfl, Nat.lt_succ_self _⟩
  ·refine Dp (Aq (Aq (Bd (Ab ?_))))
   obtain rfl := SJ h
   obtain rfl : _ = x2 := hk2
   exact ⟨(), _, ho2, trivial, rfl⟩
def Oe (a0 : Int) : Option (List UInt8) :=
 some [(UInt8.ofBitVec (((BitVec.ofInt 64 a0) % (4294967296#64)).setWidth 8)), (UInt8.ofBitVec ((((BitVec.ofInt 64 a0) % (4294967296#64)) / (256#64)).setWidth 8)), (UInt8.ofBitVec ((((BitVec.ofInt 64 a0) % (4294967296#64)) / (65536#64)).setWidth 8)), (UInt8.ofBitVec ((((BitVec.ofInt 64 a0) % (4294967296#64)) / (16777216#64)).setWidth 8))]
theorem Yg {a0 : Int} {r : (List UInt8)} (h : Oe a0 = some r) : Bz Tryz.prog 75 [.one (Ii6 a0)] (· = .s (.one (.sl r.length (r.flatMap eU8)))) := by
 unfold Oe at h
 refine A8 Tryz.func75 rfl (nt := 19) rfl (Nbl rfl) ?_
 intro w0 S0
 refine csr (rm 1 rfl (Al (csr (rm 1 rfl (sv rfl (On rfl Tryz.underlying3 Tryz.underlying165 rfl) ?_)))))
 refine sv rfl (Wk (a := (BitVec.ofInt 64 a0)) (b := 4294967296#64) rfl rfl rfl rfl (by decide)) ?_
 refine rm 1 rfl (Al (csr (rm 1 rfl (sv rfl (M2 (k := .u64) (a := ((BitVec.ofInt 64 a0) % (4294967296#64))) rfl Tryz.underlying165 Tryz.underlying5 rfl rfl) (sv rfl (A3 rfl) ?_)))))
 refine sv rfl (S9 (a := ((BitVec.ofInt 64 a0) % (4294967296#64))) (b := 256#64) rfl rfl rfl rfl (by decide)) ?_
 refine sv rfl (M2 (k := .u64) (a := (((BitVec.ofInt 64 a0) % (4294967296#64)) / (256#64))) rfl Tryz.underlying165 Tryz.underlying5 rfl rfl) (sv rfl (A3 rfl) ?_)
 refine sv rfl (S9 (a := ((BitVec.ofInt 64 a0) % (4294967296#64))) (b := 65536#64) rfl rfl rfl rfl (by decide)) ?_
 refine sv rfl (M2 (k := .u64) (a := (((BitVec.ofInt 64 a0) % (4294967296#64)) / (65536#64))) rfl Tryz.underlying165 Tryz.underlying5 rfl rfl) (sv rfl (A3 rfl) ?_)
 refine sv rfl (S9 (a := ((BitVec.ofInt 64 a0) % (4294967296#64))) (b := 16777216#64) rfl rfl rfl rfl (by decide)) ?_
 refine sv rfl (M2 (k := .u64) (a := (((BitVec.ofInt 64 a0) % (4294967296#64)) / (16777216#64))) rfl Tryz.underlying165 Tryz.underlying5 rfl rfl) ?_
 refine W6 (out := ([(UInt8.ofBitVec (((BitVec.ofInt 64 a0) % (4294967296#64)).setWidth 8)), (UInt8.ofBitVec ((((BitVec.ofInt 64 a0) % (4294967296#64)) / (256#64)).setWidth 8)), (UInt8.ofBitVec ((((BitVec.ofInt 64 a0) % (4294967296#64)) / (65536#64)).setWidth 8)), (UInt8.ofBitVec ((((BitVec.ofInt 64 a0) % (4294967296#64)) / (16777216#64)).setWidth 8))] : List UInt8).flatMap eU8) rfl Tryz.underlying46 ei5 (A1 rfl (A1 rfl (A1 rfl (A1 rfl Ba)))) (.cons _ _ _ _ _ _ _ rfl rfl (Nbl rfl) (.cons _ _ _ _ _ _ _ rfl rfl (Nbl rfl) (.cons _ _ _ _ _ _ _ rfl rfl (Nbl rfl) (.cons _ _ _ _ _ _ _ rfl rfl (Nbl rfl) (.nil _))))) rfl (by decide) ?_
 refine rm 1 rfl (Al (Bo ?_))
 obtain rfl := SJ h
 refine ⟨Or.inr rfl, _, _, _, (Ai (B9.tmp _ _ rfl) Au), (by (repeat' first | exact Ga.nil _ | apply Ga.cons | apply F5.one | apply F5.agg | exact Ci.nil | exact Ci.ls _ _ _ _ _ _ rfl (Ay (f := eU8) (fun _ => rfl) ([(UInt8.ofBitVec (((BitVec.ofInt 64 a0) % (4294967296#64)).setWidth 8)), (UInt8.ofBitVec ((((BitVec.ofInt 64 a0) % (4294967296#64)) / (256#64)).setWidth 8)), (UInt8.ofBitVec ((((BitVec.ofInt 64 a0) % (4294967296#64)) / (65536#64)).setWidth 8)), (UInt8.ofBitVec ((((BitVec.ofInt 64 a0) % (4294967296#64)) / (16777216#64)).setWidth 8))] : List UInt8)).symm | exact Ci.ls _ _ _ _ _ _ rfl (Ay (f := eU8) (fun _ => rfl) _).symm | exact Ci.id _ rfl | exact Cg.nil _ | apply Cg.cons)), ?_⟩
 rfl
def I9 (a0 : Int) : Option Int :=
 some (wI (((BitVec.ofInt 64 a0) % (4294967296#64)).toNat : Int))
theorem Q8 {a0 : Int} {r : Int} (h : I9 a0 = some r) : Bz Tryz.prog 76 [.one (Ii6 a0)] (· = .s (.one (Ii6 r))) := by
 unfold I9 at h
 refine A8 Tryz.func76 rfl (nt := 7) rfl (Nbl rfl) ?_
 intro w0 S0
 refine csr (rm 1 rfl (Al (csr (rm 1 rfl (sv rfl (On rfl Tryz.underlying3 Tryz.underlying165 rfl) ?_)))))
 refine sv rfl (Wk (a := (BitVec.ofInt 64 a0)) (b := 4294967296#64) rfl rfl rfl rfl (by decide)) ?_
 refine sv rfl (Lx Tryz.underlying165 Tryz.underlying3 rfl) (rm 1 rfl (Al (Bo ?_)))
 obtain rfl := SJ h
 exact dnT rfl rfl rfl rfl
def J6 (a0 : Cb) (b2 : A7) : Option (Ej × A7 × Bool) :=
 some (Yp, (A7.mk (if (a0.Ops.length : Int) < b2.PC then (a0.Ops.length : Int) else b2.PC) b2.Regs b2.Stopped), false)
def Eo (b6 : A7) : Option (LR (A7) (A7) (Ej × A7 × Bool)) :=
 some (.cont (A7.mk (wI (b6.PC + 1)) b6.Regs b6.Stopped))
def L5 (a0 : Cb) (s3 : A7) (b4 : Unit) : Option (LR (A7) (A7) (Ej × A7 × Bool)) :=
 (idx a0.Ops s3.PC).bind fun u5 => if (decide (u5.What = 1)) then (some (.ret ((Ej.mk 3 0 0 0 false u5.Key ([] : List UInt8) Nv), s3, true))) else (if (decide (u5.What = 2)) then (if 0 ≤ u5.B ∧ u5.B < ((8 : Nat) : Int) then ((idx [s3.Regs.R0, s3.Regs.R1, s3.Regs.R2, s3.Regs.R3, s3.Regs.R4, s3.Regs.R5, s3.Regs.R6, s3.Regs.R7] u5.B).bind fun u8 => (Oe u8).bind fun v9 => some (.ret ((Ej.mk 4 0 0 0 false u5.Key v9 Nv), s3, true))) else none) else (if (decide (u5.What = 3)) then (some (.ret ((Ej.mk 5 0 0 0 false u5.Key ([] : List UInt8) Nv), s3, true))) else (if (decide (u5.What = 4)) then (some (.ret ((Ej.mk 6 0 0 0 false ([] : List UInt8) ([] : List UInt8) u5.Rng), s3, true))) else (if (decide (u5.What = 5)) then (if 0 ≤ u5.A ∧ u5.A < ((8 : Nat) : Int) then ((Ck (C2.mk s3.Regs.R0 s3.Regs.R1 s3.Regs.R2 s3.Regs.R3 s3.Regs.R4 s3.Regs.R5 s3.Regs.R6 s3.Regs.R7) u5.A u5.N).bind fun q11 => Eo (A7.mk s3.PC q11 s3.Stopped)) else none) else (if (decide (u5.What = 6)) then (if 0 ≤ u5.A ∧ u5.A < ((8 : Nat) : Int) then ((idx [s3.Regs.R0, s3.Regs.R1, s3.Regs.R2, s3.Regs.R3, s3.Regs.R4, s3.Regs.R5, s3.Regs.R6, s3.Regs.R7] u5.A).bind fun u13 => if 0 ≤ u5.B ∧ u5.B < ((8 : Nat) : Int) then ((idx [s3.Regs.R0, s3.Regs.R1, s3.Regs.R2, s3.Regs.R3, s3.Regs.R4, s3.Regs.R5, s3.Regs.R6, s3.Regs.R7] u5.B).bind fun u15 => (I9 (wI ((wI (u13 + u15)) + u5.N))).bind fun v16 => if 0 ≤ u5.A ∧ u5.A < ((8 : Nat) : Int) then ((Ck (C2.mk s3.Regs.R0 s3.Regs.R1 s3.Regs.R2 s3.Regs.R3 s3.Regs.R4 s3.Regs.R5 s3.Regs.R6 s3.Regs.R7) u5.A v16).bind fun q18 => Eo (A7.mk s3.PC q18 s3.Stopped)) else none) else none) else none) else (if (decide (u5.What = 7)) then (if 0 ≤ u5.A ∧ u5.A < ((8 : Nat) : Int) then ((idx [s3.Regs.R0, s3.Regs.R1, s3.Regs.R2, s3.Regs.R3, s3.Regs.R4, s3.Regs.R5, s3.Regs.R6, s3.Regs.R7] u5.A).bind fun u20 => if (decide (u20 = 0)) then (Eo (A7.mk (wI (s3.PC + u5.N)) s3.Regs s3.Stopped)) else (Eo s3)) else none) else (if (decide (u5.What = 8)) then (Eo (A7.mk s3.PC s3.Regs true)) else (Eo s3))))))))
def Ic (a0 : Cb) (s3 : A7) : Option (LR (A7) (A7) (Ej × A7 × Bool)) :=
 if (decide (s3.PC < (a0.Ops.length : Int))) then (if (!s3.Stopped) then (L5 a0 s3 ()) else (some (.brk s3))) else (some (.brk s3))
def Me (a0 : Cb) (a1 : A7) (b1 : Unit) : Option (Ej × A7 × Bool) :=
 (Fc (Ic a0) fuel a1).bind fun x => match x with | .inl r => some r | .inr e21 => J6 a0 e21
def Ke (a0 : Cb) (a1 : A7) : Option (Ej × A7 × Bool) :=
 (Hd a0).bind fun v22 => if (!v22) then (some (Yp, a1, false)) else (if (decide (a1.PC < 0)) then (some (Yp, a1, false)) else (Me a0 a1 ()))
theorem Xf {a0 : Cb} {a1 : A7} {r : Ej × A7 × Bool} (h : Ke a0 a1 = some r) : Bz Tryz.prog 40 [.agg (EL.el a0), .agg (EL.el a1)] (· = .tup [.agg (EL.el r.1), .agg (EL.el r.2.1), .one (.b r.2.2)]) := by
 unfold Ke at h
 refine A8 Tryz.func40 rfl (nt := 126) rfl (Nbl rfl) ?_
 intro w0 S0
 refine csr (Kp rfl rfl (Kp rfl rfl (Ce rfl Yt (Ce rfl Abw (rm 1 rfl (Al (Bp (Bp (I0 (Unit) (fun b1 => [(2, .s (.one (.lp 0 0))), (3, .s (.one (.lp 1 0))), (4, .s (.one (.lp 2 0))), (5, .s (.one (.lp 3 0)))]) (fun b1 => [.box (EL.el a0), .box (EL.el a1), .box Zbb, .box Zba]) (fun b1 => Me a0 a1 b1 = some r) (fun _ _ => Az rfl) (fun _ _ => Ak rfl) (fun _ _ => Nbl rfl) (fun b1 h => ?_) ?_)))))))))
 ·unfold Me at h
  refine Bp (C4 (A7) (fun b2 => [(2, .s (.one (.lp 0 0))), (3, .s (.one (.lp 1 0))), (4, .s (.one (.lp 2 0))), (5, .s (.one (.lp 3 0)))]) (fun b2 => [.box (EL.el a0), .box (EL.el b2), .box Zbb, .box Zba]) (fun b2 => J6 a0 b2 = some r) (fun _ _ => Az rfl) (fun _ _ => Ak rfl) (fun _ _ => Nbl rfl) (fun b2 h => ?_) ?_)
  ·unfold J6 at h
   refine csr (fl N2 ti3 rfl rfl rfl rfl rfl rfl (fl Oa Ab5 rfl rfl rfl rfl rfl rfl (sv rfl (An Abz rfl) (sv rfl (Vz rfl rfl) (sv rfl (Aa N2 rfl) (A9 sz3 rfl rfl rfl rfl (Nbl rfl) (Cc [.box (EL.el a0), .box (EL.el {b2 with PC := if (a0.Ops.length : Int) < b2.PC then (a0.Ops.length : Int) else b2.PC}), .box Zbb, .box Zba] rfl (Al (Bp ?_)))))))))
   refine Ei [2, 3] [0, 0, 1, 7, 15] [[.box (EL.el a0), .box (EL.el {b2 with PC := if (a0.Ops.length : Int) < b2.PC then (a0.Ops.length : Int) else b2.PC}), .box Zbb, .box Zba], [.box (EL.el a0), .box (EL.el {b2 with PC := if (a0.Ops.length : Int) < b2.PC then (a0.Ops.length : Int) else b2.PC}), .box Zbb, .box Zba], [.box (EL.el a0), .box (EL.el {b2 with PC := if (a0.Ops.length : Int) < b2.PC then (a0.Ops.length : Int) else b2.PC}), .box Zbb, .box (EL.el {b2 with PC := if (a0.Ops.length : Int) < b2.PC then (a0.Ops.length : Int) else b2.PC})]] (by kernel_rfl) mixed (by kernel_rfl) (by decide) rfl rfl rfl rfl ?_
   refine ev (Av 0 rfl rfl) rfl rfl (Bl Yt Acf Ba (.nil _)) (ev (D9 (md := [.box (EL.el a0), .box (EL.el {b2 with PC := if (a0.Ops.length : Int) < b2.PC then (a0.Ops.length : Int) else b2.PC}), .box Zbb, .dead]) ⟨⟨rfl, ⟨rfl, ⟨rfl, ⟨trivial, trivial⟩⟩⟩⟩, ⟨⟨rfl, ⟨rfl, ⟨rfl, ⟨trivial, trivial⟩⟩⟩⟩, ⟨⟨rfl, ⟨rfl, ⟨rfl, ⟨trivial, trivial⟩⟩⟩⟩, trivial⟩⟩⟩) rfl rfl (Ap Rz rfl (.lp _ _ _ rfl) (Nbl rfl)) (ee0 0 rfl rfl rfl rfl (fun ζ => ?_) ?_))
   ·refine A9 Zp rfl rfl rfl rfl (Nbl rfl) (Cc [.box (EL.el a0), .box (EL.el {b2 with PC := if (a0.Ops.length : Int) < b2.PC then (a0.Ops.length : Int) else b2.PC}), .box Zbb, .box Zba] rfl ?_)
    exact Ol
   refine ee0 1 rfl rfl rfl rfl (fun ζ => ?_) ?_
   ·refine A9 V0 rfl rfl rfl rfl (Nbl rfl) (Cc [.box (EL.el a0), .box (EL.el {b2 with PC := if (a0.Ops.length : Int) < b2.PC then (a0.Ops.length : Int) else b2.PC}), .box Zbb, .box (EL.el {b2 with PC := if (a0.Ops.length : Int) < b2.PC then (a0.Ops.length : Int) else b2.PC})] rfl ?_)
    exact Ol
   refine ev (Av 2 rfl rfl) rfl rfl (E8 rfl) (Tb (Ab (Bo ?_)))
   obtain rfl := SJ h
   refine ⟨Or.inr rfl, _, _, _, (Ai (B9.agg _ _ _ _ _ Aa4 rfl (.lp _ _ _ rfl) (Nbl rfl)) (Ai (B9.agg _ _ _ _ _ Rz rfl (.lp _ _ _ rfl) (Nbl rfl)) (Ai (B9.tmp _ _ rfl) Au))), (Sj rfl), ?_⟩
   rfl
  ·skip
   refine Bf ?_
   obtain ⟨x3, hx3, ho3⟩ := Ag h
   refine Bs (G := Nat × (A7)) (fun g => [(2, .s (.one (.lp 0 0))), (3, .s (.one (.lp 1 0))), (4, .s (.one (.lp 2 0))), (5, .s (.one (.lp 3 0)))]) (fun g => [.box (EL.el a0), .box (EL.el g.2), .box Zbb, .box Zba]) (fun g => Fc (Ic a0) g.1 g.2 = some x3) (fun g => g.1) (fuel, a1) hx3 ⟨rfl, rfl, rfl, rfl, trivial⟩ [] rfl (fun _ _ => Az rfl) (fun _ _ => Ak rfl) (fun _ _ => Nbl rfl) ?_
   clear hx3 h
   rintro ⟨n3, s3⟩ h
   obtain ⟨n3, y3, rfl, h, hk3⟩ := Dc h
   unfold Ic at h
   refine Bp (Bp (I0 (Unit) (fun b4 => [(2, .s (.one (.lp 0 0))), (3, .s (.one (.lp 1 0))), (4, .s (.one (.lp 2 0))), (5, .s (.one (.lp 3 0)))]) (fun b4 => [.box (EL.el a0), .box (EL.el s3), .box Zbb, .box Zba]) (fun b4 => L5 a0 s3 b4 = some y3) (fun _ _ => Az rfl) (fun _ _ => Ak rfl) (fun _ _ => Nbl rfl) (fun b4 h => ?_) ?_))
   ·unfold L5 at h
    refine Bf (csr (fl Oa Ab5 rfl rfl rfl rfl rfl rfl (sv rfl (Aa N2 rfl) (sv rfl (Ae ti3 rfl (.lp _ _ _ rfl) rfl) ?_))))
    obtain ⟨u5, hu5, h⟩ := Ag h
    refine sv rfl (Bw (f := Md) Abz (fun _ => rfl) rfl rfl rfl rfl hu5) ?_
    refine sv rfl (Bq (ys := [Ii6 u5.What, Ii6 u5.A, Ii6 u5.B, Ii6 u5.N, .sl u5.Key.length (u5.Key.flatMap eU8), .sl u5.Rng.Lo.length (u5.Rng.Lo.flatMap eU8), .sl u5.Rng.Hi.length (u5.Rng.Hi.flatMap eU8), .b u5.Rng.Open]) Aoj rfl (.cp _) rfl rfl) (Ce rfl Apu (A9 Aqg rfl rfl rfl rfl (Nbl rfl) (Cc [.box (EL.el a0), .box (EL.el s3), .box Zbb, .box Zba, .box (EL.el u5)] rfl (Al (Bp (csr (fl Gv ti3 rfl rfl rfl rfl rfl rfl (Al (C4 (A7) (fun b6 => [(2, .s (.one (.lp 0 0))), (3, .s (.one (.lp 1 0))), (4, .s (.one (.lp 2 0))), (5, .s (.one (.lp 3 0)))]) (fun b6 => [.box (EL.el a0), .box (EL.el b6), .box Zbb, .box Zba, .box (EL.el u5)]) (fun b6 => Eo b6 = some y3) (fun _ _ => Az rfl) (fun _ _ => Ak rfl) (fun _ _ => Nbl rfl) (fun b6 h => ?_) ?_)))))))))
    ·unfold Eo at h
     refine Ax (fl N2 ti3 rfl rfl rfl rfl rfl rfl (sv rfl (Bj rfl rfl) (sv rfl (Aa N2 rfl) (A9 sz3 rfl rfl rfl rfl (Nbl rfl) (Cc [.box (EL.el a0), .box (EL.el {b6 with PC := wI (b6.PC + 1)}), .box Zbb, .box Zba, .box (EL.el u5)] rfl (Hy (Am (Ab ?_))))))))
     obtain rfl := SJ h
     exact ⟨(n3, (A7.mk (wI (b6.PC + 1)) b6.Regs b6.Stopped)), _, hk3, ⟨rfl, rfl, rfl, rfl, trivial⟩, rfl, Nat.lt_succ_self _⟩
    ·skip
     refine Bf (csr (sv rfl (Bg rfl rfl) (rm 1 rfl (Al (ccI h rfl (fun h => ?_) (fun h => ?_))))))
     ·refine Bp ?_
      refine Ei [4, 5] [0, 1, 3, 0, 7, 31, 63] [[.box (EL.el a0), .box (EL.el s3), .box Zbb, .box Zba, .box (EL.el u5)], [.box (EL.el a0), .box (EL.el s3), .box [Ii6 3, Ii6 0, Ii6 0, Ii6 0, .b false, .sl u5.Key.length (u5.Key.flatMap eU8), Znl, Znl, Znl, .b false], .box Zba, .box (EL.el u5)], [.box (EL.el a0), .box (EL.el s3), .box [Ii6 3, Ii6 0, Ii6 0, Ii6 0, .b false, .sl u5.Key.length (u5.Key.flatMap eU8), Znl, Znl, Znl, .b false], .box (EL.el s3), .box (EL.el u5)]] (by kernel_rfl) mixed (by kernel_rfl) (by decide) rfl rfl rfl rfl ?_
      refine ev (Av 0 rfl rfl) rfl rfl (Aa U2 rfl) (ev (Av 0 rfl rfl) rfl rfl (Ae E6 rfl (.lp _ _ _ rfl) rfl) (ev (Av 0 rfl rfl) rfl rfl (Bl Yt Acf (A1 rfl (A1 rfl Ba)) (.cons _ _ _ _ _ _ _ rfl rfl (Nbl rfl) (.cons _ _ _ _ _ _ _ rfl rfl (Nbl rfl) (.nil _)))) (ev (D9 (md := [.box (EL.el a0), .box (EL.el s3), .dead, .dead, .box (EL.el u5)]) ⟨⟨rfl, ⟨rfl, ⟨trivial, ⟨trivial, ⟨rfl, trivial⟩⟩⟩⟩⟩, ⟨⟨rfl, ⟨rfl, ⟨trivial, ⟨trivial, ⟨rfl, trivial⟩⟩⟩⟩⟩, ⟨⟨rfl, ⟨rfl, ⟨trivial, ⟨trivial, ⟨rfl, trivial⟩⟩⟩⟩⟩, trivial⟩⟩⟩) rfl rfl (Ap Rz rfl (.lp _ _ _ rfl) (Nbl rfl)) (ee0 0 rfl rfl rfl rfl (fun ζ => ?_) ?_))))
      ·refine A9 Zp rfl rfl rfl rfl (Nbl rfl) (Cc [.box (EL.el a0), .box (EL.el s3), .box [Ii6 3, Ii6 0, Ii6 0, Ii6 0, .b false, .sl u5.Key.length (u5.Key.flatMap eU8), Znl, Znl, Znl, .b false], .box Zba, .box (EL.el u5)] rfl ?_)
       exact Ol
      refine ee0 1 rfl rfl rfl rfl (fun ζ => ?_) ?_
      ·refine A9 V0 rfl rfl rfl rfl (Nbl rfl) (Cc [.box (EL.el a0), .box (EL.el s3), .box [Ii6 3, Ii6 0, Ii6 0, Ii6 0, .b false, .sl u5.Key.length (u5.Key.flatMap eU8), Znl, Znl, Znl, .b false], .box (EL.el s3), .box (EL.el u5)] rfl ?_)
       exact Ol
      refine ev (Av 2 rfl rfl) rfl rfl (E8 rfl) (Tb (Ab (Bo (Ao (Ah (Ao (Ah (Ao (Ah ?_)))))))))
      obtain rfl := SJ h
      obtain rfl : Sum.inl _ = x3 := hk3
      replace ho3 : some _ = some _ := ho3
      obtain rfl := Option.some.inj ho3
      refine ⟨Or.inr rfl, _, _, _, (Ai (B9.agg _ _ _ _ _ Aa4 rfl (.lp _ _ _ rfl) (Nbl rfl)) (Ai (B9.agg _ _ _ _ _ Rz rfl (.lp _ _ _ rfl) (Nbl rfl)) (Ai (B9.tmp _ _ rfl) Au))), (Sj rfl), ?_⟩
      rfl
     ·refine csr (sv rfl (Bg rfl rfl) (rm 1 rfl (Al (ccI h rfl (fun h => ?_) (fun h => ?_)))))
      ·refine Bp ?_
       obtain ⟨hj7, h⟩ := Cl h
       obtain ⟨u8, hu8, h⟩ := Ag h
       obtain ⟨v9, hv9, h⟩ := Ag h
       refine Ei [10, 11] [0, 1, 0, 4, 0, 28, 60, 124, 255, 0, 511, 2047, 4095] [[.box (EL.el a0), .box (EL.el s3), .box Zbb, .box Zba, .box (EL.el u5)], [.box (EL.el a0), .box (EL.el s3), .box [Ii6 4, Ii6 0, Ii6 0, Ii6 0, .b false, .sl u5.Key.length (u5.Key.flatMap eU8), .sl v9.length (v9.flatMap eU8), Znl, Znl, .b false], .box Zba, .box (EL.el u5)], [.box (EL.el a0), .box (EL.el s3), .box [Ii6 4, Ii6 0, Ii6 0, Ii6 0, .b false, .sl u5.Key.length (u5.Key.flatMap eU8), .sl v9.length (v9.flatMap eU8), Znl, Znl, .b false], .box (EL.el s3), .box (EL.el u5)]] (by kernel_rfl) mixed (by kernel_rfl) (by decide) rfl rfl rfl rfl ?_
       refine ev (Av 0 rfl rfl) rfl rfl (Aa U2 rfl) (ev (Av 0 rfl rfl) rfl rfl (Ae E6 rfl (.lp _ _ _ rfl) rfl) (ev (Av 0 rfl rfl) rfl rfl (Aa U0 rfl) (ev (Av 0 rfl rfl) rfl rfl (Ae ti3 rfl (.lp _ _ _ rfl) rfl) (ev (Av 0 rfl rfl) rfl rfl (Aa Pb rfl) (ev (Av 0 rfl rfl) rfl rfl (Eh Vt rfl rfl hj7) (ev (Av 0 rfl rfl) rfl rfl (Ou (fun x => Ii6 x) [.b s3.Stopped] ti3 rfl rfl rfl hu8) ?_))))))
       refine ed (Av 0 rfl rfl) rfl rfl (C1 Ar6 (Ad rfl Aj) rfl (Yg hv9)) (ev (Av 0 rfl rfl) rfl rfl (Bl Yt Acf (A1 rfl (A1 rfl (A1 rfl Ba))) (.cons _ _ _ _ _ _ _ rfl rfl (Nbl rfl) (.cons _ _ _ _ _ _ _ rfl rfl (Nbl rfl) (.cons _ _ _ _ _ _ _ rfl rfl (Nbl rfl) (.nil _))))) (ev (D9 (md := [.box (EL.el a0), .box (EL.el s3), .dead, .dead, .box (EL.el u5)]) ⟨⟨rfl, ⟨rfl, ⟨trivial, ⟨trivial, ⟨rfl, trivial⟩⟩⟩⟩⟩, ⟨⟨rfl, ⟨rfl, ⟨trivial, ⟨trivial, ⟨rfl, trivial⟩⟩⟩⟩⟩, ⟨⟨rfl, ⟨rfl, ⟨trivial, ⟨trivial, ⟨rfl, trivial⟩⟩⟩⟩⟩, trivial⟩⟩⟩) rfl rfl (Ap Rz rfl (.lp _ _ _ rfl) (Nbl rfl)) (ee0 0 rfl rfl rfl rfl (fun ζ => ?_) ?_)))
       ·refine A9 Zp rfl rfl rfl rfl (Nbl rfl) (Cc [.box (EL.el a0), .box (EL.el s3), .box [Ii6 4, Ii6 0, Ii6 0, Ii6 0, .b false, .sl u5.Key.length (u5.Key.flatMap eU8), .sl v9.length (v9.flatMap eU8), Znl, Znl, .b false], .box Zba, .box (EL.el u5)] rfl ?_)
        exact Ol
       refine ee0 1 rfl rfl rfl rfl (fun ζ => ?_) ?_
       ·refine A9 V0 rfl rfl rfl rfl (Nbl rfl) (Cc [.box (EL.el a0), .box (EL.el s3), .box [Ii6 4, Ii6 0, Ii6 0, Ii6 0, .b false, .sl u5.Key.length (u5.Key.flatMap eU8), .sl v9.length (v9.flatMap eU8), Znl, Znl, .b false], .box (EL.el s3), .box (EL.el u5)] rfl ?_)
        exact Ol
       refine ev (Av 2 rfl rfl) rfl rfl (E8 rfl) (Tb (Ab (Bo (Ao (Ah (Ao (Ah (Ao (Ah ?_)))))))))
       obtain rfl := SJ h
       obtain rfl : Sum.inl _ = x3 := hk3
       replace ho3 : some _ = some _ := ho3
       obtain rfl := Option.some.inj ho3
       refine ⟨Or.inr rfl, _, _, _, (Ai (B9.agg _ _ _ _ _ Aa4 rfl (.lp _ _ _ rfl) (Nbl rfl)) (Ai (B9.agg _ _ _ _ _ Rz rfl (.lp _ _ _ rfl) (Nbl rfl)) (Ai (B9.tmp _ _ rfl) Au))), (Sj rfl), ?_⟩
       rfl
      ·refine csr (sv rfl (Bg rfl rfl) (rm 1 rfl (Al (ccI h rfl (fun h => ?_) (fun h => ?_)))))
       ·refine Bp ?_
        refine Ei [4, 5] [0, 1, 3, 0, 7, 31, 63] [[.box (EL.el a0), .box (EL.el s3), .box Zbb, .box Zba, .box (EL.el u5)], [.box (EL.el a0), .box (EL.el s3), .box [Ii6 5, Ii6 0, Ii6 0, Ii6 0, .b false, .sl u5.Key.length (u5.Key.flatMap eU8), Znl, Znl, Znl, .b false], .box Zba, .box (EL.el u5)], [.box (EL.el a0), .box (EL.el s3), .box [Ii6 5, Ii6 0, Ii6 0, Ii6 0, .b false, .sl u5.Key.length (u5.Key.flatMap eU8), Znl, Znl, Znl, .b false], .box (EL.el s3), .box (EL.el u5)]] (by kernel_rfl) mixed (by kernel_rfl) (by decide) rfl rfl rfl rfl ?_
        refine ev (Av 0 rfl rfl) rfl rfl (Aa U2 rfl) (ev (Av 0 rfl rfl) rfl rfl (Ae E6 rfl (.lp _ _ _ rfl) rfl) (ev (Av 0 rfl rfl) rfl rfl (Bl Yt Acf (A1 rfl (A1 rfl Ba)) (.cons _ _ _ _ _ _ _ rfl rfl (Nbl rfl) (.cons _ _ _ _ _ _ _ rfl rfl (Nbl rfl) (.nil _)))) (ev (D9 (md := [.box (EL.el a0), .box (EL.el s3), .dead, .dead, .box (EL.el u5)]) ⟨⟨rfl, ⟨rfl, ⟨trivial, ⟨trivial, ⟨rfl, trivial⟩⟩⟩⟩⟩, ⟨⟨rfl, ⟨rfl, ⟨trivial, ⟨trivial, ⟨rfl, trivial⟩⟩⟩⟩⟩, ⟨⟨rfl, ⟨rfl, ⟨trivial, ⟨trivial, ⟨rfl, trivial⟩⟩⟩⟩⟩, trivial⟩⟩⟩) rfl rfl (Ap Rz rfl (.lp _ _ _ rfl) (Nbl rfl)) (ee0 0 rfl rfl rfl rfl (fun ζ => ?_) ?_))))
        ·refine A9 Zp rfl rfl rfl rfl (Nbl rfl) (Cc [.box (EL.el a0), .box (EL.el s3), .box [Ii6 5, Ii6 0, Ii6 0, Ii6 0, .b false, .sl u5.Key.length (u5.Key.flatMap eU8), Znl, Znl, Znl, .b false], .box Zba, .box (EL.el u5)] rfl ?_)
         exact Ol
        refine ee0 1 rfl rfl rfl rfl (fun ζ => ?_) ?_
        ·refine A9 V0 rfl rfl rfl rfl (Nbl rfl) (Cc [.box (EL.el a0), .box (EL.el s3), .box [Ii6 5, Ii6 0, Ii6 0, Ii6 0, .b false, .sl u5.Key.length (u5.Key.flatMap eU8), Znl, Znl, Znl, .b false], .box (EL.el s3), .box (EL.el u5)] rfl ?_)
         exact Ol
        refine ev (Av 2 rfl rfl) rfl rfl (E8 rfl) (Tb (Ab (Bo (Ao (Ah (Ao (Ah (Ao (Ah ?_)))))))))
        obtain rfl := SJ h
        obtain rfl : Sum.inl _ = x3 := hk3
        replace ho3 : some _ = some _ := ho3
        obtain rfl := Option.some.inj ho3
        refine ⟨Or.inr rfl, _, _, _, (Ai (B9.agg _ _ _ _ _ Aa4 rfl (.lp _ _ _ rfl) (Nbl rfl)) (Ai (B9.agg _ _ _ _ _ Rz rfl (.lp _ _ _ rfl) (Nbl rfl)) (Ai (B9.tmp _ _ rfl) Au))), (Sj rfl), ?_⟩
        rfl
       ·refine csr (sv rfl (Bg rfl rfl) (rm 1 rfl (Al (ccI h rfl (fun h => ?_) (fun h => ?_)))))
        ·refine Bp ?_
         refine Ei [4, 5] [0, 1, 3, 0, 7, 31, 63] [[.box (EL.el a0), .box (EL.el s3), .box Zbb, .box Zba, .box (EL.el u5)], [.box (EL.el a0), .box (EL.el s3), .box [Ii6 6, Ii6 0, Ii6 0, Ii6 0, .b false, Znl, Znl, .sl u5.Rng.Lo.length (u5.Rng.Lo.flatMap eU8), .sl u5.Rng.Hi.length (u5.Rng.Hi.flatMap eU8), .b u5.Rng.Open], .box Zba, .box (EL.el u5)], [.box (EL.el a0), .box (EL.el s3), .box [Ii6 6, Ii6 0, Ii6 0, Ii6 0, .b false, Znl, Znl, .sl u5.Rng.Lo.length (u5.Rng.Lo.flatMap eU8), .sl u5.Rng.Hi.length (u5.Rng.Hi.flatMap eU8), .b u5.Rng.Open], .box (EL.el s3), .box (EL.el u5)]] (by kernel_rfl) mixed (by kernel_rfl) (by decide) rfl rfl rfl rfl ?_
         refine ev (Av 0 rfl rfl) rfl rfl (Aa Si rfl) (ev (Av 0 rfl rfl) rfl rfl (Ap Vd rfl (.lp _ _ _ rfl) (Nbl rfl)) (ev (Av 0 rfl rfl) rfl rfl (Bl Yt Acf (A1 rfl (A1 rfl Ba)) (.cons _ _ _ _ _ _ _ rfl rfl (Nbl rfl) (.cons _ _ _ _ _ _ _ rfl rfl (Nbl rfl) (.nil _)))) (ev (D9 (md := [.box (EL.el a0), .box (EL.el s3), .dead, .dead, .box (EL.el u5)]) ⟨⟨rfl, ⟨rfl, ⟨trivial, ⟨trivial, ⟨rfl, trivial⟩⟩⟩⟩⟩, ⟨⟨rfl, ⟨rfl, ⟨trivial, ⟨trivial, ⟨rfl, trivial⟩⟩⟩⟩⟩, ⟨⟨rfl, ⟨rfl, ⟨trivial, ⟨trivial, ⟨rfl, trivial⟩⟩⟩⟩⟩, trivial⟩⟩⟩) rfl rfl (Ap Rz rfl (.lp _ _ _ rfl) (Nbl rfl)) (ee0 0 rfl rfl rfl rfl (fun ζ => ?_) ?_))))
         ·refine A9 Zp rfl rfl rfl rfl (Nbl rfl) (Cc [.box (EL.el a0), .box (EL.el s3), .box [Ii6 6, Ii6 0, Ii6 0, Ii6 0, .b false, Znl, Znl, .sl u5.Rng.Lo.length (u5.Rng.Lo.flatMap eU8), .sl u5.Rng.Hi.length (u5.Rng.Hi.flatMap eU8), .b u5.Rng.Open], .box Zba, .box (EL.el u5)] rfl ?_)
          exact Ol
         refine ee0 1 rfl rfl rfl rfl (fun ζ => ?_) ?_
         ·refine A9 V0 rfl rfl rfl rfl (Nbl rfl) (Cc [.box (EL.el a0), .box (EL.el s3), .box [Ii6 6, Ii6 0, Ii6 0, Ii6 0, .b false, Znl, Znl, .sl u5.Rng.Lo.length (u5.Rng.Lo.flatMap eU8), .sl u5.Rng.Hi.length (u5.Rng.Hi.flatMap eU8), .b u5.Rng.Open], .box (EL.el s3), .box (EL.el u5)] rfl ?_)
          exact Ol
         refine ev (Av 2 rfl rfl) rfl rfl (E8 rfl) (Tb (Ab (Bo (Ao (Ah (Ao (Ah (Ao (Ah ?_)))))))))
         obtain rfl := SJ h
         obtain rfl : Sum.inl _ = x3 := hk3
         replace ho3 : some _ = some _ := ho3
         obtain rfl := Option.some.inj ho3
         refine ⟨Or.inr rfl, _, _, _, (Ai (B9.agg _ _ _ _ _ Aa4 rfl (.lp _ _ _ rfl) (Nbl rfl)) (Ai (B9.agg _ _ _ _ _ Rz rfl (.lp _ _ _ rfl) (Nbl rfl)) (Ai (B9.tmp _ _ rfl) Au))), (Sj rfl), ?_⟩
         rfl
        ·refine csr (sv rfl (Bg rfl rfl) (rm 1 rfl (Al (ccI h rfl (fun h => ?_) (fun h => ?_)))))
         ·refine Ax (fl R9 ti3 rfl rfl rfl rfl rfl rfl (fl Sl ti3 rfl rfl rfl rfl rfl rfl (sv rfl (Aa Pb rfl) ?_)))
          obtain ⟨hj10, h⟩ := Cl h
          refine sv rfl (Eh Vt rfl rfl hj10) ?_
          obtain ⟨q11, hq11, h⟩ := Ag h
          refine A9 sz3 rfl rfl rfl rfl (Ro hj10 (Nbl rfl)) (Cc [.box (EL.el a0), .box [Ii6 s3.PC, Ii6 q11.R0, Ii6 q11.R1, Ii6 q11.R2, Ii6 q11.R3, Ii6 q11.R4, Ii6 q11.R5, Ii6 q11.R6, Ii6 q11.R7, .b s3.Stopped], .box Zbb, .box Zba, .box (EL.el u5)] (K0 (Aa7 hq11 [Ii6 s3.PC] [.b s3.Stopped])) (Hy (Am (Ab ?_))))
          exact ⟨(A7.mk s3.PC q11 s3.Stopped), _, h, ⟨rfl, rfl, rfl, rfl, trivial⟩, rfl⟩
         ·refine csr (sv rfl (Bg rfl rfl) (rm 1 rfl (Al (ccI h rfl (fun h => ?_) (fun h => ?_)))))
          ·obtain ⟨hj12, h⟩ := Cl h
           obtain ⟨u13, hu13, h⟩ := Ag h
           obtain ⟨hj14, h⟩ := Cl h
           obtain ⟨u15, hu15, h⟩ := Ag h
           obtain ⟨v16, hv16, h⟩ := Ag h
           obtain ⟨hj17, h⟩ := Cl h
           obtain ⟨q18, hq18, h⟩ := Ag h
           refine Ei [19] [0, 1, 0, 4, 0, 28, 60, 0, 128, 0, 896, 1920, 4092, 0, 8192, 32764, 65532, 0, 262143, 524287] [[.box (EL.el a0), .box (EL.el s3), .box Zbb, .box Zba, .box (EL.el u5)], [.box (EL.el a0), .box [Ii6 s3.PC, Ii6 q18.R0, Ii6 q18.R1, Ii6 q18.R2, Ii6 q18.R3, Ii6 q18.R4, Ii6 q18.R5, Ii6 q18.R6, Ii6 q18.R7, .b s3.Stopped], .box Zbb, .box Zba, .box (EL.el u5)]] (by kernel_rfl) mixed (by kernel_rfl) (by decide) rfl rfl rfl rfl ?_
           refine ev (Av 0 rfl rfl) rfl rfl (Aa R9 rfl) (ev (Av 0 rfl rfl) rfl rfl (Ae ti3 rfl (.lp _ _ _ rfl) rfl) (ev (Av 0 rfl rfl) rfl rfl (Aa R9 rfl) (ev (Av 0 rfl rfl) rfl rfl (Ae ti3 rfl (.lp _ _ _ rfl) rfl) (ev (Av 0 rfl rfl) rfl rfl (Aa Pb rfl) (ev (Av 0 rfl rfl) rfl rfl (Eh Vt rfl rfl hj12) (ev (Av 0 rfl rfl) rfl rfl (Ou (fun x => Ii6 x) [.b s3.Stopped] ti3 rfl rfl rfl hu13) ?_))))))
           refine ev (Av 0 rfl rfl) rfl rfl (Aa U0 rfl) (ev (Av 0 rfl rfl) rfl rfl (Ae ti3 rfl (.lp _ _ _ rfl) rfl) (ev (Av 0 rfl rfl) rfl rfl (Aa Pb rfl) (ev (Av 0 rfl rfl) rfl rfl (Eh Vt rfl rfl hj14) (ev (Av 0 rfl rfl) rfl rfl (Ou (fun x => Ii6 x) [.b s3.Stopped] ti3 rfl rfl rfl hu15) ?_))))
           refine ev (Av 0 rfl rfl) rfl rfl (Bj rfl rfl) (ev (Av 0 rfl rfl) rfl rfl (Aa Sl rfl) (ev (Av 0 rfl rfl) rfl rfl (Ae ti3 rfl (.lp _ _ _ rfl) rfl) (ev (Av 0 rfl rfl) rfl rfl (Bj rfl rfl) (ed (Av 0 rfl rfl) rfl rfl (C1 Aq7 (Ad rfl Aj) rfl (Q8 hv16)) (ev (Av 0 rfl rfl) rfl rfl (Aa Pb rfl) (ev (Av 0 rfl rfl) rfl rfl (Eh Vt rfl rfl hj17) (ee0 0 rfl rfl rfl rfl (fun ζ => ?_) ?_)))))))
           ·refine A9 sz3 rfl rfl rfl rfl (Ro hj17 (Nbl rfl)) (Cc [.box (EL.el a0), .box [Ii6 s3.PC, Ii6 q18.R0, Ii6 q18.R1, Ii6 q18.R2, Ii6 q18.R3, Ii6 q18.R4, Ii6 q18.R5, Ii6 q18.R6, Ii6 q18.R7, .b s3.Stopped], .box Zbb, .box Zba, .box (EL.el u5)] (K0 (Aa7 hq18 [Ii6 s3.PC] [.b s3.Stopped])) ?_)
            exact Ol
           refine Tb (Am (Ab ?_))
           exact ⟨(A7.mk s3.PC q18 s3.Stopped), _, h, ⟨rfl, rfl, rfl, rfl, trivial⟩, rfl⟩
          ·refine csr (sv rfl (Bg rfl rfl) (rm 1 rfl (Al (ccI h rfl (fun h => ?_) (fun h => ?_)))))
           ·refine csr (fl R9 ti3 rfl rfl rfl rfl rfl rfl (sv rfl (Aa Pb rfl) ?_))
            obtain ⟨hj19, h⟩ := Cl h
            refine sv rfl (Eh Vt rfl rfl hj19) ?_
            obtain ⟨u20, hu20, h⟩ := Ag h
            refine sv rfl (Ou (fun x => Ii6 x) [.b s3.Stopped] ti3 rfl rfl rfl hu20) ?_
            refine sv rfl (Bg rfl rfl) (Al (ccI h rfl (fun h => ?_) (fun h => ?_)))
            ·refine Ax (fl N2 ti3 rfl rfl rfl rfl rfl rfl (fl Sl ti3 rfl rfl rfl rfl rfl rfl (sv rfl (Bj rfl rfl) (sv rfl (Aa N2 rfl) (A9 sz3 rfl rfl rfl rfl (Nbl rfl) (Cc [.box (EL.el a0), .box (EL.el {s3 with PC := wI (s3.PC + u5.N)}), .box Zbb, .box Zba, .box (EL.el u5)] rfl (Hy (Am (Ab ?_)))))))))
             exact ⟨(A7.mk (wI (s3.PC + u5.N)) s3.Regs s3.Stopped), _, h, ⟨rfl, rfl, rfl, rfl, trivial⟩, rfl⟩
            ·refine Be (Am (Ab ?_))
             exact ⟨s3, _, h, ⟨rfl, rfl, rfl, rfl, trivial⟩, rfl⟩
           ·refine csr (sv rfl (Bg rfl rfl) (rm 1 rfl (Al (ccI h rfl (fun h => ?_) (fun h => ?_)))))
            ·refine Ax (sv rfl (Aa Ag5 rfl) (A9 sz4 rfl rfl rfl rfl (Nbl rfl) (Cc [.box (EL.el a0), .box (EL.el {s3 with Stopped := true}), .box Zbb, .box Zba, .box (EL.el u5)] rfl (Hy (Am (Ab ?_))))))
             exact ⟨(A7.mk s3.PC s3.Regs true), _, h, ⟨rfl, rfl, rfl, rfl, trivial⟩, rfl⟩
            ·refine Be (Am (Ab ?_))
             exact ⟨s3, _, h, ⟨rfl, rfl, rfl, rfl, trivial⟩, rfl⟩
   ·skip
    refine Ax (fl N2 ti3 rfl rfl rfl rfl rfl rfl (fl Oa Ab5 rfl rfl rfl rfl rfl rfl (sv rfl (An Abz rfl) (sv rfl (Bi rfl rfl) (rm 1 rfl (Bc 24 rfl (fun hc => ?_) (fun hc => ?_)))))))
    ·replace h := Bt hc h
     clear hc
     refine son rfl rfl rfl (sv rfl (Aa Ag5 rfl) (son rfl rfl rfl (sv rfl (Ae ti4 rfl (.lp _ _ _ rfl) rfl) (son rfl rfl rfl (sv rfl (B1 rfl) (rm 1 rfl (Al (ccI h rfl (fun h => ?_) (fun h => ?_)))))))))
     ·refine Be (Ab ?_)
      exact ⟨(), _, h, ⟨rfl, rfl, rfl, rfl, trivial⟩, rfl⟩
     ·refine Dp (Aq (Aq (Bd (Ab ?_))))
      obtain rfl := SJ h
      obtain rfl : _ = x3 := hk3
      exact ⟨s3, _, ho3, ⟨rfl, rfl, rfl, rfl, trivial⟩, rfl⟩
    ·replace h := Bu hc h
     clear hc
     refine rm 4 rfl (Al (Cm rfl (fun hx => Bool.noConfusion hx) (fun _ => ?_)))
     refine Dp (Aq (Aq (Bd (Ab ?_))))
     obtain rfl := SJ h
     obtain rfl : _ = x3 := hk3
     exact ⟨s3, _, ho3, ⟨rfl, rfl, rfl, rfl, trivial⟩, rfl⟩
 ·skip
  refine Ax (sv rfl (Ap Aj6 rfl (.lp _ _ _ rfl) (Nbl rfl)) ?_)
  obtain ⟨v22, hv22, h⟩ := Ag h
  refine Bn rfl Apn (Ad rfl Aj) (A4 rfl) (O4 hv22) (sv rfl (B1 rfl) (rm 1 rfl (Bc 11 rfl (fun hc => ?_) (fun hc => ?_))))
  ·replace h := Bt hc h
   clear hc
   refine rm 4 rfl (Al (Cm rfl (fun _ => ?_) (fun hx => Bool.noConfusion hx)))
   refine Bp ?_
   refine Ei [2, 3] [0, 0, 1, 7, 15] [[.box (EL.el a0), .box (EL.el a1), .box Zbb, .box Zba], [.box (EL.el a0), .box (EL.el a1), .box Zbb, .box Zba], [.box (EL.el a0), .box (EL.el a1), .box Zbb, .box (EL.el a1)]] (by kernel_rfl) mixed (by kernel_rfl) (by decide) rfl rfl rfl rfl ?_
   refine ev (Av 0 rfl rfl) rfl rfl (Bl Yt Acf Ba (.nil _)) (ev (D9 (md := [.box (EL.el a0), .box (EL.el a1), .box Zbb, .dead]) ⟨⟨rfl, ⟨rfl, ⟨rfl, ⟨trivial, trivial⟩⟩⟩⟩, ⟨⟨rfl, ⟨rfl, ⟨rfl, ⟨trivial, trivial⟩⟩⟩⟩, ⟨⟨rfl, ⟨rfl, ⟨rfl, ⟨trivial, trivial⟩⟩⟩⟩, trivial⟩⟩⟩) rfl rfl (Ap Rz rfl (.lp _ _ _ rfl) (Nbl rfl)) (ee0 0 rfl rfl rfl rfl (fun ζ => ?_) ?_))
   ·refine A9 Zp rfl rfl rfl rfl (Nbl rfl) (Cc [.box (EL.el a0), .box (EL.el a1), .box Zbb, .box Zba] rfl ?_)
    exact Ol
   refine ee0 1 rfl rfl rfl rfl (fun ζ => ?_) ?_
   ·refine A9 V0 rfl rfl rfl rfl (Nbl rfl) (Cc [.box (EL.el a0), .box (EL.el a1), .box Zbb, .box (EL.el a1)] rfl ?_)
    exact Ol
   refine ev (Av 2 rfl rfl) rfl rfl (E8 rfl) (Tb (Ab (Bo (Ah ?_))))
   obtain rfl := SJ h
   refine ⟨Or.inr rfl, _, _, _, (Ai (B9.agg _ _ _ _ _ Aa4 rfl (.lp _ _ _ rfl) (Nbl rfl)) (Ai (B9.agg _ _ _ _ _ Rz rfl (.lp _ _ _ rfl) (Nbl rfl)) (Ai (B9.tmp _ _ rfl) Au))), (Sj rfl), ?_⟩
   rfl
  ·replace h := Bu hc h
   clear hc
   refine son rfl rfl rfl (sv rfl (Aa N2 rfl) (son rfl rfl rfl (sv rfl (Ae ti3 rfl (.lp _ _ _ rfl) rfl) (son rfl rfl rfl (sv rfl (Bi rfl rfl) (rm 1 rfl (Al (ccI h rfl (fun h => ?_) (fun h => ?_)))))))))
   ·refine Bp ?_
    refine Ei [2, 3] [0, 0, 1, 7, 15] [[.box (EL.el a0), .box (EL.el a1), .box Zbb, .box Zba], [.box (EL.el a0), .box (EL.el a1), .box Zbb, .box Zba], [.box (EL.el a0), .box (EL.el a1), .box Zbb, .box (EL.el a1)]] (by kernel_rfl) mixed (by kernel_rfl) (by decide) rfl rfl rfl rfl ?_
    refine ev (Av 0 rfl rfl) rfl rfl (Bl Yt Acf Ba (.nil _)) (ev (D9 (md := [.box (EL.el a0), .box (EL.el a1), .box Zbb, .dead]) ⟨⟨rfl, ⟨rfl, ⟨rfl, ⟨trivial, trivial⟩⟩⟩⟩, ⟨⟨rfl, ⟨rfl, ⟨rfl, ⟨trivial, trivial⟩⟩⟩⟩, ⟨⟨rfl, ⟨rfl, ⟨rfl, ⟨trivial, trivial⟩⟩⟩⟩, trivial⟩⟩⟩) rfl rfl (Ap Rz rfl (.lp _ _ _ rfl) (Nbl rfl)) (ee0 0 rfl rfl rfl rfl (fun ζ => ?_) ?_))
    ·refine A9 Zp rfl rfl rfl rfl (Nbl rfl) (Cc [.box (EL.el a0), .box (EL.el a1), .box Zbb, .box Zba] rfl ?_)
     exact Ol
    refine ee0 1 rfl rfl rfl rfl (fun ζ => ?_) ?_
    ·refine A9 V0 rfl rfl rfl rfl (Nbl rfl) (Cc [.box (EL.el a0), .box (EL.el a1), .box Zbb, .box (EL.el a1)] rfl ?_)
     exact Ol
    refine ev (Av 2 rfl rfl) rfl rfl (E8 rfl) (Tb (Ab (Bo (Ah ?_))))
    obtain rfl := SJ h
    refine ⟨Or.inr rfl, _, _, _, (Ai (B9.agg _ _ _ _ _ Aa4 rfl (.lp _ _ _ rfl) (Nbl rfl)) (Ai (B9.agg _ _ _ _ _ Rz rfl (.lp _ _ _ rfl) (Nbl rfl)) (Ai (B9.tmp _ _ rfl) Au))), (Sj rfl), ?_⟩
    rfl
   ·refine Be (Ab ?_)
    exact ⟨(), _, h, ⟨rfl, rfl, rfl, rfl, trivial⟩, rfl⟩
def L1 (a0 : El) : Option Bool :=
 if (decide ((a0.L.length : Int) ≤ 16)) then ((Gb a0.L).bind fun v1 => some v1) else (some false)
theorem Sd {a0 : El} {r : Bool} (h : L1 a0 = some r) : Bz Tryz.prog 77 [.agg [.sl a0.L.length (a0.L.flatMap Ac)]] (· = .s (.one (.b r))) := by
 unfold L1 at h
 refine A8 Tryz.func77 rfl (nt := 12) rfl (Nbl rfl) ?_
 intro w0 S0
 refine csr (Kp rfl rfl (rm 1 rfl (Al (csr (fl N6 Ry rfl rfl rfl rfl rfl rfl (sv rfl (An Qr rfl) (sv rfl (Eb rfl rfl) (rm 1 rfl (Bc 7 rfl (fun hc => ?_) (fun hc => ?_))))))))))
 ·replace h := Bt hc h
  clear hc
  refine son rfl rfl rfl (sv rfl (Aa N6 rfl) (son rfl rfl rfl (sv rfl (Ae Ry rfl (.lp _ _ _ rfl) rfl) (son rfl rfl rfl ?_))))
  obtain ⟨v1, hv1, h⟩ := Ag h
  refine Bn rfl App (Ad rfl Aj) (A4 rfl) (Nl hv1) (rm 2 rfl (Al (Bo ?_)))
  obtain rfl := SJ h
  exact dnT rfl rfl rfl rfl
 ·replace h := Bu hc h
  clear hc
  refine rm 5 rfl (Al (Bo ?_))
  obtain rfl := SJ h
  exact dnT rfl rfl rfl rfl
def Nw (b2 : (List Aw)) : Option (List Aw) :=
 some b2
def Ig (a2 : Ar) (s3 : Int × Int × (List Aw)) (b6 : Bool × (List UInt8) × (List UInt8)) (b7 : Int) (b8 : Int) : Option (LB (Int × Int × (List Aw)) ((List Aw))) :=
 if (!b6.1) then ((Lq a2 b6.2.1).bind fun v9 => if v9 then (if (s3.2.2.length + [(Aw.mk b6.2.1 b6.2.2)].length) * 48 ≤ 140737488355328 then (some (.cont (b7, b8, (s3.2.2 ++ [(Aw.mk b6.2.1 b6.2.2)])))) else none) else (some (.cont (b7, b8, s3.2.2)))) else (some (.cont (b7, b8, s3.2.2)))
def Ij (a2 : Ar) (s3 : Int × Int × (List Aw)) (b5 : Int) (b6 : Bool × (List UInt8) × (List UInt8)) (b7 : Int) : Option (LB (Int × Int × (List Aw)) ((List Aw))) :=
 if (decide (0 ≤ b5)) then (Ig a2 s3 b6 b7 (wI (s3.2.1 + 1))) else (Ig a2 s3 b6 b7 s3.2.1)
def Ii (a2 : Ar) (s3 : Int × Int × (List Aw)) (b5 : Int) (b6 : Bool × (List UInt8) × (List UInt8)) : Option (LB (Int × Int × (List Aw)) ((List Aw))) :=
 if (decide (b5 ≤ 0)) then (Ij a2 s3 b5 b6 (wI (s3.1 + 1))) else (Ij a2 s3 b5 b6 s3.1)
def Er (a0 : El) (a1 : List Aw) (a2 : Ar) (s3 : Int × Int × (List Aw)) (b5 : Int) : Option (LB (Int × Int × (List Aw)) ((List Aw))) :=
 if (decide (b5 < 0)) then ((idx a1 s3.1).bind fun u11 => Ii a2 s3 b5 (false, u11.Key, u11.Val)) else ((idx a0.L s3.2.1).bind fun u12 => (idx a0.L s3.2.1).bind fun u13 => (idx a0.L s3.2.1).bind fun u14 => Ii a2 s3 b5 (u14.Del, u12.Key, u13.Val))
def J0 (a0 : El) (a1 : List Aw) (a2 : Ar) (s3 : Int × Int × (List Aw)) (b4 : Unit) : Option (LB (Int × Int × (List Aw)) ((List Aw))) :=
 if (decide ((a1.length : Int) ≤ s3.1)) then (Er a0 a1 a2 s3 1) else (if (decide (s3.2.1 < (a0.L.length : Int))) then ((idx a1 s3.1).bind fun u15 => (idx a0.L s3.2.1).bind fun u16 => (Gp u15.Key u16.Key).bind fun v17 => Er a0 a1 a2 s3 v17) else (Er a0 a1 a2 s3 (-1)))
def Kj (a0 : El) (a1 : List Aw) (a2 : Ar) (a3 : Int) (s3 : Int × Int × (List Aw)) : Option (LB (Int × Int × (List Aw)) ((List Aw))) :=
 if (decide (s3.1 < (a1.length : Int))) then (if (decide ((s3.2.2.length : Int) < a3)) then (J0 a0 a1 a2 s3 ()) else (some (.brk s3.2.2))) else (if (decide (s3.2.1 < (a0.L.length : Int))) then (if (decide ((s3.2.2.length : Int) < a3)) then (J0 a0 a1 a2 s3 ()) else (some (.brk s3.2.2))) else (some (.brk s3.2.2)))
def L3 (a0 : El) (a1 : List Aw) (a2 : Ar) (a3 : Int) (b1 : Unit) : Option (List Aw) :=
 (Cw (Kj a0 a1 a2 a3) fuel (0, 0, ([] : List Aw))).bind fun e18 => Nw e18
def Lz (a0 : El) (a1 : List Aw) (a2 : Ar) (a3 : Int) : Option (List Aw) :=
 (L1 a0).bind fun v19 => if (!v19) then (some ([] : List Aw)) else ((Jp a1).bind fun v20 => if (!v20) then (some ([] : List Aw)) else (L3 a0 a1 a2 a3 ()))
theorem Xl {a0 : El} {a1 : List Aw} {a2 : Ar} {a3 : Int} {r : (List Aw)} (h : Lz a0 a1 a2 a3 = some r) : Bz Tryz.prog 41 [.agg [.sl a0.L.length (a0.L.flatMap Ac)], .one (.sl a1.length (a1.flatMap A2)), .agg (EL.el a2), .one (Ii6 a3)] (· = .s (.one (.sl r.length (r.flatMap A2)))) := by
 unfold Lz at h
 refine A8 Tryz.func41 rfl (nt := 109) rfl (Nbl rfl) ?_
 intro w0 S0
 refine csr (Kp rfl rfl (Kp rfl rfl (rm 1 rfl (Al (csr (rm 1 rfl (Al (Bp (Bp (I0 (Unit) (fun b1 => [(1, .s (.one (.sl a1.length (a1.flatMap A2)))), (3, .s (.one (Ii6 a3))), (4, .s (.one (.lp 0 0))), (6, .s (.one (.lp 1 0))), (9, .s (.one (Znl)))]) (fun b1 => [.box [.sl a0.L.length (a0.L.flatMap Ac)], .box (EL.el a2)]) (fun b1 => L3 a0 a1 a2 a3 b1 = some r) (fun _ _ => Az rfl) (fun _ _ => Ak rfl) (fun _ _ => Nbl rfl) (fun b1 h => ?_) ?_))))))))))
 ·unfold L3 at h
  refine csr (rm 1 rfl (Al (csr (rm 1 rfl (Al (Bp ?_))))))
  refine H6 77 2 9 (by decide) rfl ?_
  refine C4 ((List Aw)) (fun b2 => [(9, .s (.one (.ls 2 b2.length)))]) (fun b2 => [.box [.sl a0.L.length (a0.L.flatMap Ac)], .box (EL.el a2), .arr 77 2 0 (b2.flatMap A2)]) (fun b2 => Nw b2 = some r) (fun _ _ => Az rfl) (fun _ _ => Ak rfl) (fun _ _ => Nbl rfl) (fun b2 h => ?_) ?_
  ·unfold Nw at h
   refine csr (rm 2 rfl (Al (Bo ?_)))
   obtain rfl := SJ h
   refine ⟨Or.inr rfl, _, _, _, (Ai (B9.tmp _ _ rfl) Au), (by (repeat' first | exact Ga.nil _ | apply Ga.cons | apply F5.one | apply F5.agg | exact Ci.nil | exact Ci.ls _ _ _ _ _ _ rfl (Ay (f := A2) (fun _ => rfl) _).symm | exact Ci.id _ rfl | exact Cg.nil _ | apply Cg.cons)), ?_⟩
   rfl
  ·skip
   refine Bf ?_
   obtain ⟨x3, hx3, ho3⟩ := Ag h
   refine Bs (G := Nat × (Int × Int × (List Aw))) (fun g => [(1, .s (.one (.sl a1.length (a1.flatMap A2)))), (3, .s (.one (Ii6 a3))), (4, .s (.one (.lp 0 0))), (6, .s (.one (.lp 1 0))), (9, .s (.one (.ls 2 g.2.2.2.length))), (10, .s (.one (Ii6 g.2.1))), (11, .s (.one (Ii6 g.2.2.1)))]) (fun g => [.box [.sl a0.L.length (a0.L.flatMap Ac)], .box (EL.el a2), .arr 77 2 0 (g.2.2.2.flatMap A2)]) (fun g => Cw (Kj a0 a1 a2 a3) g.1 g.2 = some x3) (fun g => g.1) (fuel, (0, 0, ([] : List Aw))) hx3 ⟨rfl, rfl, rfl, rfl, rfl, rfl, rfl, trivial⟩ [] rfl (fun _ _ => Az rfl) (fun _ _ => Ak rfl) (fun _ _ => Nbl rfl) ?_
   clear hx3 h
   rintro ⟨n3, s3⟩ h
   obtain ⟨n3, y3, rfl, h, hk3⟩ := Dw h
   unfold Kj at h
   refine Bp (Bp (I0 (Unit) (fun b4 => [(1, .s (.one (.sl a1.length (a1.flatMap A2)))), (3, .s (.one (Ii6 a3))), (4, .s (.one (.lp 0 0))), (6, .s (.one (.lp 1 0))), (9, .s (.one (.ls 2 s3.2.2.length))), (10, .s (.one (Ii6 s3.1))), (11, .s (.one (Ii6 s3.2.1)))]) (fun b4 => [.box [.sl a0.L.length (a0.L.flatMap Ac)], .box (EL.el a2), .arr 77 2 0 (s3.2.2.flatMap A2)]) (fun b4 => J0 a0 a1 a2 s3 b4 = some y3) (fun _ _ => Az rfl) (fun _ _ => Ak rfl) (fun _ _ => Nbl rfl) (fun b4 h => ?_) ?_))
   ·unfold J0 at h
    refine Bf (csr (rm 1 rfl (Al (Bp (csr (rm 2 rfl (sv rfl (An P8 rfl) (sv rfl (G6 rfl rfl) (Al (C4 (Int) (fun b5 => [(1, .s (.one (.sl a1.length (a1.flatMap A2)))), (3, .s (.one (Ii6 a3))), (4, .s (.one (.lp 0 0))), (6, .s (.one (.lp 1 0))), (9, .s (.one (.ls 2 s3.2.2.length))), (10, .s (.one (Ii6 s3.1))), (11, .s (.one (Ii6 s3.2.1))), (12, .s (.one (Ii6 b5)))]) (fun b5 => [.box [.sl a0.L.length (a0.L.flatMap Ac)], .box (EL.el a2), .arr 77 2 0 (s3.2.2.flatMap A2)]) (fun b5 => Er a0 a1 a2 s3 b5 = some y3) (fun _ _ => Az rfl) (fun _ _ => Ak rfl) (fun _ _ => Nbl rfl) (fun b5 h => ?_) ?_))))))))))
    ·unfold Er at h
     refine csr (sv rfl (Bl Ajb Aqu Ba (.nil _)) (Ce rfl Ajb (A9 Ajw rfl rfl rfl rfl (Nbl rfl) (Cc [.box [.sl a0.L.length (a0.L.flatMap Ac)], .box (EL.el a2), .arr 77 2 0 (s3.2.2.flatMap A2), .box [Znl, Znl]] rfl (Al (csr (rm 1 rfl (Al (Bp (csr (rm 1 rfl (sv rfl (Bi rfl rfl) (Al (C4 (Bool × (List UInt8) × (List UInt8)) (fun b6 => [(1, .s (.one (.sl a1.length (a1.flatMap A2)))), (3, .s (.one (Ii6 a3))), (4, .s (.one (.lp 0 0))), (6, .s (.one (.lp 1 0))), (9, .s (.one (.ls 2 s3.2.2.length))), (10, .s (.one (Ii6 s3.1))), (11, .s (.one (Ii6 s3.2.1))), (12, .s (.one (Ii6 b5))), (13, .s (.one (.lp 3 0))), (14, .s (.one (.b b6.1)))]) (fun b6 => [.box [.sl a0.L.length (a0.L.flatMap Ac)], .box (EL.el a2), .arr 77 2 0 (s3.2.2.flatMap A2), .box [.sl b6.2.1.length (b6.2.1.flatMap eU8), .sl b6.2.2.length (b6.2.2.flatMap eU8)]]) (fun b6 => Ii a2 s3 b5 b6 = some y3) (fun _ _ => Az rfl) (fun _ _ => Ak rfl) (fun _ _ => Nbl rfl) (fun b6 h => ?_) ?_))))))))))))))
     ·unfold Ii at h
      refine Bp (csr (rm 1 rfl (sv rfl (Eb rfl rfl) (Al (C4 (Int) (fun b7 => [(1, .s (.one (.sl a1.length (a1.flatMap A2)))), (3, .s (.one (Ii6 a3))), (4, .s (.one (.lp 0 0))), (6, .s (.one (.lp 1 0))), (9, .s (.one (.ls 2 s3.2.2.length))), (10, .s (.one (Ii6 b7))), (11, .s (.one (Ii6 s3.2.1))), (12, .s (.one (Ii6 b5))), (13, .s (.one (.lp 3 0))), (14, .s (.one (.b b6.1)))]) (fun b7 => [.box [.sl a0.L.length (a0.L.flatMap Ac)], .box (EL.el a2), .arr 77 2 0 (s3.2.2.flatMap A2), .box [.sl b6.2.1.length (b6.2.1.flatMap eU8), .sl b6.2.2.length (b6.2.2.flatMap eU8)]]) (fun b7 => Ij a2 s3 b5 b6 b7 = some y3) (fun _ _ => Az rfl) (fun _ _ => Ak rfl) (fun _ _ => Nbl rfl) (fun b7 h => ?_) ?_)))))
      ·unfold Ij at h
       refine Bp (csr (rm 1 rfl (sv rfl (G6 rfl rfl) (Al (C4 (Int) (fun b8 => [(1, .s (.one (.sl a1.length (a1.flatMap A2)))), (3, .s (.one (Ii6 a3))), (4, .s (.one (.lp 0 0))), (6, .s (.one (.lp 1 0))), (9, .s (.one (.ls 2 s3.2.2.length))), (10, .s (.one (Ii6 b7))), (11, .s (.one (Ii6 b8))), (13, .s (.one (.lp 3 0))), (14, .s (.one (.b b6.1)))]) (fun b8 => [.box [.sl a0.L.length (a0.L.flatMap Ac)], .box (EL.el a2), .arr 77 2 0 (s3.2.2.flatMap A2), .box [.sl b6.2.1.length (b6.2.1.flatMap eU8), .sl b6.2.2.length (b6.2.2.flatMap eU8)]]) (fun b8 => Ig a2 s3 b6 b7 b8 = some y3) (fun _ _ => Az rfl) (fun _ _ => Ak rfl) (fun _ _ => Nbl rfl) (fun b8 h => ?_) ?_)))))
       ·unfold Ig at h
        refine csr (rm 1 rfl (sv rfl (B1 rfl) (rm 1 rfl (Bc 98 rfl (fun hc => ?_) (fun hc => ?_)))))
        ·replace h := Bt hc h
         clear hc
         refine son rfl rfl rfl (sv rfl (Ap Vd rfl (.lp _ _ _ rfl) (Nbl rfl)) (son rfl rfl rfl (sv rfl (Aa Ql rfl) (son rfl rfl rfl (sv rfl (Ae E6 rfl (.lp _ _ _ rfl) rfl) (son rfl rfl rfl ?_))))))
         obtain ⟨v9, hv9, h⟩ := Ag h
         refine Bn rfl Aqa (Ad rfl (Ad rfl Aj)) (A4 rfl) (P9 hv9) (rm 1 rfl (Al (ccI h rfl (fun h => ?_) (fun h => ?_))))
         ·refine Ax (rm 1 rfl (sv rfl (Ap Ai0 rfl (.lp _ _ _ rfl) (Nbl rfl)) ?_))
          refine Fw rfl Tryz.underlying37 Amb rfl rfl (List.all_eq_true.1 rfl) (by decide) ?_
          refine Cc [.box [.sl a0.L.length (a0.L.flatMap Ac)], .box (EL.el a2), .arr 77 2 0 (s3.2.2.flatMap A2), .box [.sl b6.2.1.length (b6.2.1.flatMap eU8), .sl b6.2.2.length (b6.2.2.flatMap eU8)], .arr 77 2 0 ([(Aw.mk b6.2.1 b6.2.2)].flatMap A2)] rfl ?_
          obtain ⟨hb10, h⟩ := Cl h
          refine Wx (f := A2) (xs := s3.2.2) (us := [(Aw.mk b6.2.1 b6.2.2)]) rfl Tryz.underlying37 Amb Apa (fun _ => rfl) rfl rfl (.one _ _ _ _ (.ls _ _ _ _ _ _ rfl (Ay (f := A2) (fun _ => rfl) [(Aw.mk b6.2.1 b6.2.2)]).symm)) rfl rfl rfl (.sl _ _ _ (Ay (f := A2) (fun _ => rfl) _)) rfl rfl hb10 (by decide) ?_
          refine rm 1 rfl (Hy (Am (Ab ?_)))
          obtain rfl := SJ h
          exact ⟨(n3, (b7, b8, (s3.2.2 ++ [(Aw.mk b6.2.1 b6.2.2)]))), _, hk3, ⟨rfl, rfl, rfl, rfl, rfl, rfl, rfl, trivial⟩, rfl, Nat.lt_succ_self _⟩
         ·refine Be (Am (Ab ?_))
          obtain rfl := SJ h
          exact ⟨(n3, (b7, b8, s3.2.2)), _, hk3, ⟨rfl, rfl, rfl, rfl, rfl, rfl, rfl, trivial⟩, rfl, Nat.lt_succ_self _⟩
        ·replace h := Bu hc h
         clear hc
         refine rm 5 rfl (Al (Cm rfl (fun hx => Bool.noConfusion hx) (fun _ => ?_)))
         refine Be (Am (Ab ?_))
         obtain rfl := SJ h
         exact ⟨(n3, (b7, b8, s3.2.2)), _, hk3, ⟨rfl, rfl, rfl, rfl, rfl, rfl, rfl, trivial⟩, rfl, Nat.lt_succ_self _⟩
       ·skip
        refine ccI h rfl (fun h => ?_) (fun h => ?_)
        ·refine Ax (rm 1 rfl (sv rfl (Bj rfl rfl) (rm 1 rfl (Al ?_))))
         exact ⟨(wI (s3.2.1 + 1)), _, h, ⟨rfl, rfl, rfl, rfl, rfl, rfl, rfl, rfl, rfl, trivial⟩, rfl⟩
        ·refine Be (Ab ?_)
         exact ⟨s3.2.1, _, h, ⟨rfl, rfl, rfl, rfl, rfl, rfl, rfl, rfl, rfl, trivial⟩, rfl⟩
      ·skip
       refine ccI h rfl (fun h => ?_) (fun h => ?_)
       ·refine Ax (rm 1 rfl (sv rfl (Bj rfl rfl) (rm 1 rfl (Al ?_))))
        exact ⟨(wI (s3.1 + 1)), _, h, ⟨rfl, rfl, rfl, rfl, rfl, rfl, rfl, rfl, rfl, rfl, trivial⟩, rfl⟩
       ·refine Be (Ab ?_)
        exact ⟨s3.1, _, h, ⟨rfl, rfl, rfl, rfl, rfl, rfl, rfl, rfl, rfl, rfl, trivial⟩, rfl⟩
     ·skip
      refine ccI h rfl (fun h => ?_) (fun h => ?_)
      ·refine Ax (rm 1 rfl (sv rfl (A3 rfl) ?_))
       obtain ⟨u11, hu11, h⟩ := Ag h
       refine sv rfl (Bw (f := A2) P8 (fun _ => rfl) rfl rfl rfl rfl hu11) ?_
       refine sv rfl (Bq (ys := [.sl u11.Key.length (u11.Key.flatMap eU8), .sl u11.Val.length (u11.Val.flatMap eU8)]) Ai0 rfl (.cp _) rfl rfl) (A9 Ajw rfl rfl rfl rfl (Nbl rfl) (Cc [.box [.sl a0.L.length (a0.L.flatMap Ac)], .box (EL.el a2), .arr 77 2 0 (s3.2.2.flatMap A2), .box (EL.el u11)] rfl (Al ?_)))
       exact ⟨(false, u11.Key, u11.Val), _, h, ⟨rfl, rfl, rfl, rfl, rfl, rfl, rfl, rfl, rfl, rfl, trivial⟩, rfl⟩
      ·refine Bp ?_
       obtain ⟨u12, hu12, h⟩ := Ag h
       obtain ⟨u13, hu13, h⟩ := Ag h
       refine Ei [13] [0, 1, 0, 7, 15, 31, 0, 64, 0, 448, 960, 1984, 4095, 8191] [[.box [.sl a0.L.length (a0.L.flatMap Ac)], .box (EL.el a2), .arr 77 2 0 (s3.2.2.flatMap A2), .box [Znl, Znl]], [.box [.sl a0.L.length (a0.L.flatMap Ac)], .box (EL.el a2), .arr 77 2 0 (s3.2.2.flatMap A2), .box (EL.el (Aw.mk u12.Key u13.Val))]] (by kernel_rfl) mixed (by kernel_rfl) (by decide) rfl rfl rfl rfl ?_
       refine ev (Av 0 rfl rfl) rfl rfl (Aa N6 rfl) (ev (Av 0 rfl rfl) rfl rfl (Ae Ry rfl (.lp _ _ _ rfl) rfl) (ev (Av 0 rfl rfl) rfl rfl (A3 rfl) (ev (Av 0 rfl rfl) rfl rfl (Bw (f := Ac) Qr (fun _ => rfl) rfl rfl rfl rfl hu12) ?_)))
       refine ev (Av 0 rfl rfl) rfl rfl (A6 J3 rfl) (ev (Av 0 rfl rfl) rfl rfl (Ae E6 rfl (.cp _) rfl) (ev (Av 0 rfl rfl) rfl rfl (Aa N6 rfl) (ev (Av 0 rfl rfl) rfl rfl (Ae Ry rfl (.lp _ _ _ rfl) rfl) (ev (Av 0 rfl rfl) rfl rfl (A3 rfl) (ev (Av 0 rfl rfl) rfl rfl (Bw (f := Ac) Qr (fun _ => rfl) rfl rfl rfl rfl hu13) ?_)))))
       refine ev (Av 0 rfl rfl) rfl rfl (A6 Q3 rfl) (ev (Av 0 rfl rfl) rfl rfl (Ae E6 rfl (.cp _) rfl) (ev (Av 0 rfl rfl) rfl rfl (Bl Ajb Aqu (A1 rfl (A1 rfl Ba)) (.cons _ _ _ _ _ _ _ rfl rfl (Nbl rfl) (.cons _ _ _ _ _ _ _ rfl rfl (Nbl rfl) (.nil _)))) (ee0 0 rfl rfl rfl rfl (fun ζ => ?_) ?_)))
       ·refine A9 Ajw rfl rfl rfl rfl (Nbl rfl) (Cc [.box [.sl a0.L.length (a0.L.flatMap Ac)], .box (EL.el a2), .arr 77 2 0 (s3.2.2.flatMap A2), .box (EL.el (Aw.mk u12.Key u13.Val))] rfl ?_)
        exact Ol
       refine Tb (Ab (Ax (fl N6 Ry rfl rfl rfl rfl rfl rfl (sv rfl (A3 rfl) ?_))))
       obtain ⟨u14, hu14, h⟩ := Ag h
       refine sv rfl (Bw (f := Ac) Qr (fun _ => rfl) rfl rfl rfl rfl hu14) ?_
       refine sv rfl (A6 Xq rfl) (sv rfl (Ae ti4 rfl (.cp _) rfl) (rm 1 rfl (Al ?_)))
       exact ⟨(u14.Del, u12.Key, u13.Val), _, h, ⟨rfl, rfl, rfl, rfl, rfl, rfl, rfl, rfl, rfl, rfl, trivial⟩, rfl⟩
    ·skip
     refine ccI h rfl (fun h => ?_) (fun h => ?_)
     ·refine Ax (rm 1 rfl (Al ?_))
      exact ⟨1, _, h, ⟨rfl, rfl, rfl, rfl, rfl, rfl, rfl, rfl, trivial⟩, rfl⟩
     ·refine csr (rm 1 rfl (fl N6 Ry rfl rfl rfl rfl rfl rfl (sv rfl (An Qr rfl) (sv rfl (Bi rfl rfl) (Al (ccI h rfl (fun h => ?_) (fun h => ?_)))))))
      ·refine Qc mixed (by kernel_rfl) ?_
       refine dv rfl (A3 rfl) (dv rfl (A3 rfl) ?_)
       obtain ⟨u15, hu15, h⟩ := Ag h
       refine dv rfl (Bw (f := A2) P8 (fun _ => rfl) rfl rfl rfl rfl hu15) ?_
       refine dv rfl (A6 Ql rfl) (dv rfl (Ae E6 rfl (.cp _) rfl) (dv rfl (Aa N6 rfl) (dv rfl (Ae Ry rfl (.lp _ _ _ rfl) rfl) (dv rfl (A3 rfl) ?_))))
       obtain ⟨u16, hu16, h⟩ := Ag h
       refine dv rfl (Bw (f := Ac) Qr (fun _ => rfl) rfl rfl rfl rfl hu16) ?_
       refine dv rfl (A6 J3 rfl) (dv rfl (Ae E6 rfl (.cp _) rfl) ?_)
       obtain ⟨v17, hv17, h⟩ := Ag h
       refine dd rfl (C1 Akj (Ad rfl (Ad rfl Aj)) rfl (I3 hv17)) (dv rfl (E8 rfl) (Py (Ab ?_)))
       exact ⟨v17, _, h, ⟨rfl, rfl, rfl, rfl, rfl, rfl, rfl, rfl, trivial⟩, rfl⟩
      ·refine Be (Ab ?_)
       exact ⟨(-1), _, h, ⟨rfl, rfl, rfl, rfl, rfl, rfl, rfl, rfl, trivial⟩, rfl⟩
   ·skip
    refine Ax (rm 2 rfl (sv rfl (An P8 rfl) (sv rfl (Bi rfl rfl) (rm 1 rfl (Bc 28 rfl (fun hc => ?_) (fun hc => ?_))))))
    ·replace h := Bt hc h
     clear hc
     refine rm 8 rfl (son rfl rfl rfl (sv rfl (Lw P8 rfl rfl (Ay (f := A2) (fun _ => rfl) _).symm) ?_))
     refine rm 1 rfl (son rfl rfl rfl (sv rfl (Bi rfl rfl) (rm 1 rfl (Al (ccI h rfl (fun h => ?_) (fun h => ?_))))))
     ·refine Be (Ab ?_)
      exact ⟨(), _, h, ⟨rfl, rfl, rfl, rfl, rfl, rfl, rfl, trivial⟩, rfl⟩
     ·refine Dp (Aq (Aq (Bd (Ab ?_))))
      obtain rfl := SJ h
      obtain rfl : _ = x3 := hk3
      exact ⟨s3.2.2, _, ho3, ⟨rfl, trivial⟩, rfl⟩
    ·replace h := Bu hc h
     clear hc
     refine rm 1 rfl (son rfl rfl rfl (sv rfl (Aa N6 rfl) (son rfl rfl rfl (sv rfl (Ae Ry rfl (.lp _ _ _ rfl) rfl) (son rfl rfl rfl (sv rfl (An Qr rfl) (son rfl rfl rfl (sv rfl (Bi rfl rfl) (rm 2 rfl (Bc 35 rfl (fun hc => ?_) (fun hc => ?_)))))))))))
     ·replace h := Bt hc h
      clear hc
      refine rm 1 rfl (son rfl rfl rfl (sv rfl (Lw P8 rfl rfl (Ay (f := A2) (fun _ => rfl) _).symm) ?_))
      refine rm 1 rfl (son rfl rfl rfl (sv rfl (Bi rfl rfl) (rm 1 rfl (Al (ccI h rfl (fun h => ?_) (fun h => ?_))))))
      ·refine Be (Ab ?_)
       exact ⟨(), _, h, ⟨rfl, rfl, rfl, rfl, rfl, rfl, rfl, trivial⟩, rfl⟩
      ·refine Dp (Aq (Aq (Bd (Ab ?_))))
       obtain rfl := SJ h
       obtain rfl : _ = x3 := hk3
       exact ⟨s3.2.2, _, ho3, ⟨rfl, trivial⟩, rfl⟩
     ·replace h := Bu hc h
      clear hc
      refine rm 5 rfl (Al (Cm rfl (fun hx => Bool.noConfusion hx) (fun _ => ?_)))
      refine Dp (Aq (Aq (Bd (Ab ?_))))
      obtain rfl := SJ h
      obtain rfl : _ = x3 := hk3
      exact ⟨s3.2.2, _, ho3, ⟨rfl, trivial⟩, rfl⟩
 ·skip
  refine Ax (sv rfl (Ap Wm rfl (.lp _ _ _ rfl) (Nbl rfl)) ?_)
  obtain ⟨v19, hv19, h⟩ := Ag h
  refine Bn rfl Aqw (Ad rfl Aj) (A4 rfl) (Sd hv19) (sv rfl (B1 rfl) (rm 1 rfl (Bc 18 rfl (fun hc => ?_) (fun hc => ?_))))
  ·replace h := Bt hc h
   clear hc
   refine rm 4 rfl (Al (Cm rfl (fun _ => ?_) (fun hx => Bool.noConfusion hx)))
   refine csr (rm 2 rfl (Al (Bo (Ah ?_))))
   obtain rfl := SJ h
   refine ⟨Or.inr rfl, _, _, _, (Ai (B9.tmp _ _ rfl) Au), (Sj rfl), ?_⟩
   rfl
  ·replace h := Bu hc h
   clear hc
   refine rm 1 rfl (son rfl rfl rfl ?_)
   obtain ⟨v20, hv20, h⟩ := Ag h
   refine Bn rfl Ara (Ad rfl Aj) (A4 rfl) (Qj hv20) (son rfl rfl rfl (sv rfl (B1 rfl) (rm 1 rfl (Al (ccI h rfl (fun h => ?_) (fun h => ?_))))))
   ·refine csr (rm 2 rfl (Al (Bo (Ah ?_))))
    obtain rfl := SJ h
    refine ⟨Or.inr rfl, _, _, _, (Ai (B9.tmp _ _ rfl) Au), (Sj rfl), ?_⟩
    rfl
   ·refine Be (Ab ?_)
    exact ⟨(), _, h, ⟨rfl, rfl, rfl, rfl, rfl, trivial⟩, rfl⟩
def Hq (b3 : (List Af)) : Option (El × Int) :=
 if (decide (16 < (b3.length : Int))) then (some ((El.mk ([] : List Af)), 8)) else (some ((El.mk b3), 0))
def Js (a1 : Af) (b2 : Bool × (List Af)) : Option (El × Int) :=
 if (!b2.1) then (if (b2.2.length + [a1].length) * 56 ≤ 140737488355328 then (Hq (b2.2 ++ [a1])) else none) else (Hq b2.2)
def Ht (a0 : El) (s5 : Bool × Int × (List Af)) (v7 : Int) (b8 : Bool × (List Af)) : Option (LB (Bool × Int × (List Af)) (Bool × (List Af))) :=
 if (!decide (v7 = 0)) then ((idx a0.L s5.2.1).bind fun u9 => if (b8.2.length + [u9].length) * 56 ≤ 140737488355328 then (some (.cont (b8.1, (wI (s5.2.1 + 1)), (b8.2 ++ [u9])))) else none) else (some (.cont (b8.1, (wI (s5.2.1 + 1)), b8.2)))
def Hv (a0 : El) (a1 : Af) (s5 : Bool × Int × (List Af)) : Option (LB (Bool × Int × (List Af)) (Bool × (List Af))) :=
 if (decide (s5.2.1 < (a0.L.length : Int))) then ((idx a0.L s5.2.1).bind fun u6 => (Gp u6.Key a1.Key).bind fun v7 => if (decide (0 ≤ v7)) then (if (!s5.1) then (if (s5.2.2.length + [a1].length) * 56 ≤ 140737488355328 then (Ht a0 s5 v7 (true, (s5.2.2 ++ [a1]))) else none) else (Ht a0 s5 v7 (s5.1, s5.2.2))) else (Ht a0 s5 v7 (s5.1, s5.2.2))) else (some (.brk (s5.1, s5.2.2)))
def M8 (a0 : El) (a1 : Af) (b1 : Unit) : Option (El × Int) :=
 (Cw (Hv a0 a1) fuel (false, 0, ([] : List Af))).bind fun e12 => Js a1 e12
def Hu (a0 : El) (a1 : Af) : Option (El × Int) :=
 (L1 a0).bind fun v13 => if (!v13) then (some ((El.mk ([] : List Af)), 1)) else ((Gb [a1]).bind fun v14 => if (!v14) then (some ((El.mk ([] : List Af)), 1)) else (M8 a0 a1 ()))
theorem Ty {a0 : El} {a1 : Af} {r : El × Int} (h : Hu a0 a1 = some r) : Bz Tryz.prog 42 [.agg [.sl a0.L.length (a0.L.flatMap Ac)], .agg (EL.el a1)] (· = .tup [.agg [.sl r.1.L.length (r.1.L.flatMap Ac)], .one (Ii6 r.2)]) := by
 unfold Hu at h
 refine A8 Tryz.func42 rfl (nt := 68) rfl (Nbl rfl) ?_
 intro w0 S0
 refine csr (Kp rfl rfl (Kp rfl rfl (Ce rfl Yr (rm 1 rfl (Al (Bp (Bp (I0 (Unit) (fun b1 => [(2, .s (.one (.lp 0 0))), (3, .s (.one (.lp 1 0))), (4, .s (.one (.lp 2 0)))]) (fun b1 => [.box [.sl a0.L.length (a0.L.flatMap Ac)], .box (EL.el a1), .box [Znl]]) (fun b1 => M8 a0 a1 b1 = some r) (fun _ _ => Az rfl) (fun _ _ => Ak rfl) (fun _ _ => Nbl rfl) (fun b1 h => ?_) ?_))))))))
 ·unfold M8 at h
  refine csr (rm 1 rfl (Al (csr (rm 1 rfl (Al (Bp (csr (rm 1 rfl (Al ?_)))))))))
  refine H6 48 3 6 (by decide) rfl ?_
  refine C4 (Bool × (List Af)) (fun b2 => [(3, .s (.one (.lp 1 0))), (4, .s (.one (.lp 2 0))), (6, .s (.one (.ls 3 b2.2.length))), (7, .s (.one (.b b2.1)))]) (fun b2 => [.box [.sl a0.L.length (a0.L.flatMap Ac)], .box (EL.el a1), .box [Znl], .arr 48 3 0 (b2.2.flatMap Ac)]) (fun b2 => Js a1 b2 = some r) (fun _ _ => Az rfl) (fun _ _ => Ak rfl) (fun _ _ => Nbl rfl) (fun b2 h => ?_) ?_
  ·unfold Js at h
   refine Bp (csr (rm 1 rfl (sv rfl (B1 rfl) (Al (C4 ((List Af)) (fun b3 => [(4, .s (.one (.lp 2 0))), (6, .s (.one (.ls 3 b3.length)))]) (fun b3 => [.box [.sl a0.L.length (a0.L.flatMap Ac)], .box (EL.el a1), .box [Znl], .arr 48 3 0 (b3.flatMap Ac)]) (fun b3 => Hq b3 = some r) (fun _ _ => Az rfl) (fun _ _ => Ak rfl) (fun _ _ => Nbl rfl) (fun b3 h => ?_) ?_)))))
   ·unfold Hq at h
    refine Bp (csr (rm 1 rfl (sv rfl (Lw Qr rfl rfl (Ay (f := Ac) (fun _ => rfl) _).symm) ?_)))
    refine sv rfl (B8 rfl rfl) (Al (ccI h rfl (fun h => ?_) (fun h => ?_)))
    ·refine csr (sv rfl (Bl Yr Af2 Ba (.nil _)) (A9 Zf rfl rfl rfl rfl (Nbl rfl) (Cc [.box [.sl a0.L.length (a0.L.flatMap Ac)], .box (EL.el a1), .box [Znl], .arr 48 3 0 (b3.flatMap Ac)] rfl (rm 1 rfl (Al (Bo (Ah ?_)))))))
     obtain rfl := SJ h
     refine ⟨Or.inr rfl, _, _, _, (Ai (B9.agg _ _ _ _ _ Wm rfl (.lp _ _ _ rfl) (Nbl rfl)) (Ai (B9.tmp _ _ rfl) Au)), (Sj rfl), ?_⟩
     rfl
    ·refine Be (Ab (csr (rm 1 rfl (sv rfl (Bl Yr Af2 (A1 rfl Ba) (.cons _ _ _ _ _ _ _ rfl rfl (Nbl rfl) (.nil _))) (A9 Zf rfl rfl rfl rfl (Nbl rfl) (Cc [.box [.sl a0.L.length (a0.L.flatMap Ac)], .box (EL.el a1), .box [.ls 3 b3.length], .arr 48 3 0 (b3.flatMap Ac)] rfl (rm 1 rfl (Al (Bo ?_)))))))))
     obtain rfl := SJ h
     refine ⟨Or.inr rfl, _, _, _, (Ai (B9.agg _ _ _ _ _ Wm rfl (.lp _ _ _ rfl) (Nbl rfl)) (Ai (B9.tmp _ _ rfl) Au)), (by (repeat' first | exact Ga.nil _ | apply Ga.cons | apply F5.one | apply F5.agg | exact Ci.nil | exact Ci.ls _ _ _ _ _ _ rfl (Ay (f := Ac) (fun _ => rfl) _).symm | exact Ci.id _ rfl | exact Cg.nil _ | apply Cg.cons)), ?_⟩
     rfl
   ·skip
    refine ccI h rfl (fun h => ?_) (fun h => ?_)
    ·refine Ax (rm 1 rfl (sv rfl (Ap Aas rfl (.lp _ _ _ rfl) (Nbl rfl)) ?_))
     refine Fw rfl Tryz.underlying26 Ael rfl rfl (List.all_eq_true.1 rfl) (by decide) ?_
     refine Cc [.box [.sl a0.L.length (a0.L.flatMap Ac)], .box (EL.el a1), .box [Znl], .arr 48 3 0 (b2.2.flatMap Ac), .arr 48 3 0 ([a1].flatMap Ac)] rfl ?_
     obtain ⟨hb4, h⟩ := Cl h
     refine Wx (f := Ac) (xs := b2.2) (us := [a1]) rfl Tryz.underlying26 Ael Aos (fun _ => rfl) rfl rfl (.one _ _ _ _ (.ls _ _ _ _ _ _ rfl (Ay (f := Ac) (fun _ => rfl) [a1]).symm)) rfl rfl rfl (.sl _ _ _ (Ay (f := Ac) (fun _ => rfl) _)) rfl rfl hb4 (by decide) ?_
     refine rm 1 rfl (Al ?_)
     exact ⟨(b2.2 ++ [a1]), _, h, ⟨rfl, rfl, trivial⟩, rfl⟩
    ·refine Be (Ab ?_)
     exact ⟨b2.2, _, h, ⟨rfl, rfl, trivial⟩, rfl⟩
  ·skip
   refine Bf ?_
   obtain ⟨x5, hx5, ho5⟩ := Ag h
   refine Bs (G := Nat × (Bool × Int × (List Af))) (fun g => [(2, .s (.one (.lp 0 0))), (3, .s (.one (.lp 1 0))), (4, .s (.one (.lp 2 0))), (6, .s (.one (.ls 3 g.2.2.2.length))), (7, .s (.one (.b g.2.1))), (8, .s (.one (Ii6 g.2.2.1)))]) (fun g => [.box [.sl a0.L.length (a0.L.flatMap Ac)], .box (EL.el a1), .box [Znl], .arr 48 3 0 (g.2.2.2.flatMap Ac)]) (fun g => Cw (Hv a0 a1) g.1 g.2 = some x5) (fun g => g.1) (fuel, (false, 0, ([] : List Af))) hx5 ⟨rfl, rfl, rfl, rfl, rfl, rfl, trivial⟩ [] rfl (fun _ _ => Az rfl) (fun _ _ => Ak rfl) (fun _ _ => Nbl rfl) ?_
   clear hx5 h
   rintro ⟨n5, s5⟩ h
   obtain ⟨n5, y5, rfl, h, hk5⟩ := Dw h
   unfold Hv at h
   refine Bp (csr (rm 1 rfl (fl N6 Ry rfl rfl rfl rfl rfl rfl (sv rfl (An Qr rfl) (sv rfl (Bi rfl rfl) (Al (ccI h rfl (fun h => ?_) (fun h => ?_))))))))
   ·refine Be (Ab (Bp (Bf (Bp ?_))))
    refine Qc mixed (by kernel_rfl) ?_
    refine dv rfl (Aa N6 rfl) (dv rfl (Ae Ry rfl (.lp _ _ _ rfl) rfl) (dv rfl (A3 rfl) ?_))
    obtain ⟨u6, hu6, h⟩ := Ag h
    refine dv rfl (Bw (f := Ac) Qr (fun _ => rfl) rfl rfl rfl rfl hu6) ?_
    refine dv rfl (A6 J3 rfl) (dv rfl (Ae E6 rfl (.cp _) rfl) (dv rfl (Aa J3 rfl) (dv rfl (Ae E6 rfl (.lp _ _ _ rfl) rfl) ?_)))
    obtain ⟨v7, hv7, h⟩ := Ag h
    refine dd rfl (C1 Akj (Ad rfl (Ad rfl Aj)) rfl (I3 hv7)) (dv rfl (E8 rfl) (Py (Ab (Bp (Bp (I0 (Bool × (List Af)) (fun b8 => [(2, .s (.one (.lp 0 0))), (3, .s (.one (.lp 1 0))), (4, .s (.one (.lp 2 0))), (6, .s (.one (.ls 3 b8.2.length))), (7, .s (.one (.b b8.1))), (8, .s (.one (Ii6 s5.2.1))), (9, .s (.one (Ii6 v7)))]) (fun b8 => [.box [.sl a0.L.length (a0.L.flatMap Ac)], .box (EL.el a1), .box [Znl], .arr 48 3 0 (b8.2.flatMap Ac)]) (fun b8 => Ht a0 s5 v7 b8 = some y5) (fun _ _ => Az rfl) (fun _ _ => Ak rfl) (fun _ _ => Nbl rfl) (fun b8 h => ?_) ?_))))))
    ·unfold Ht at h
     refine csr (rm 1 rfl (sv rfl (P4 rfl rfl) (Al (ccI h rfl (fun h => ?_) (fun h => ?_)))))
     ·refine Ax (rm 1 rfl (fl N6 Ry rfl rfl rfl rfl rfl rfl (sv rfl (A3 rfl) ?_)))
      obtain ⟨u9, hu9, h⟩ := Ag h
      refine sv rfl (Bw (f := Ac) Qr (fun _ => rfl) rfl rfl rfl rfl hu9) ?_
      refine sv rfl (Bq (ys := [.sl u9.Key.length (u9.Key.flatMap eU8), .sl u9.Val.length (u9.Val.flatMap eU8), .b u9.Del]) Aas rfl (.cp _) rfl rfl) ?_
      refine Fw rfl Tryz.underlying26 Ael rfl rfl (List.all_eq_true.1 rfl) (by decide) ?_
      refine Cc [.box [.sl a0.L.length (a0.L.flatMap Ac)], .box (EL.el a1), .box [Znl], .arr 48 3 0 (b8.2.flatMap Ac), .arr 48 3 0 ([u9].flatMap Ac)] rfl ?_
      obtain ⟨hb10, h⟩ := Cl h
      refine Wx (f := Ac) (xs := b8.2) (us := [u9]) rfl Tryz.underlying26 Ael Aos (fun _ => rfl) rfl rfl (.one _ _ _ _ (.ls _ _ _ _ _ _ rfl (Ay (f := Ac) (fun _ => rfl) [u9]).symm)) rfl rfl rfl (.sl _ _ _ (Ay (f := Ac) (fun _ => rfl) _)) rfl rfl hb10 (by decide) ?_
      refine rm 1 rfl (Hy (Am (Ab (Ax (rm 1 rfl (sv rfl (Bj rfl rfl) (rm 1 rfl (Al ?_))))))))
      obtain rfl := SJ h
      exact ⟨(n5, (b8.1, (wI (s5.2.1 + 1)), (b8.2 ++ [u9]))), _, hk5, ⟨rfl, rfl, rfl, rfl, rfl, rfl, trivial⟩, rfl, Nat.lt_succ_self _⟩
     ·refine Be (Am (Ab (Ax (rm 1 rfl (sv rfl (Bj rfl rfl) (rm 1 rfl (Al ?_)))))))
      obtain rfl := SJ h
      exact ⟨(n5, (b8.1, (wI (s5.2.1 + 1)), b8.2)), _, hk5, ⟨rfl, rfl, rfl, rfl, rfl, rfl, trivial⟩, rfl, Nat.lt_succ_self _⟩
    ·skip
     refine Ax (rm 1 rfl (sv rfl (G6 rfl rfl) (rm 1 rfl (Bc 38 rfl (fun hc => ?_) (fun hc => ?_)))))
     ·replace h := Bt hc h
      clear hc
      refine rm 1 rfl (son rfl rfl rfl (sv rfl (B1 rfl) (rm 1 rfl (Al (ccI h rfl (fun h => ?_) (fun h => ?_))))))
      ·refine csr (rm 1 rfl (sv rfl (Ap Aas rfl (.lp _ _ _ rfl) (Nbl rfl)) ?_))
       refine Fw rfl Tryz.underlying26 Ael rfl rfl (List.all_eq_true.1 rfl) (by decide) ?_
       refine Cc [.box [.sl a0.L.length (a0.L.flatMap Ac)], .box (EL.el a1), .box [Znl], .arr 48 3 0 (s5.2.2.flatMap Ac), .arr 48 3 0 ([a1].flatMap Ac)] rfl ?_
       obtain ⟨hb11, h⟩ := Cl h
       refine Wx (f := Ac) (xs := s5.2.2) (us := [a1]) rfl Tryz.underlying26 Ael Aos (fun _ => rfl) rfl rfl (.one _ _ _ _ (.ls _ _ _ _ _ _ rfl (Ay (f := Ac) (fun _ => rfl) [a1]).symm)) rfl rfl rfl (.sl _ _ _ (Ay (f := Ac) (fun _ => rfl) _)) rfl rfl hb11 (by decide) ?_
       refine rm 1 rfl (Al (Ax (rm 1 rfl (Al ?_))))
       exact ⟨(true, (s5.2.2 ++ [a1])), _, h, ⟨rfl, rfl, rfl, rfl, rfl, rfl, rfl, trivial⟩, rfl⟩
      ·refine Be (Ab ?_)
       exact ⟨(s5.1, s5.2.2), _, h, ⟨rfl, rfl, rfl, rfl, rfl, rfl, rfl, trivial⟩, rfl⟩
     ·replace h := Bu hc h
      clear hc
      refine rm 3 rfl (Al (Cm rfl (fun hx => Bool.noConfusion hx) (fun _ => ?_)))
      refine Be (Ab ?_)
      exact ⟨(s5.1, s5.2.2), _, h, ⟨rfl, rfl, rfl, rfl, rfl, rfl, rfl, trivial⟩, rfl⟩
   ·refine Dp (Aq (Aq (Bd (Ab ?_))))
    obtain rfl := SJ h
    obtain rfl : _ = x5 := hk5
    exact ⟨(s5.1, s5.2.2), _, ho5, ⟨rfl, rfl, rfl, rfl, trivial⟩, rfl⟩
 ·skip
  refine Ax (sv rfl (Ap Wm rfl (.lp _ _ _ rfl) (Nbl rfl)) ?_)
  obtain ⟨v13, hv13, h⟩ := Ag h
  refine Bn rfl Aqw (Ad rfl Aj) (A4 rfl) (Sd hv13) (sv rfl (B1 rfl) (rm 1 rfl (Bc 13 rfl (fun hc => ?_) (fun hc => ?_))))
  ·replace h := Bt hc h
   clear hc
   refine rm 5 rfl (Al (Cm rfl (fun _ => ?_) (fun hx => Bool.noConfusion hx)))
   refine csr (sv rfl (Bl Yr Af2 Ba (.nil _)) (A9 Zf rfl rfl rfl rfl (Nbl rfl) (Cc [.box [.sl a0.L.length (a0.L.flatMap Ac)], .box (EL.el a1), .box [Znl]] rfl (rm 1 rfl (Al (Bo (Ah ?_)))))))
   obtain rfl := SJ h
   refine ⟨Or.inr rfl, _, _, _, (Ai (B9.agg _ _ _ _ _ Wm rfl (.lp _ _ _ rfl) (Nbl rfl)) (Ai (B9.tmp _ _ rfl) Au)), (Sj rfl), ?_⟩
   rfl
  ·replace h := Bu hc h
   clear hc
   refine son rfl rfl rfl (sv rfl (Ap Aas rfl (.lp _ _ _ rfl) (Nbl rfl)) (son rfl rfl rfl ?_))
   refine Fw rfl Tryz.underlying26 Ael rfl rfl (List.all_eq_true.1 rfl) (by decide) ?_
   refine Cc [.box [.sl a0.L.length (a0.L.flatMap Ac)], .box (EL.el a1), .box [Znl], .arr 48 3 0 ([a1].flatMap Ac)] rfl (son rfl rfl rfl ?_)
   refine Vy 15 rfl (by (repeat' first | exact Ga.nil _ | apply Ga.cons | apply F5.one | apply F5.agg | exact Ci.nil | exact Ci.ls _ _ _ _ _ _ rfl (Ay (f := Ac) (fun _ => rfl) ([a1] : List Af)).symm | exact Ci.ls _ _ _ _ _ _ rfl (Ay (f := Ac) (fun _ => rfl) _).symm | exact Ci.id _ rfl | exact Cg.nil _ | apply Cg.cons)) ?_
   obtain ⟨v14, hv14, h⟩ := Ag h
   refine Bn rfl App (Ad rfl Aj) (A4 rfl) (Nl hv14) (son rfl rfl rfl (sv rfl (B1 rfl) (rm 1 rfl (Al (ccI h rfl (fun h => ?_) (fun h => ?_))))))
   ·refine csr (sv rfl (Bl Yr Af2 Ba (.nil _)) (A9 Zf rfl rfl rfl rfl (Nbl rfl) (Cc [.box [.sl a0.L.length (a0.L.flatMap Ac)], .box (EL.el a1), .box [Znl], .arr 48 3 ([a1].flatMap Ac).length ([a1].flatMap Ac)] rfl (rm 1 rfl (Al (Bo (Ah ?_)))))))
    obtain rfl := SJ h
    refine ⟨Or.inr rfl, _, _, _, (Ai (B9.agg _ _ _ _ _ Wm rfl (.lp _ _ _ rfl) (Nbl rfl)) (Ai (B9.tmp _ _ rfl) Au)), (Sj rfl), ?_⟩
    rfl
   ·refine Be (Ab ?_)
    exact ⟨(), _, h, ⟨rfl, rfl, rfl, trivial⟩, rfl⟩
def Nk (b1 : Bool × (List UInt8) × (List Aw)) : Option Fj :=
 some (Fj.mk 0 0 0 0 b1.1 b1.2.1 b1.2.2)
def E4 (a0 : Ej) (a1 : List Aw) (s2 : Int × Bool × (List UInt8) × (List Aw)) (b3 : Bool × (List UInt8)) : Option (LB (Int × Bool × (List UInt8) × (List Aw)) (Bool × (List UInt8) × (List Aw))) :=
 if (decide (a0.Kind = 6)) then ((idx a1 s2.1).bind fun u4 => (Lq a0.Rng u4.Key).bind fun v5 => if v5 then (if (decide ((s2.2.2.2.length : Int) < 8)) then ((idx a1 s2.1).bind fun u6 => if (s2.2.2.2.length + ([u6] : List Aw).length) * 48 ≤ 140737488355328 then (some (.cont ((wI (s2.1 + 1)), b3.1, b3.2, (s2.2.2.2 ++ ([u6] : List Aw))))) else none) else (some (.cont ((wI (s2.1 + 1)), b3.1, b3.2, s2.2.2.2)))) else (some (.cont ((wI (s2.1 + 1)), b3.1, b3.2, s2.2.2.2)))) else (some (.cont ((wI (s2.1 + 1)), b3.1, b3.2, s2.2.2.2)))
def G8 (a0 : Ej) (a1 : List Aw) (s2 : Int × Bool × (List UInt8) × (List Aw)) : Option (LB (Int × Bool × (List UInt8) × (List Aw)) (Bool × (List UInt8) × (List Aw))) :=
 if (decide (s2.1 < (a1.length : Int))) then (if (decide (a0.Kind = 3)) then ((idx a1 s2.1).bind fun u8 => if (u8.Key == a0.Key) then ((idx a1 s2.1).bind fun u9 => E4 a0 a1 s2 (true, u9.Val)) else (E4 a0 a1 s2 (s2.2.1, s2.2.2.1))) else (E4 a0 a1 s2 (s2.2.1, s2.2.2.1))) else (some (.brk (s2.2.1, s2.2.2.1, s2.2.2.2)))
def Kz (a0 : Ej) (a1 : List Aw) : Option Fj :=
 (Cw (G8 a0 a1) fuel (0, false, ([] : List UInt8), ([] : List Aw))).bind fun e10 => Nk e10
theorem W3 {a0 : Ej} {a1 : List Aw} {r : Fj} (h : Kz a0 a1 = some r) : Bz Tryz.prog 44 [.agg (EL.el a0), .one (.sl a1.length (a1.flatMap A2))] (· = .s (.agg (EL.el r))) := by
 unfold Kz at h
 refine A8 Tryz.func44 rfl (nt := 65) rfl (Nbl rfl) ?_
 intro w0 S0
 refine csr (Kp rfl rfl (Ce rfl Al2 (Al (csr (sv rfl (Bl Al2 Aqf Ba (.nil _)) (Ce rfl Al2 (A9 Amo rfl rfl rfl rfl (Nbl rfl) (Cc [.box (EL.el a0), .box Zbc, .box Zbc] rfl (Al (Bp (csr (rm 1 rfl (Al ?_)))))))))))))
 refine Q1 77 2 2 6 (by decide) rfl rfl ?_
 refine C4 (Bool × (List UInt8) × (List Aw)) (fun b1 => [(4, .s (.one (.lp 1 0))), (5, .s (.one (.lp 2 0)))]) (fun b1 => [.box (EL.el a0), .box Zbc, .box [Ii6 0, Ii6 0, Ii6 0, Ii6 0, .b b1.1, .sl b1.2.1.length (b1.2.1.flatMap eU8), .ls 3 b1.2.2.length], .arr 77 2 0 (b1.2.2.flatMap A2)]) (fun b1 => Nk b1 = some r) (fun _ _ => Az rfl) (fun _ _ => Ak rfl) (fun _ _ => Nbl rfl) (fun b1 h => ?_) ?_
 ·unfold Nk at h
  refine csr (sv rfl (Ap Am5 rfl (.lp _ _ _ rfl) (Nbl rfl)) (A9 Amo rfl rfl rfl rfl (Nbl rfl) (Cc [.box (EL.el a0), .box [Ii6 0, Ii6 0, Ii6 0, Ii6 0, .b b1.1, .sl b1.2.1.length (b1.2.1.flatMap eU8), .ls 3 b1.2.2.length], .box [Ii6 0, Ii6 0, Ii6 0, Ii6 0, .b b1.1, .sl b1.2.1.length (b1.2.1.flatMap eU8), .ls 3 b1.2.2.length], .arr 77 2 0 (b1.2.2.flatMap A2)] rfl (Al (Bo ?_)))))
  obtain rfl := SJ h
  refine ⟨Or.inr rfl, _, _, _, (Ai (B9.agg _ _ _ _ _ Am5 rfl (.lp _ _ _ rfl) (Nbl rfl)) Au), (by (repeat' first | exact Ga.nil _ | apply Ga.cons | apply F5.one | apply F5.agg | exact Ci.nil | exact Ci.ls _ _ _ _ _ _ rfl (Ay (f := A2) (fun _ => rfl) _).symm | exact Ci.id _ rfl | exact Cg.nil _ | apply Cg.cons)), ?_⟩
  rfl
 ·skip
  refine Bf (O5 2 5 rfl rfl Ci.nil rfl ?_)
  obtain ⟨x2, hx2, ho2⟩ := Ag h
  refine Bs (G := Nat × (Int × Bool × (List UInt8) × (List Aw))) (fun g => [(1, .s (.one (.sl a1.length (a1.flatMap A2)))), (2, .s (.one (.lp 0 0))), (4, .s (.one (.lp 1 0))), (5, .s (.one (.lp 2 0))), (6, .s (.one (Ii6 g.2.1)))]) (fun g => [.box (EL.el a0), .box Zbc, .box [Ii6 0, Ii6 0, Ii6 0, Ii6 0, .b g.2.2.1, .sl g.2.2.2.1.length (g.2.2.2.1.flatMap eU8), .ls 3 g.2.2.2.2.length], .arr 77 2 0 (g.2.2.2.2.flatMap A2)]) (fun g => Cw (G8 a0 a1) g.1 g.2 = some x2) (fun g => g.1) (fuel, (0, false, ([] : List UInt8), ([] : List Aw))) hx2 ⟨rfl, rfl, rfl, rfl, rfl, trivial⟩ [] rfl (fun _ _ => Az rfl) (fun _ _ => Ak rfl) (fun _ _ => Nbl rfl) ?_
  clear hx2 h
  rintro ⟨n2, s2⟩ h
  obtain ⟨n2, y2, rfl, h, hk2⟩ := Dw h
  unfold G8 at h
  refine Bp (csr (rm 2 rfl (sv rfl (An P8 rfl) (sv rfl (Bi rfl rfl) (Al (ccI h rfl (fun h => ?_) (fun h => ?_)))))))
  ·refine Be (Ab (Bp (Bf (Bp (Bp (I0 (Bool × (List UInt8)) (fun b3 => [(1, .s (.one (.sl a1.length (a1.flatMap A2)))), (2, .s (.one (.lp 0 0))), (4, .s (.one (.lp 1 0))), (5, .s (.one (.lp 2 0))), (6, .s (.one (Ii6 s2.1)))]) (fun b3 => [.box (EL.el a0), .box Zbc, .box [Ii6 0, Ii6 0, Ii6 0, Ii6 0, .b b3.1, .sl b3.2.length (b3.2.flatMap eU8), .ls 3 s2.2.2.2.length], .arr 77 2 0 (s2.2.2.2.flatMap A2)]) (fun b3 => E4 a0 a1 s2 b3 = some y2) (fun _ _ => Az rfl) (fun _ _ => Ak rfl) (fun _ _ => Nbl rfl) (fun b3 h => ?_) ?_))))))
   ·unfold E4 at h
    refine Bp ?_
    refine Qc mixed (by kernel_rfl) ?_
    refine dv rfl (Aa Ug rfl) (dv rfl (Ae ti3 rfl (.lp _ _ _ rfl) rfl) (dv rfl (Bg rfl rfl) (dv rfl (A3 rfl) (Mw 39 rfl (fun hc => ?_) (fun hc => ?_)))))
    ·replace h := Bt hc h
     clear hc
     refine dvg rfl rfl rfl (Aa Alj rfl) (dvg rfl rfl rfl (Ap Vd rfl (.lp _ _ _ rfl) (Nbl rfl)) (dvg rfl rfl rfl (A3 rfl) (dvg rfl rfl rfl (A3 rfl) ?_)))
     obtain ⟨u4, hu4, h⟩ := Ag h
     refine dvg rfl rfl rfl (Bw (f := A2) P8 (fun _ => rfl) rfl rfl rfl rfl hu4) ?_
     refine dvg rfl rfl rfl (A6 Ql rfl) (dvg rfl rfl rfl (Ae E6 rfl (.cp _) rfl) ?_)
     obtain ⟨v5, hv5, h⟩ := Ag h
     refine ddg rfl rfl rfl (C1 Aqa (Ad rfl (Ad rfl Aj)) rfl (P9 hv5)) (dv rfl (Cs rfl rfl) (dv rfl (A3 rfl) (Mw 49 rfl (fun hc => ?_) (fun hc => ?_))))
     ·replace h := Bt hc h
      clear hc
      refine dvg rfl rfl rfl (Aa Uk rfl) (dvg rfl rfl rfl (Ae Aja rfl (.lp _ _ _ rfl) rfl) (dvg rfl rfl rfl (Lw P8 rfl rfl (Ay (f := A2) (fun _ => rfl) _).symm) ?_))
      refine dvg rfl rfl rfl (Bi rfl rfl) (dv rfl (Cs rfl rfl) (Py (Ab (ccI h rfl (fun h => ?_) (fun h => ?_)))))
      ·obtain ⟨u6, hu6, h⟩ := Ag h
       obtain ⟨hb7, h⟩ := Cl h
       refine Ei [7, 9] [0, 1, 0, 0, 12, 28, 60, 127, 255, 511] [[.box (EL.el a0), .box Zbc, .box [Ii6 0, Ii6 0, Ii6 0, Ii6 0, .b b3.1, .sl b3.2.length (b3.2.flatMap eU8), .ls 3 s2.2.2.2.length], .arr 77 2 0 (s2.2.2.2.flatMap A2)], [.box (EL.el a0), .box Zbc, .box [Ii6 0, Ii6 0, Ii6 0, Ii6 0, .b b3.1, .sl b3.2.length (b3.2.flatMap eU8), .ls 3 s2.2.2.2.length], .arr 77 2 0 ((s2.2.2.2 ++ ([u6] : List Aw)).flatMap A2)], [.box (EL.el a0), .box Zbc, .box [Ii6 0, Ii6 0, Ii6 0, Ii6 0, .b b3.1, .sl b3.2.length (b3.2.flatMap eU8), .ls 3 (s2.2.2.2 ++ ([u6] : List Aw)).length], .arr 77 2 0 ((s2.2.2.2 ++ ([u6] : List Aw)).flatMap A2)]] (by kernel_rfl) mixed (by kernel_rfl) (by decide) rfl rfl rfl rfl ?_
       refine ev (Av 0 rfl rfl) rfl rfl (Aa Uk rfl) (ev (Av 0 rfl rfl) rfl rfl (Ae Aja rfl (.lp _ _ _ rfl) rfl) (ev (Av 0 rfl rfl) rfl rfl (A3 rfl) (ev (Av 0 rfl rfl) rfl rfl (A3 rfl) (ev (Av 0 rfl rfl) rfl rfl (Bw (f := A2) P8 (fun _ => rfl) rfl rfl rfl rfl hu6) ?_))))
       refine ev (Av 0 rfl rfl) rfl rfl (Bq (ys := [.sl u6.Key.length (u6.Key.flatMap eU8), .sl u6.Val.length (u6.Val.flatMap eU8)]) Ai0 rfl (.cp _) rfl rfl) ?_
       refine ed (Av 0 rfl rfl) rfl rfl (Acd (out := ([u6] : List Aw).flatMap A2) Tryz.underlying37 Amb (A1 rfl Ba) (.cons _ _ _ _ _ _ _ rfl rfl (Nbl rfl) (.nil _)) rfl (by decide)) ?_
       refine ee (x := .s (.one (.ls 3 (s2.2.2.2 ++ ([u6] : List Aw)).length))) 0 rfl rfl rfl rfl rfl (fun ζ => ?_) ?_
       ·refine Wx (f := A2) (xs := s2.2.2.2) (us := ([u6] : List Aw)) rfl Tryz.underlying37 Amb Apa (fun _ => rfl) rfl rfl (.one _ _ _ _ (.id _ rfl)) rfl rfl rfl (.sl _ _ _ (Ay (f := A2) (fun _ => rfl) _)) rfl rfl hb7 (by decide) ?_
        exact Ol
       refine ev (Av 1 rfl rfl) rfl rfl (Aa Uk rfl) (ee0 1 rfl rfl rfl rfl (fun ζ => ?_) ?_)
       ·refine A9 Arh rfl rfl rfl rfl (Nbl rfl) (Cc [.box (EL.el a0), .box Zbc, .box [Ii6 0, Ii6 0, Ii6 0, Ii6 0, .b b3.1, .sl b3.2.length (b3.2.flatMap eU8), .ls 3 (s2.2.2.2 ++ ([u6] : List Aw)).length], .arr 77 2 0 ((s2.2.2.2 ++ ([u6] : List Aw)).flatMap A2)] rfl ?_)
        exact Ol
       refine Tb (Am (Ab (Ax (rm 1 rfl (sv rfl (Bj rfl rfl) (rm 1 rfl (Al ?_)))))))
       obtain rfl := SJ h
       exact ⟨(n2, ((wI (s2.1 + 1)), b3.1, b3.2, (s2.2.2.2 ++ ([u6] : List Aw)))), _, hk2, ⟨rfl, rfl, rfl, rfl, rfl, trivial⟩, rfl, Nat.lt_succ_self _⟩
      ·refine Be (Am (Ab (Ax (rm 1 rfl (sv rfl (Bj rfl rfl) (rm 1 rfl (Al ?_)))))))
       obtain rfl := SJ h
       exact ⟨(n2, ((wI (s2.1 + 1)), b3.1, b3.2, s2.2.2.2)), _, hk2, ⟨rfl, rfl, rfl, rfl, rfl, trivial⟩, rfl, Nat.lt_succ_self _⟩
     ·replace h := Bu hc h
      clear hc
      refine Dz rfl rfl rfl rfl (Dz rfl rfl rfl rfl (Dz rfl rfl rfl rfl (Dz rfl rfl rfl rfl (dv rfl (Cj rfl rfl) (Py (Ab (Cm rfl (fun hx => Bool.noConfusion hx) (fun _ => ?_))))))))
      refine Be (Am (Ab (Ax (rm 1 rfl (sv rfl (Bj rfl rfl) (rm 1 rfl (Al ?_)))))))
      obtain rfl := SJ h
      exact ⟨(n2, ((wI (s2.1 + 1)), b3.1, b3.2, s2.2.2.2)), _, hk2, ⟨rfl, rfl, rfl, rfl, rfl, trivial⟩, rfl, Nat.lt_succ_self _⟩
    ·replace h := Bu hc h
     clear hc
     refine Dz rfl rfl rfl rfl (Dz rfl rfl rfl rfl (Dz rfl rfl rfl rfl (Dz rfl rfl rfl rfl (Dz rfl rfl rfl rfl (Dz rfl rfl rfl rfl (Dz rfl rfl rfl rfl (Dz rfl rfl rfl rfl (dv rfl (Cj rfl rfl) (dv rfl (A3 rfl) (Dz rfl rfl rfl rfl (Dz rfl rfl rfl rfl (Dz rfl rfl rfl rfl (Dz rfl rfl rfl rfl (dv rfl (Cj rfl rfl) (Py (Ab (Cm rfl (fun hx => Bool.noConfusion hx) (fun _ => ?_))))))))))))))))))
     refine Be (Am (Ab (Ax (rm 1 rfl (sv rfl (Bj rfl rfl) (rm 1 rfl (Al ?_)))))))
     obtain rfl := SJ h
     exact ⟨(n2, ((wI (s2.1 + 1)), b3.1, b3.2, s2.2.2.2)), _, hk2, ⟨rfl, rfl, rfl, rfl, rfl, trivial⟩, rfl, Nat.lt_succ_self _⟩
   ·skip
    refine Qc mixed (by kernel_rfl) ?_
    refine dv rfl (Aa Ug rfl) (dv rfl (Ae ti3 rfl (.lp _ _ _ rfl) rfl) (dv rfl (Bg rfl rfl) (dv rfl (A3 rfl) (Mw 17 rfl (fun hc => ?_) (fun hc => ?_)))))
    ·replace h := Bt hc h
     clear hc
     refine dvg rfl rfl rfl (A3 rfl) (dvg rfl rfl rfl (A3 rfl) ?_)
     obtain ⟨u8, hu8, h⟩ := Ag h
     refine dvg rfl rfl rfl (Bw (f := A2) P8 (fun _ => rfl) rfl rfl rfl rfl hu8) ?_
     refine dvg rfl rfl rfl (A6 Ql rfl) (dvg rfl rfl rfl (Ae E6 rfl (.cp _) rfl) (dvg rfl rfl rfl (O9 (l := u8.Key) Tryz.underlying46 Tryz.underlying5 Tryz.underlying9 rfl rfl rfl) (dvg rfl rfl rfl (Aa Ab7 rfl) (dvg rfl rfl rfl (Ae E6 rfl (.lp _ _ _ rfl) rfl) (dvg rfl rfl rfl (O9 (l := a0.Key) Tryz.underlying46 Tryz.underlying5 Tryz.underlying9 rfl rfl rfl) (dvg rfl rfl rfl (W7 rfl rfl) (dv rfl (Cs rfl rfl) (Py (Ab (ccI h rfl (fun h => ?_) (fun h => ?_)))))))))))
     ·refine csr (sv rfl (Aa Abv rfl) (A9 sz4 rfl rfl rfl rfl (Nbl rfl) (Cc [.box (EL.el a0), .box Zbc, .box [Ii6 0, Ii6 0, Ii6 0, Ii6 0, .b true, .sl s2.2.2.1.length (s2.2.2.1.flatMap eU8), .ls 3 s2.2.2.2.length], .arr 77 2 0 (s2.2.2.2.flatMap A2)] rfl (Al (Ax (rm 1 rfl (sv rfl (A3 rfl) ?_)))))))
      obtain ⟨u9, hu9, h⟩ := Ag h
      refine sv rfl (Bw (f := A2) P8 (fun _ => rfl) rfl rfl rfl rfl hu9) ?_
      refine sv rfl (A6 Ya rfl) (sv rfl (Ae E6 rfl (.cp _) rfl) (sv rfl (Aa Afb rfl) (A9 Arm rfl rfl rfl rfl (Nbl rfl) (Cc [.box (EL.el a0), .box Zbc, .box [Ii6 0, Ii6 0, Ii6 0, Ii6 0, .b true, .sl u9.Val.length (u9.Val.flatMap eU8), .ls 3 s2.2.2.2.length], .arr 77 2 0 (s2.2.2.2.flatMap A2)] rfl (Al ?_)))))
      exact ⟨(true, u9.Val), _, h, ⟨rfl, rfl, rfl, rfl, rfl, trivial⟩, rfl⟩
     ·refine Be (Ab ?_)
      exact ⟨(s2.2.1, s2.2.2.1), _, h, ⟨rfl, rfl, rfl, rfl, rfl, trivial⟩, rfl⟩
    ·replace h := Bu hc h
     clear hc
     refine Dz rfl rfl rfl rfl (Dz rfl rfl rfl rfl (Dz rfl rfl rfl rfl (Dz rfl rfl rfl rfl (Dz rfl rfl rfl rfl (Dz rfl rfl rfl rfl (Dz rfl rfl rfl rfl (Dz rfl rfl rfl rfl (Dz rfl rfl rfl rfl (Dz rfl rfl rfl rfl (dv rfl (Cj rfl rfl) (Py (Ab (Cm rfl (fun hx => Bool.noConfusion hx) (fun _ => ?_))))))))))))))
     refine Be (Ab ?_)
     exact ⟨(s2.2.1, s2.2.2.1), _, h, ⟨rfl, rfl, rfl, rfl, rfl, trivial⟩, rfl⟩
  ·refine Dp (Aq (Aq (Bd (Ab ?_))))
   obtain rfl := SJ h
   obtain rfl : _ = x2 := hk2
   exact ⟨(s2.2.1, s2.2.2.1, s2.2.2.2), _, ho2, ⟨rfl, rfl, trivial⟩, rfl⟩
def O1 (b1 : Int) : Option Int :=
 some b1
def M5 (a0 : List UInt8) (s2 : Int × Int × Int) (b3 : Unit) : Option (LB (Int × Int × Int) (Int)) :=
 (idx a0 s2.2.2).bind fun u4 => some (.cont ((wI (s2.1 + (wI ((wI (u4.toBitVec.toNat : Int)) * s2.2.1)))), (wI (s2.2.1 * 256)), (wI (s2.2.2 + 1))))
def K9 (a0 : List UInt8) (s2 : Int × Int × Int) : Option (LB (Int × Int × Int) (Int)) :=
 if (decide (s2.2.2 < (a0.length : Int))) then (if (decide (s2.2.2 < 4)) then (M5 a0 s2 ()) else (some (.brk s2.1))) else (some (.brk s2.1))
def M3 (a0 : List UInt8) : Option Int :=
 (Cw (K9 a0) fuel (0, 1, 0)).bind fun e5 => O1 e5
theorem Tj {a0 : List UInt8} {r : Int} (h : M3 a0 = some r) : Bz Tryz.prog 79 [.one (.sl a0.length (a0.flatMap eU8))] (· = .s (.one (Ii6 r))) := by
 unfold M3 at h
 refine A8 Tryz.func79 rfl (nt := 28) rfl (Nbl rfl) ?_
 intro w0 S0
 refine csr (rm 1 rfl (Al (csr (rm 1 rfl (Al (csr (rm 1 rfl (Al (Bp (csr (rm 1 rfl (Al (C4 (Int) (fun b1 => [(3, .s (.one (Ii6 b1)))]) (fun b1 => []) (fun b1 => O1 b1 = some r) (fun _ _ => Az rfl) (fun _ _ => Ak rfl) (fun _ _ => Nbl rfl) (fun b1 h => ?_) ?_)))))))))))))
 ·unfold O1 at h
  refine csr (rm 2 rfl (Al (Bo ?_)))
  obtain rfl := SJ h
  exact dnT rfl rfl rfl rfl
 ·skip
  refine Bf ?_
  obtain ⟨x2, hx2, ho2⟩ := Ag h
  refine Bs (G := Nat × (Int × Int × Int)) (fun g => [(0, .s (.one (.sl a0.length (a0.flatMap eU8)))), (3, .s (.one (Ii6 g.2.1))), (4, .s (.one (Ii6 g.2.2.1))), (5, .s (.one (Ii6 g.2.2.2)))]) (fun g => []) (fun g => Cw (K9 a0) g.1 g.2 = some x2) (fun g => g.1) (fuel, (0, 1, 0)) hx2 ⟨rfl, rfl, rfl, rfl, trivial⟩ [] rfl (fun _ _ => Az rfl) (fun _ _ => Ak rfl) (fun _ _ => Nbl rfl) ?_
  clear hx2 h
  rintro ⟨n2, s2⟩ h
  obtain ⟨n2, y2, rfl, h, hk2⟩ := Dw h
  unfold K9 at h
  refine Bp (Bp (I0 (Unit) (fun b3 => [(0, .s (.one (.sl a0.length (a0.flatMap eU8)))), (3, .s (.one (Ii6 s2.1))), (4, .s (.one (Ii6 s2.2.1))), (5, .s (.one (Ii6 s2.2.2)))]) (fun b3 => []) (fun b3 => M5 a0 s2 b3 = some y2) (fun _ _ => Az rfl) (fun _ _ => Ak rfl) (fun _ _ => Nbl rfl) (fun b3 h => ?_) ?_))
  ·unfold M5 at h
   refine Bp (Bf (csr (rm 2 rfl (sv rfl (A3 rfl) ?_))))
   obtain ⟨u4, hu4, h⟩ := Ag h
   refine sv rfl (Bw (f := eU8) Ku (fun _ => rfl) rfl rfl rfl rfl hu4) ?_
   refine sv rfl (Ae ti5 rfl (.cp _) rfl) (sv rfl (Lx Tryz.underlying5 Tryz.underlying3 rfl) (rm 1 rfl (sv rfl (Yy rfl rfl) (sv rfl (Bj rfl rfl) (rm 1 rfl (Al (Ax (rm 1 rfl (sv rfl (Yy rfl rfl) (rm 1 rfl (Hy (Am (Ab (Ax (rm 1 rfl (sv rfl (Bj rfl rfl) (rm 1 rfl (Al ?_))))))))))))))))))
   obtain rfl := SJ h
   exact ⟨(n2, ((wI (s2.1 + (wI ((wI (u4.toBitVec.toNat : Int)) * s2.2.1)))), (wI (s2.2.1 * 256)), (wI (s2.2.2 + 1)))), _, hk2, ⟨rfl, rfl, rfl, rfl, trivial⟩, rfl, Nat.lt_succ_self _⟩
  ·skip
   refine Ax (rm 2 rfl (sv rfl (An Ku rfl) (sv rfl (Bi rfl rfl) (rm 1 rfl (Bc 10 rfl (fun hc => ?_) (fun hc => ?_))))))
   ·replace h := Bt hc h
    clear hc
    refine rm 1 rfl (son rfl rfl rfl (sv rfl (Bi rfl rfl) (rm 1 rfl (Al (ccI h rfl (fun h => ?_) (fun h => ?_))))))
    ·refine Be (Ab ?_)
     exact ⟨(), _, h, ⟨rfl, rfl, rfl, rfl, trivial⟩, rfl⟩
    ·refine Dp (Aq (Aq (Bd (Ab ?_))))
     obtain rfl := SJ h
     obtain rfl : _ = x2 := hk2
     exact ⟨s2.1, _, ho2, ⟨rfl, trivial⟩, rfl⟩
   ·replace h := Bu hc h
    clear hc
    refine rm 3 rfl (Al (Cm rfl (fun hx => Bool.noConfusion hx) (fun _ => ?_)))
    refine Dp (Aq (Aq (Bd (Ab ?_))))
    obtain rfl := SJ h
    obtain rfl : _ = x2 := hk2
    exact ⟨s2.1, _, ho2, ⟨rfl, trivial⟩, rfl⟩
def Ih (b5 : A7) : Option (A7 × Int) :=
 some ((A7.mk (wI (b5.PC + 1)) b5.Regs b5.Stopped), 0)
def Mg (a2 : Fj) (u3 : Na) (b4 : A7) (b6 : Int) : Option (A7 × Int) :=
 if 0 ≤ u3.B ∧ u3.B < ((8 : Nat) : Int) then ((Ck (C2.mk b4.Regs.R0 b4.Regs.R1 b4.Regs.R2 b4.Regs.R3 b4.Regs.R4 b4.Regs.R5 b4.Regs.R6 b4.Regs.R7) u3.B b6).bind fun q8 => if 0 ≤ u3.A ∧ u3.A < ((8 : Nat) : Int) then ((Ck (C2.mk q8.R0 q8.R1 q8.R2 q8.R3 q8.R4 q8.R5 q8.R6 q8.R7) u3.A (a2.List.length : Int)).bind fun q10 => Ih (A7.mk b4.PC q10 b4.Stopped)) else none) else none
def G9 (a2 : Fj) (s11 : Int × Int) : Option (LB (Int × Int) (Int)) :=
 if (decide (s11.2 < (a2.List.length : Int))) then ((idx a2.List s11.2).bind fun u12 => (M3 u12.Val).bind fun v13 => (I9 (wI (s11.1 + v13))).bind fun v14 => some (.cont (v14, (wI (s11.2 + 1))))) else (some (.brk s11.1))
def Fo (a2 : Fj) (u3 : Na) (b4 : A7) : Option (A7 × Int) :=
 if (decide (u3.What = 4)) then ((Cw (G9 a2) fuel (0, 0)).bind fun e15 => Mg a2 u3 b4 e15) else (Ih b4)
def Jd (a2 : Fj) (u3 : Na) (b18 : A7) : Option (A7 × Int) :=
 if 0 ≤ u3.A ∧ u3.A < ((8 : Nat) : Int) then ((Ck (C2.mk b18.Regs.R0 b18.Regs.R1 b18.Regs.R2 b18.Regs.R3 b18.Regs.R4 b18.Regs.R5 b18.Regs.R6 b18.Regs.R7) u3.A 0).bind fun q20 => if a2.Found then ((M3 a2.Val).bind fun v21 => if 0 ≤ u3.A ∧ u3.A < ((8 : Nat) : Int) then ((Ck (C2.mk q20.R0 q20.R1 q20.R2 q20.R3 q20.R4 q20.R5 q20.R6 q20.R7) u3.A v21).bind fun q23 => Fo a2 u3 (A7.mk b18.PC q23 b18.Stopped)) else none) else (Fo a2 u3 (A7.mk b18.PC q20 b18.Stopped))) else none
def Mi (a0 : Cb) (a1 : A7) (a2 : Fj) (b2 : Unit) : Option (A7 × Int) :=
 (idx a0.Ops a1.PC).bind fun u3 => if (decide (u3.What = 1)) then (if 0 ≤ u3.B ∧ u3.B < ((8 : Nat) : Int) then ((Ck (C2.mk a1.Regs.R0 a1.Regs.R1 a1.Regs.R2 a1.Regs.R3 a1.Regs.R4 a1.Regs.R5 a1.Regs.R6 a1.Regs.R7) u3.B 0).bind fun q17 => if a2.Found then (if 0 ≤ u3.B ∧ u3.B < ((8 : Nat) : Int) then ((Ck (C2.mk q17.R0 q17.R1 q17.R2 q17.R3 q17.R4 q17.R5 q17.R6 q17.R7) u3.B 1).bind fun q25 => Jd a2 u3 (A7.mk a1.PC q25 a1.Stopped)) else none) else (Jd a2 u3 (A7.mk a1.PC q17 a1.Stopped))) else none) else (Fo a2 u3 a1)
def Lv (a0 : Cb) (a1 : A7) (a2 : Fj) : Option (A7 × Int) :=
 (Hd a0).bind fun v1 => if (!v1) then (some (Gh, 1)) else (if (decide (a1.PC < 0)) then (some (Gh, 7)) else (if (decide ((a0.Ops.length : Int) ≤ a1.PC)) then (some (Gh, 7)) else ((idx a0.Ops a1.PC).bind fun u26 => if (decide (4 < u26.What)) then (some (Gh, 7)) else (if a1.Stopped then (some (Gh, 7)) else (Mi a0 a1 a2 ())))))
theorem Xj {a0 : Cb} {a1 : A7} {a2 : Fj} {r : A7 × Int} (h : Lv a0 a1 a2 = some r) : Bz Tryz.prog 43 [.agg (EL.el a0), .agg (EL.el a1), .agg (EL.el a2)] (· = .tup [.agg (EL.el r.1), .one (Ii6 r.2)]) := by
 unfold Lv at h
 refine A8 Tryz.func43 rfl (nt := 110) rfl (Nbl rfl) ?_
 intro w0 S0
 refine csr (Kp rfl rfl (Kp rfl rfl (Kp rfl rfl (Ce rfl Abw (rm 1 rfl (Al (Bp (csr (sv rfl (Ap Aj6 rfl (.lp _ _ _ rfl) (Nbl rfl)) ?_)))))))))
 obtain ⟨v1, hv1, h⟩ := Ag h
 refine Bn rfl Apn (Ad rfl Aj) (A4 rfl) (O4 hv1) (sv rfl (B1 rfl) (Al (ccI h rfl (fun h => ?_) (fun h => ?_))))
 ·refine csr (sv rfl (Bl Abw Ajz Ba (.nil _)) (A9 V0 rfl rfl rfl rfl (Nbl rfl) (Cc [.box (EL.el a0), .box (EL.el a1), .box (EL.el a2), .box Zba] rfl (rm 1 rfl (Al (Bo (Ah ?_)))))))
  obtain rfl := SJ h
  refine ⟨Or.inr rfl, _, _, _, (Ai (B9.agg _ _ _ _ _ Rz rfl (.lp _ _ _ rfl) (Nbl rfl)) (Ai (B9.tmp _ _ rfl) Au)), (A4 rfl), ?_⟩
  rfl
 ·refine Be (Ab (Bp (Bp (I0 (Unit) (fun b2 => [(3, .s (.one (.lp 0 0))), (4, .s (.one (.lp 1 0))), (5, .s (.one (.lp 2 0))), (6, .s (.one (.lp 3 0)))]) (fun b2 => [.box (EL.el a0), .box (EL.el a1), .box (EL.el a2), .box Zba]) (fun b2 => Mi a0 a1 a2 b2 = some r) (fun _ _ => Az rfl) (fun _ _ => Ak rfl) (fun _ _ => Nbl rfl) (fun b2 h => ?_) ?_))))
  ·unfold Mi at h
   refine csr (fl Oa Ab5 rfl rfl rfl rfl rfl rfl (sv rfl (Aa N2 rfl) (sv rfl (Ae ti3 rfl (.lp _ _ _ rfl) rfl) ?_)))
   obtain ⟨u3, hu3, h⟩ := Ag h
   refine sv rfl (Bw (f := Md) Abz (fun _ => rfl) rfl rfl rfl rfl hu3) ?_
   refine sv rfl (Bq (ys := [Ii6 u3.What, Ii6 u3.A, Ii6 u3.B, Ii6 u3.N, .sl u3.Key.length (u3.Key.flatMap eU8), .sl u3.Rng.Lo.length (u3.Rng.Lo.flatMap eU8), .sl u3.Rng.Hi.length (u3.Rng.Hi.flatMap eU8), .b u3.Rng.Open]) Aoj rfl (.cp _) rfl rfl) (Ce rfl Apu (A9 Aqg rfl rfl rfl rfl (Nbl rfl) (Cc [.box (EL.el a0), .box (EL.el a1), .box (EL.el a2), .box Zba, .box (EL.el u3)] rfl (Al (Bp (csr (fl Gv ti3 rfl rfl rfl rfl rfl rfl (sv rfl (Bg rfl rfl) (Al (C4 (A7) (fun b4 => [(4, .s (.one (.lp 1 0))), (5, .s (.one (.lp 2 0))), (6, .s (.one (.lp 3 0))), (8, .s (.one (.lp 4 0)))]) (fun b4 => [.box (EL.el a0), .box (EL.el b4), .box (EL.el a2), .box Zba, .box (EL.el u3)]) (fun b4 => Fo a2 u3 b4 = some r) (fun _ _ => Az rfl) (fun _ _ => Ak rfl) (fun _ _ => Nbl rfl) (fun b4 h => ?_) ?_))))))))))
   ·unfold Fo at h
    refine Bp (csr (fl Gv ti3 rfl rfl rfl rfl rfl rfl (sv rfl (Bg rfl rfl) (Al (C4 (A7) (fun b5 => [(4, .s (.one (.lp 1 0))), (6, .s (.one (.lp 3 0)))]) (fun b5 => [.box (EL.el a0), .box (EL.el b5), .box (EL.el a2), .box Zba, .box (EL.el u3)]) (fun b5 => Ih b5 = some r) (fun _ _ => Az rfl) (fun _ _ => Ak rfl) (fun _ _ => Nbl rfl) (fun b5 h => ?_) ?_)))))
    ·unfold Ih at h
     refine csr (fl N2 ti3 rfl rfl rfl rfl rfl rfl (sv rfl (Bj rfl rfl) (sv rfl (Aa N2 rfl) (A9 sz3 rfl rfl rfl rfl (Nbl rfl) (Cc [.box (EL.el a0), .box (EL.el {b5 with PC := wI (b5.PC + 1)}), .box (EL.el a2), .box Zba, .box (EL.el u3)] rfl (Al (csr (sv rfl (Ap Rz rfl (.lp _ _ _ rfl) (Nbl rfl)) (A9 V0 rfl rfl rfl rfl (Nbl rfl) (Cc [.box (EL.el a0), .box (EL.el {b5 with PC := wI (b5.PC + 1)}), .box (EL.el a2), .box (EL.el {b5 with PC := wI (b5.PC + 1)}), .box (EL.el u3)] rfl (rm 1 rfl (Al (Bo ?_)))))))))))))
     obtain rfl := SJ h
     refine ⟨Or.inr rfl, _, _, _, (Ai (B9.agg _ _ _ _ _ Rz rfl (.lp _ _ _ rfl) (Nbl rfl)) (Ai (B9.tmp _ _ rfl) Au)), (A4 rfl), ?_⟩
     rfl
    ·skip
     refine ccI h rfl (fun h => ?_) (fun h => ?_)
     ·refine csr (rm 1 rfl (Al (Bp (csr (rm 1 rfl (Al (C4 (Int) (fun b6 => [(4, .s (.one (.lp 1 0))), (5, .s (.one (.lp 2 0))), (6, .s (.one (.lp 3 0))), (8, .s (.one (.lp 4 0))), (9, .s (.one (Ii6 b6)))]) (fun b6 => [.box (EL.el a0), .box (EL.el b4), .box (EL.el a2), .box Zba, .box (EL.el u3)]) (fun b6 => Mg a2 u3 b4 b6 = some r) (fun _ _ => Az rfl) (fun _ _ => Ak rfl) (fun _ _ => Nbl rfl) (fun b6 h => ?_) ?_)))))))
      ·unfold Mg at h
       refine csr (fl U0 ti3 rfl rfl rfl rfl rfl rfl (rm 1 rfl (sv rfl (Aa Pb rfl) ?_)))
       obtain ⟨hj7, h⟩ := Cl h
       refine sv rfl (Eh Vt rfl rfl hj7) ?_
       obtain ⟨q8, hq8, h⟩ := Ag h
       refine A9 sz3 rfl rfl rfl rfl (Ro hj7 (Nbl rfl)) (Cc [.box (EL.el a0), .box [Ii6 b4.PC, Ii6 q8.R0, Ii6 q8.R1, Ii6 q8.R2, Ii6 q8.R3, Ii6 q8.R4, Ii6 q8.R5, Ii6 q8.R6, Ii6 q8.R7, .b b4.Stopped], .box (EL.el a2), .box Zba, .box (EL.el u3)] (K0 (Aa7 hq8 [Ii6 b4.PC] [.b b4.Stopped])) (Al (Ax (fl R9 ti3 rfl rfl rfl rfl rfl rfl (fl Uk Aja rfl rfl rfl rfl rfl rfl (sv rfl (An P8 rfl) (sv rfl (Aa Pb rfl) ?_)))))))
       obtain ⟨hj9, h⟩ := Cl h
       refine sv rfl (Eh Vt rfl rfl hj9) ?_
       obtain ⟨q10, hq10, h⟩ := Ag h
       refine A9 sz3 rfl rfl rfl rfl (Ro hj9 (Nbl rfl)) (Cc [.box (EL.el a0), .box [Ii6 b4.PC, Ii6 q10.R0, Ii6 q10.R1, Ii6 q10.R2, Ii6 q10.R3, Ii6 q10.R4, Ii6 q10.R5, Ii6 q10.R6, Ii6 q10.R7, .b b4.Stopped], .box (EL.el a2), .box Zba, .box (EL.el u3)] (K0 (Aa7 hq10 [Ii6 b4.PC] [.b b4.Stopped])) (Al ?_))
       exact ⟨(A7.mk b4.PC q10 b4.Stopped), _, h, ⟨rfl, rfl, trivial⟩, rfl⟩
      ·skip
       refine Bf ?_
       obtain ⟨x11, hx11, ho11⟩ := Ag h
       refine Bs (G := Nat × (Int × Int)) (fun g => [(4, .s (.one (.lp 1 0))), (5, .s (.one (.lp 2 0))), (6, .s (.one (.lp 3 0))), (8, .s (.one (.lp 4 0))), (9, .s (.one (Ii6 g.2.1))), (10, .s (.one (Ii6 g.2.2)))]) (fun g => [.box (EL.el a0), .box (EL.el b4), .box (EL.el a2), .box Zba, .box (EL.el u3)]) (fun g => Cw (G9 a2) g.1 g.2 = some x11) (fun g => g.1) (fuel, (0, 0)) hx11 ⟨rfl, rfl, rfl, rfl, rfl, rfl, trivial⟩ [] rfl (fun _ _ => Az rfl) (fun _ _ => Ak rfl) (fun _ _ => Nbl rfl) ?_
       clear hx11 h
       rintro ⟨n11, s11⟩ h
       obtain ⟨n11, y11, rfl, h, hk11⟩ := Dw h
       unfold G9 at h
       refine Bp (csr (rm 1 rfl (fl Uk Aja rfl rfl rfl rfl rfl rfl (sv rfl (An P8 rfl) (sv rfl (Bi rfl rfl) (Al (ccI h rfl (fun h => ?_) (fun h => ?_))))))))
       ·refine Be (Ab (Bp (Bf (Ax (rm 1 rfl (fl Uk Aja rfl rfl rfl rfl rfl rfl (sv rfl (A3 rfl) ?_)))))))
        obtain ⟨u12, hu12, h⟩ := Ag h
        refine sv rfl (Bw (f := A2) P8 (fun _ => rfl) rfl rfl rfl rfl hu12) ?_
        refine sv rfl (A6 Ya rfl) (sv rfl (Ae E6 rfl (.cp _) rfl) ?_)
        obtain ⟨v13, hv13, h⟩ := Ag h
        refine Bn rfl Are (Ad rfl Aj) (A4 rfl) (Tj hv13) (sv rfl (Bj rfl rfl) ?_)
        obtain ⟨v14, hv14, h⟩ := Ag h
        refine Bn rfl Aq7 (Ad rfl Aj) (A4 rfl) (Q8 hv14) (rm 1 rfl (Hy (Am (Ab (Ax (rm 1 rfl (sv rfl (Bj rfl rfl) (rm 1 rfl (Al ?_)))))))))
        obtain rfl := SJ h
        exact ⟨(n11, (v14, (wI (s11.2 + 1)))), _, hk11, ⟨rfl, rfl, rfl, rfl, rfl, rfl, trivial⟩, rfl, Nat.lt_succ_self _⟩
       ·refine Dp (Aq (Aq (Bd (Ab ?_))))
        obtain rfl := SJ h
        obtain rfl : _ = x11 := hk11
        exact ⟨s11.1, _, ho11, ⟨rfl, rfl, rfl, rfl, rfl, trivial⟩, rfl⟩
     ·refine Be (Ab ?_)
      exact ⟨b4, _, h, ⟨rfl, rfl, trivial⟩, rfl⟩
   ·skip
    refine ccI h rfl (fun h => ?_) (fun h => ?_)
    ·refine csr (fl U0 ti3 rfl rfl rfl rfl rfl rfl (sv rfl (Aa Pb rfl) ?_))
     obtain ⟨hj16, h⟩ := Cl h
     refine sv rfl (Eh Vt rfl rfl hj16) ?_
     obtain ⟨q17, hq17, h⟩ := Ag h
     refine A9 sz3 rfl rfl rfl rfl (Ro hj16 (Nbl rfl)) (Cc [.box (EL.el a0), .box [Ii6 a1.PC, Ii6 q17.R0, Ii6 q17.R1, Ii6 q17.R2, Ii6 q17.R3, Ii6 q17.R4, Ii6 q17.R5, Ii6 q17.R6, Ii6 q17.R7, .b a1.Stopped], .box (EL.el a2), .box Zba, .box (EL.el u3)] (K0 (Aa7 hq17 [Ii6 a1.PC] [.b a1.Stopped])) (Al (Bp (csr (fl Abv ti4 rfl rfl rfl rfl rfl rfl (Al (C4 (A7) (fun b18 => [(4, .s (.one (.lp 1 0))), (5, .s (.one (.lp 2 0))), (6, .s (.one (.lp 3 0))), (8, .s (.one (.lp 4 0)))]) (fun b18 => [.box (EL.el a0), .box (EL.el b18), .box (EL.el a2), .box Zba, .box (EL.el u3)]) (fun b18 => Jd a2 u3 b18 = some r) (fun _ _ => Az rfl) (fun _ _ => Ak rfl) (fun _ _ => Nbl rfl) (fun b18 h => ?_) ?_)))))))
     ·unfold Jd at h
      refine csr (fl R9 ti3 rfl rfl rfl rfl rfl rfl (sv rfl (Aa Pb rfl) ?_))
      obtain ⟨hj19, h⟩ := Cl h
      refine sv rfl (Eh Vt rfl rfl hj19) ?_
      obtain ⟨q20, hq20, h⟩ := Ag h
      refine A9 sz3 rfl rfl rfl rfl (Ro hj19 (Nbl rfl)) (Cc [.box (EL.el a0), .box [Ii6 b18.PC, Ii6 q20.R0, Ii6 q20.R1, Ii6 q20.R2, Ii6 q20.R3, Ii6 q20.R4, Ii6 q20.R5, Ii6 q20.R6, Ii6 q20.R7, .b b18.Stopped], .box (EL.el a2), .box Zba, .box (EL.el u3)] (K0 (Aa7 hq20 [Ii6 b18.PC] [.b b18.Stopped])) (Al (csr (fl Abv ti4 rfl rfl rfl rfl rfl rfl (Al (ccI h rfl (fun h => ?_) (fun h => ?_)))))))
      ·obtain ⟨v21, hv21, h⟩ := Ag h
       obtain ⟨hj22, h⟩ := Cl h
       obtain ⟨q23, hq23, h⟩ := Ag h
       refine Ei [7] [0, 1, 0, 4, 12, 0, 63, 127] [[.box (EL.el a0), .box [Ii6 b18.PC, Ii6 q20.R0, Ii6 q20.R1, Ii6 q20.R2, Ii6 q20.R3, Ii6 q20.R4, Ii6 q20.R5, Ii6 q20.R6, Ii6 q20.R7, .b b18.Stopped], .box (EL.el a2), .box Zba, .box (EL.el u3)], [.box (EL.el a0), .box [Ii6 b18.PC, Ii6 q23.R0, Ii6 q23.R1, Ii6 q23.R2, Ii6 q23.R3, Ii6 q23.R4, Ii6 q23.R5, Ii6 q23.R6, Ii6 q23.R7, .b b18.Stopped], .box (EL.el a2), .box Zba, .box (EL.el u3)]] (by kernel_rfl) mixed (by kernel_rfl) (by decide) rfl rfl rfl rfl ?_
       refine ev (Av 0 rfl rfl) rfl rfl (Aa R9 rfl) (ev (Av 0 rfl rfl) rfl rfl (Ae ti3 rfl (.lp _ _ _ rfl) rfl) (ev (Av 0 rfl rfl) rfl rfl (Aa Afb rfl) (ev (Av 0 rfl rfl) rfl rfl (Ae E6 rfl (.lp _ _ _ rfl) rfl) (ed (Av 0 rfl rfl) rfl rfl (C1 Are (Ad rfl Aj) rfl (Tj hv21)) (ev (Av 0 rfl rfl) rfl rfl (Aa Pb rfl) (ev (Av 0 rfl rfl) rfl rfl (Eh Vt rfl rfl hj22) (ee0 0 rfl rfl rfl rfl (fun ζ => ?_) ?_)))))))
       ·refine A9 sz3 rfl rfl rfl rfl (Ro hj22 (Nbl rfl)) (Cc [.box (EL.el a0), .box [Ii6 b18.PC, Ii6 q23.R0, Ii6 q23.R1, Ii6 q23.R2, Ii6 q23.R3, Ii6 q23.R4, Ii6 q23.R5, Ii6 q23.R6, Ii6 q23.R7, .b b18.Stopped], .box (EL.el a2), .box Zba, .box (EL.el u3)] (K0 (Aa7 hq23 [Ii6 b18.PC] [.b b18.Stopped])) ?_)
        exact Ol
       refine Tb (Ab ?_)
       exact ⟨(A7.mk b18.PC q23 b18.Stopped), _, h, ⟨rfl, rfl, rfl, rfl, trivial⟩, rfl⟩
      ·refine Be (Ab ?_)
       exact ⟨(A7.mk b18.PC q20 b18.Stopped), _, h, ⟨rfl, rfl, rfl, rfl, trivial⟩, rfl⟩
     ·skip
      refine ccI h rfl (fun h => ?_) (fun h => ?_)
      ·refine Ax (fl U0 ti3 rfl rfl rfl rfl rfl rfl (sv rfl (Aa Pb rfl) ?_))
       obtain ⟨hj24, h⟩ := Cl h
       refine sv rfl (Eh Vt rfl rfl hj24) ?_
       obtain ⟨q25, hq25, h⟩ := Ag h
       refine A9 sz3 rfl rfl rfl rfl (Ro hj24 (Nbl rfl)) (Cc [.box (EL.el a0), .box [Ii6 a1.PC, Ii6 q25.R0, Ii6 q25.R1, Ii6 q25.R2, Ii6 q25.R3, Ii6 q25.R4, Ii6 q25.R5, Ii6 q25.R6, Ii6 q25.R7, .b a1.Stopped], .box (EL.el a2), .box Zba, .box (EL.el u3)] (K0 (Aa7 hq25 [Ii6 a1.PC] [.b a1.Stopped])) (Al ?_))
       exact ⟨(A7.mk a1.PC q25 a1.Stopped), _, h, ⟨rfl, rfl, rfl, rfl, trivial⟩, rfl⟩
      ·refine Be (Ab ?_)
       exact ⟨(A7.mk a1.PC q17 a1.Stopped), _, h, ⟨rfl, rfl, rfl, rfl, trivial⟩, rfl⟩
    ·refine Be (Ab ?_)
     exact ⟨a1, _, h, ⟨rfl, rfl, rfl, rfl, trivial⟩, rfl⟩
  ·skip
   refine Ax (fl N2 ti3 rfl rfl rfl rfl rfl rfl (sv rfl (Bi rfl rfl) (rm 1 rfl (Bc 18 rfl (fun hc => ?_) (fun hc => ?_)))))
   ·replace h := Bt hc h
    clear hc
    refine rm 21 rfl (Al (Cm rfl (fun _ => ?_) (fun hx => Bool.noConfusion hx)))
    refine csr (sv rfl (Bl Abw Ajz Ba (.nil _)) (A9 V0 rfl rfl rfl rfl (Nbl rfl) (Cc [.box (EL.el a0), .box (EL.el a1), .box (EL.el a2), .box Zba] rfl (rm 1 rfl (Al (Bo (Ah ?_)))))))
    obtain rfl := SJ h
    refine ⟨Or.inr rfl, _, _, _, (Ai (B9.agg _ _ _ _ _ Rz rfl (.lp _ _ _ rfl) (Nbl rfl)) (Ai (B9.tmp _ _ rfl) Au)), (A4 rfl), ?_⟩
    rfl
   ·replace h := Bu hc h
    clear hc
    refine son rfl rfl rfl (sv rfl (Aa N2 rfl) (son rfl rfl rfl (sv rfl (Ae ti3 rfl (.lp _ _ _ rfl) rfl) (son rfl rfl rfl (sv rfl (Aa Oa rfl) (son rfl rfl rfl (sv rfl (Ae Ab5 rfl (.lp _ _ _ rfl) rfl) (son rfl rfl rfl (sv rfl (An Abz rfl) (son rfl rfl rfl (sv rfl (G6 rfl rfl) (rm 2 rfl (Bc 26 rfl (fun hc => ?_) (fun hc => ?_))))))))))))))
    ·replace h := Bt hc h
     clear hc
     refine rm 13 rfl (Al (Cm rfl (fun _ => ?_) (fun hx => Bool.noConfusion hx)))
     refine csr (sv rfl (Bl Abw Ajz Ba (.nil _)) (A9 V0 rfl rfl rfl rfl (Nbl rfl) (Cc [.box (EL.el a0), .box (EL.el a1), .box (EL.el a2), .box Zba] rfl (rm 1 rfl (Al (Bo (Ah ?_)))))))
     obtain rfl := SJ h
     refine ⟨Or.inr rfl, _, _, _, (Ai (B9.agg _ _ _ _ _ Rz rfl (.lp _ _ _ rfl) (Nbl rfl)) (Ai (B9.tmp _ _ rfl) Au)), (A4 rfl), ?_⟩
     rfl
    ·replace h := Bu hc h
     clear hc
     refine son rfl rfl rfl (sv rfl (Aa Oa rfl) (son rfl rfl rfl (sv rfl (Ae Ab5 rfl (.lp _ _ _ rfl) rfl) (son rfl rfl rfl (sv rfl (Aa N2 rfl) (son rfl rfl rfl (sv rfl (Ae ti3 rfl (.lp _ _ _ rfl) rfl) (son rfl rfl rfl ?_))))))))
     obtain ⟨u26, hu26, h⟩ := Ag h
     refine sv rfl (Bw (f := Md) Abz (fun _ => rfl) rfl rfl rfl rfl hu26) ?_
     refine son rfl rfl rfl (sv rfl (A6 Gv rfl) (son rfl rfl rfl (sv rfl (Ae ti3 rfl (.cp _) rfl) (son rfl rfl rfl (sv rfl (B8 rfl rfl) (rm 2 rfl (Bc 36 rfl (fun hc => ?_) (fun hc => ?_))))))))
     ·replace h := Bt hc h
      clear hc
      refine rm 3 rfl (Al (Cm rfl (fun _ => ?_) (fun hx => Bool.noConfusion hx)))
      refine csr (sv rfl (Bl Abw Ajz Ba (.nil _)) (A9 V0 rfl rfl rfl rfl (Nbl rfl) (Cc [.box (EL.el a0), .box (EL.el a1), .box (EL.el a2), .box Zba] rfl (rm 1 rfl (Al (Bo (Ah ?_)))))))
      obtain rfl := SJ h
      refine ⟨Or.inr rfl, _, _, _, (Ai (B9.agg _ _ _ _ _ Rz rfl (.lp _ _ _ rfl) (Nbl rfl)) (Ai (B9.tmp _ _ rfl) Au)), (A4 rfl), ?_⟩
      rfl
     ·replace h := Bu hc h
      clear hc
      refine son rfl rfl rfl (sv rfl (Aa Ag5 rfl) (son rfl rfl rfl (sv rfl (Ae ti4 rfl (.lp _ _ _ rfl) rfl) (rm 1 rfl (Al (ccI h rfl (fun h => ?_) (fun h => ?_)))))))
      ·refine csr (sv rfl (Bl Abw Ajz Ba (.nil _)) (A9 V0 rfl rfl rfl rfl (Nbl rfl) (Cc [.box (EL.el a0), .box (EL.el a1), .box (EL.el a2), .box Zba] rfl (rm 1 rfl (Al (Bo (Ah ?_)))))))
       obtain rfl := SJ h
       refine ⟨Or.inr rfl, _, _, _, (Ai (B9.agg _ _ _ _ _ Rz rfl (.lp _ _ _ rfl) (Nbl rfl)) (Ai (B9.tmp _ _ rfl) Au)), (A4 rfl), ?_⟩
       rfl
      ·refine Be (Ab ?_)
       exact ⟨(), _, h, ⟨rfl, rfl, rfl, rfl, trivial⟩, rfl⟩
def D5 (a0 : Cb) (v3 : Ej × A7 × Bool) (v4 : (List Aw)) (b5 : (List Af)) : Option (LR (A7 × (List Af)) (Unit) ((List Aw) × A7)) :=
 (Kz v3.1 v4).bind fun v6 => (Lv a0 v3.2.1 v6).bind fun v7 => some (.cont (v7.1, b5))
def K8 (a0 : Cb) (a1 : List Aw) (s2 : A7 × (List Af)) : Option (LR (A7 × (List Af)) (Unit) ((List Aw) × A7)) :=
 (Ke a0 s2.1).bind fun v3 => (Lz (El.mk s2.2) a1 (Ar.mk ([] : List UInt8) ([] : List UInt8) true) 1000).bind fun v4 => if (!v3.2.2) then (some (.ret (v4, v3.2.1))) else (if (decide (v3.1.Kind = 4)) then ((Hu (El.mk s2.2) (Af.mk v3.1.Key v3.1.Val (decide (v3.1.Kind = 5)))).bind fun v8 => if (!decide (v8.2 = 0)) then (some (.ret (v4, v3.2.1))) else (D5 a0 v3 v4 v8.1.L)) else (if (decide (v3.1.Kind = 5)) then ((Hu (El.mk s2.2) (Af.mk v3.1.Key v3.1.Val (decide (v3.1.Kind = 5)))).bind fun v9 => if (!decide (v9.2 = 0)) then (some (.ret (v4, v3.2.1))) else (D5 a0 v3 v4 v9.1.L)) else (D5 a0 v3 v4 s2.2)))
def M6 (a0 : Cb) (a1 : List Aw) (b1 : Unit) : Option ((List Aw) × A7) :=
 (Fc (K8 a0 a1) fuel (Gh, ([] : List Af))).bind fun x => match x with | .inl r => some r | .inr _ => none
def N4 (a0 : Cb) (a1 : List Aw) : Option ((List Aw) × A7) :=
 (Hd a0).bind fun v10 => if (!v10) then (some (a1, Gh)) else ((Jp a1).bind fun v11 => if (!v11) then (some (a1, Gh)) else (M6 a0 a1 ()))
theorem Ym {a0 : Cb} {a1 : List Aw} {r : (List Aw) × A7} (h : N4 a0 a1 = some r) : Bz Tryz.prog 20 [.agg (EL.el a0), .one (.sl a1.length (a1.flatMap A2))] (· = .tup [.one (.sl r.1.length (r.1.flatMap A2)), .agg (EL.el r.2)]) := by
 unfold N4 at h
 refine A8 Tryz.func20 rfl (nt := 81) rfl (Nbl rfl) ?_
 intro w0 S0
 refine csr (Kp rfl rfl (rm 1 rfl (Ce rfl Abw (Al (Bp (Bp (I0 (Unit) (fun b1 => [(1, .s (.one (.sl a1.length (a1.flatMap A2)))), (2, .s (.one (.lp 0 0))), (5, .s (.one (.lp 1 0)))]) (fun b1 => [.box (EL.el a0), .box Zba]) (fun b1 => M6 a0 a1 b1 = some r) (fun _ _ => Az rfl) (fun _ _ => Ak rfl) (fun _ _ => Nbl rfl) (fun b1 h => ?_) ?_)))))))
 ·unfold M6 at h
  refine csr (sv rfl (Bl Abw Ajz Ba (.nil _)) (Ce rfl Abw (A9 V0 rfl rfl rfl rfl (Nbl rfl) (Cc [.box (EL.el a0), .box Zba, .box Zba] rfl (Al (csr (sv rfl (Bl Yr Af2 Ba (.nil _)) (Ce rfl Yr (A9 Zf rfl rfl rfl rfl (Nbl rfl) (Cc [.box (EL.el a0), .box Zba, .box Zba, .box [Znl]] rfl (Al (csr (sv rfl (Bl Aj1 Aoh (A1 rfl Ba) (.cons _ _ _ _ _ _ _ rfl rfl (Nbl rfl) (.nil _))) (Ce rfl Aj1 (A9 Aoi rfl rfl rfl rfl (Nbl rfl) (Cc [.box (EL.el a0), .box Zba, .box Zba, .box [Znl], .box [Znl, Znl, .b true]] rfl (Al (Bf (O5 3 0 rfl rfl Ci.nil rfl ?_)))))))))))))))))))
  obtain ⟨x2, hx2, ho2⟩ := Ag h
  refine Bs (G := Nat × (A7 × (List Af))) (fun g => [(1, .s (.one (.sl a1.length (a1.flatMap A2)))), (2, .s (.one (.lp 0 0))), (5, .s (.one (.lp 1 0))), (6, .s (.one (.lp 2 0))), (7, .s (.one (.lp 3 0))), (8, .s (.one (.lp 4 0)))]) (fun g => [.box (EL.el a0), .box Zba, .box (EL.el g.2.1), .box [.sl g.2.2.length (g.2.2.flatMap Ac)], .box [Znl, Znl, .b true]]) (fun g => Fc (K8 a0 a1) g.1 g.2 = some x2) (fun g => g.1) (fuel, (Gh, ([] : List Af))) hx2 ⟨rfl, rfl, rfl, rfl, rfl, rfl, trivial⟩ [] rfl (fun _ _ => Az rfl) (fun _ _ => Ak rfl) (fun _ _ => Nbl rfl) ?_
  clear hx2 h
  rintro ⟨n2, s2⟩ h
  obtain ⟨n2, y2, rfl, h, hk2⟩ := Dc h
  unfold K8 at h
  refine Bf (csr (sv rfl (Ap Aj6 rfl (.lp _ _ _ rfl) (Nbl rfl)) (sv rfl (Ap Rz rfl (.lp _ _ _ rfl) (Nbl rfl)) ?_)))
  obtain ⟨v3, hv3, h⟩ := Ag h
  refine Bn rfl Asq (Ad rfl (Ad rfl Aj)) (A4 rfl) (Xf hv3) (sv rfl (Jx rfl) (sv rfl (Bm rfl rfl) (sv rfl (Bm rfl rfl) (sv rfl (Bm rfl rfl) (Ce rfl Yt (Ce rfl Abw (A9 Zp rfl rfl rfl rfl (Nbl rfl) (Cc [.box (EL.el a0), .box Zba, .box (EL.el s2.1), .box [.sl s2.2.length (s2.2.flatMap Ac)], .box [Znl, Znl, .b true], .box (EL.el v3.1), .box Zba] rfl (A9 V0 rfl rfl rfl rfl (Nbl rfl) (Cc [.box (EL.el a0), .box Zba, .box (EL.el s2.1), .box [.sl s2.2.length (s2.2.flatMap Ac)], .box [Znl, Znl, .b true], .box (EL.el v3.1), .box (EL.el v3.2.1)] rfl (rm 1 rfl (Al (csr (sv rfl (Ap Wm rfl (.lp _ _ _ rfl) (Nbl rfl)) (rm 1 rfl (sv rfl (Ap Vd rfl (.lp _ _ _ rfl) (Nbl rfl)) ?_))))))))))))))))
  obtain ⟨v4, hv4, h⟩ := Ag h
  refine Bn rfl Atm (Ad rfl (Ad rfl (Ad rfl (Ad rfl Aj)))) (Sj rfl) (Xl hv4) (rm 1 rfl (Al (Bp (csr (rm 1 rfl (sv rfl (B1 rfl) (Al (ccI h rfl (fun h => ?_) (fun h => ?_)))))))))
  ·refine Bp ?_
   refine Ei [3] [0, 0, 1, 7] [[.box (EL.el a0), .box Zba, .box (EL.el s2.1), .box [.sl s2.2.length (s2.2.flatMap Ac)], .box [Znl, Znl, .b true], .box (EL.el v3.1), .box (EL.el v3.2.1)], [.box (EL.el a0), .box (EL.el v3.2.1), .box (EL.el s2.1), .box [.sl s2.2.length (s2.2.flatMap Ac)], .box [Znl, Znl, .b true], .box (EL.el v3.1), .box (EL.el v3.2.1)]] (by kernel_rfl) mixed (by kernel_rfl) (by decide) rfl rfl rfl rfl ?_
   refine ev (Av 0 rfl rfl) rfl rfl (A3 rfl) (ev (Av 0 rfl rfl) rfl rfl (Ap Rz rfl (.lp _ _ _ rfl) (Nbl rfl)) (ev (Av 0 rfl rfl) rfl rfl (E8 rfl) (ee0 0 rfl rfl rfl rfl (fun ζ => ?_) ?_)))
   ·refine A9 V0 rfl rfl rfl rfl (Nbl rfl) (Cc [.box (EL.el a0), .box (EL.el v3.2.1), .box (EL.el s2.1), .box [.sl s2.2.length (s2.2.flatMap Ac)], .box [Znl, Znl, .b true], .box (EL.el v3.1), .box (EL.el v3.2.1)] rfl ?_)
    exact Ol
   refine Tb (Ab (Bo (Ah (Ao (Ah (Ao ?_))))))
   obtain rfl := SJ h
   obtain rfl : Sum.inl _ = x2 := hk2
   replace ho2 : some _ = some _ := ho2
   obtain rfl := Option.some.inj ho2
   refine ⟨Or.inr rfl, _, _, _, (Ai (B9.tmp _ _ rfl) (Ai (B9.agg _ _ _ _ _ Rz rfl (.lp _ _ _ rfl) (Nbl rfl)) Au)), (A4 rfl), ?_⟩
   rfl
  ·refine Be (Ab (Bp (Bp (I0 ((List Af)) (fun b5 => [(1, .s (.one (.sl a1.length (a1.flatMap A2)))), (2, .s (.one (.lp 0 0))), (5, .s (.one (.lp 1 0))), (6, .s (.one (.lp 2 0))), (7, .s (.one (.lp 3 0))), (8, .s (.one (.lp 4 0))), (9, .s (.one (.lp 5 0))), (10, .s (.one (.lp 6 0))), (12, .s (.one (.sl v4.length (v4.flatMap A2))))]) (fun b5 => [.box (EL.el a0), .box Zba, .box (EL.el s2.1), .box [.sl b5.length (b5.flatMap Ac)], .box [Znl, Znl, .b true], .box (EL.el v3.1), .box (EL.el v3.2.1)]) (fun b5 => D5 a0 v3 v4 b5 = some y2) (fun _ _ => Az rfl) (fun _ _ => Ak rfl) (fun _ _ => Nbl rfl) (fun b5 h => ?_) ?_))))
   ·unfold D5 at h
    refine Bp (Ao5 ?_)
    obtain ⟨v6, hv6, h⟩ := Ag h
    obtain ⟨v7, hv7, h⟩ := Ag h
    refine Ei [9, 10] [0, 0, 0, 0, 12, 31, 63, 127, 127, 0, 767, 2047] [[.box (EL.el a0), .box Zba, .box (EL.el s2.1), .box [.sl b5.length (b5.flatMap Ac)], .box [Znl, Znl, .b true], .box (EL.el v3.1), .box (EL.el v3.2.1), .hole], [.box (EL.el a0), .box Zba, .box (EL.el s2.1), .box [.sl b5.length (b5.flatMap Ac)], .box [Znl, Znl, .b true], .box (EL.el v3.1), .box (EL.el v3.2.1), .box Zba], [.box (EL.el a0), .box Zba, .box (EL.el s2.1), .box [.sl b5.length (b5.flatMap Ac)], .box [Znl, Znl, .b true], .box (EL.el v3.1), .box (EL.el v3.2.1), .box (EL.el v7.1)]] (by kernel_rfl) mixed (by kernel_rfl) (by decide) rfl rfl rfl rfl ?_
    refine evs (md := [.box (EL.el a0), .box Zba, .box (EL.el s2.1), .box [.sl b5.length (b5.flatMap Ac)], .box [Znl, Znl, .b true], .box (EL.el v3.1), .box (EL.el v3.2.1), .dead]) (fun hS => ev (D9 hS) rfl rfl (Ap Aj6 rfl (.lp _ _ _ rfl) (Nbl rfl)) (ev (D9 hS) rfl rfl (Ap Rz rfl (.lp _ _ _ rfl) (Nbl rfl)) (ev (D9 hS) rfl rfl (Ap Aa4 rfl (.lp _ _ _ rfl) (Nbl rfl)) (emv rfl rfl (fun _ => A3 rfl) ?_)))) ⟨⟨rfl, ⟨rfl, ⟨rfl, ⟨rfl, ⟨rfl, ⟨rfl, ⟨rfl, ⟨trivial, trivial⟩⟩⟩⟩⟩⟩⟩⟩, ⟨⟨rfl, ⟨rfl, ⟨rfl, ⟨rfl, ⟨rfl, ⟨rfl, ⟨rfl, ⟨trivial, trivial⟩⟩⟩⟩⟩⟩⟩⟩, ⟨⟨rfl, ⟨rfl, ⟨rfl, ⟨rfl, ⟨rfl, ⟨rfl, ⟨rfl, ⟨trivial, trivial⟩⟩⟩⟩⟩⟩⟩⟩, trivial⟩⟩⟩
    refine ed (D9 (md := [.box (EL.el a0), .box Zba, .box (EL.el s2.1), .box [.sl b5.length (b5.flatMap Ac)], .box [Znl, Znl, .b true], .box (EL.el v3.1), .box (EL.el v3.2.1), .dead]) ⟨⟨rfl, ⟨rfl, ⟨rfl, ⟨rfl, ⟨rfl, ⟨rfl, ⟨rfl, ⟨trivial, trivial⟩⟩⟩⟩⟩⟩⟩⟩, ⟨⟨rfl, ⟨rfl, ⟨rfl, ⟨rfl, ⟨rfl, ⟨rfl, ⟨rfl, ⟨trivial, trivial⟩⟩⟩⟩⟩⟩⟩⟩, ⟨⟨rfl, ⟨rfl, ⟨rfl, ⟨rfl, ⟨rfl, ⟨rfl, ⟨rfl, ⟨trivial, trivial⟩⟩⟩⟩⟩⟩⟩⟩, trivial⟩⟩⟩) rfl rfl (C1 Ast (Ad rfl (Ad rfl Aj)) rfl (W3 hv6)) (ed (D9 (md := [.box (EL.el a0), .box Zba, .box (EL.el s2.1), .box [.sl b5.length (b5.flatMap Ac)], .box [Znl, Znl, .b true], .box (EL.el v3.1), .box (EL.el v3.2.1), .dead]) ⟨⟨rfl, ⟨rfl, ⟨rfl, ⟨rfl, ⟨rfl, ⟨rfl, ⟨rfl, ⟨trivial, trivial⟩⟩⟩⟩⟩⟩⟩⟩, ⟨⟨rfl, ⟨rfl, ⟨rfl, ⟨rfl, ⟨rfl, ⟨rfl, ⟨rfl, ⟨trivial, trivial⟩⟩⟩⟩⟩⟩⟩⟩, ⟨⟨rfl, ⟨rfl, ⟨rfl, ⟨rfl, ⟨rfl, ⟨rfl, ⟨rfl, ⟨trivial, trivial⟩⟩⟩⟩⟩⟩⟩⟩, trivial⟩⟩⟩) rfl rfl (C1 Ar4 (Ad rfl (Ad rfl (Ad rfl Aj))) rfl (Xj hv7)) (emv rfl rfl (fun _ => Jx rfl) ?_))
    refine evs (md := [.box (EL.el a0), .box Zba, .box (EL.el s2.1), .box [.sl b5.length (b5.flatMap Ac)], .box [Znl, Znl, .b true], .box (EL.el v3.1), .box (EL.el v3.2.1), .dead]) (fun hS => ev (D9 hS) rfl rfl (Bm rfl rfl) (ev (D9 hS) rfl rfl (Bm rfl rfl) (ee (x := .s (.one (.lp 7 0))) 0 rfl rfl rfl rfl rfl (fun ζ => ?_) ?_))) ⟨⟨rfl, ⟨rfl, ⟨rfl, ⟨rfl, ⟨rfl, ⟨rfl, ⟨rfl, ⟨trivial, trivial⟩⟩⟩⟩⟩⟩⟩⟩, ⟨⟨rfl, ⟨rfl, ⟨rfl, ⟨rfl, ⟨rfl, ⟨rfl, ⟨rfl, ⟨trivial, trivial⟩⟩⟩⟩⟩⟩⟩⟩, ⟨⟨rfl, ⟨rfl, ⟨rfl, ⟨rfl, ⟨rfl, ⟨rfl, ⟨rfl, ⟨trivial, trivial⟩⟩⟩⟩⟩⟩⟩⟩, trivial⟩⟩⟩
    ·refine Agp 7 rfl Abw rfl ?_
     exact Ol
    refine ee0 1 rfl rfl rfl rfl (fun ζ => ?_) ?_
    ·refine A9 V0 rfl rfl rfl rfl (Nbl rfl) (Cc [.box (EL.el a0), .box Zba, .box (EL.el s2.1), .box [.sl b5.length (b5.flatMap Ac)], .box [Znl, Znl, .b true], .box (EL.el v3.1), .box (EL.el v3.2.1), .box (EL.el v7.1)] rfl ?_)
     exact Ol
    refine ev (Av 2 rfl rfl) rfl rfl (E8 rfl) (Tb (Ab (Ax (sv rfl (Ap Rz rfl (.lp _ _ _ rfl) (Nbl rfl)) (A9 V0 rfl rfl rfl rfl (Nbl rfl) (Cc [.box (EL.el a0), .box Zba, .box (EL.el v7.1), .box [.sl b5.length (b5.flatMap Ac)], .box [Znl, Znl, .b true], .box (EL.el v3.1), .box (EL.el v3.2.1), .box (EL.el v7.1)] rfl (Hy (Am (Ab ?_)))))))))
    obtain rfl := SJ h
    exact ⟨(n2, (v7.1, b5)), _, hk2, ⟨rfl, rfl, rfl, rfl, rfl, rfl, trivial⟩, rfl, Nat.lt_succ_self _⟩
   ·skip
    refine Ax (fl Ug ti3 rfl rfl rfl rfl rfl rfl (sv rfl (Bg rfl rfl) (rm 1 rfl (Bc 48 rfl (fun hc => ?_) (fun hc => ?_)))))
    ·replace h := Bt hc h
     clear hc
     refine rm 4 rfl (Al (Cm rfl (fun _ => ?_) (fun hx => Bool.noConfusion hx)))
     refine csr (sv rfl (Ap Wm rfl (.lp _ _ _ rfl) (Nbl rfl)) (fl Ab7 E6 rfl rfl rfl rfl rfl rfl (fl Afr E6 rfl rfl rfl rfl rfl rfl (fl Ug ti3 rfl rfl rfl rfl rfl rfl (sv rfl (Bg rfl rfl) (sv rfl (Bl Ag9 Amx (A1 rfl (A1 rfl (A1 rfl Ba))) (.cons _ _ _ _ _ _ _ rfl rfl (Nbl rfl) (.cons _ _ _ _ _ _ _ rfl rfl (Nbl rfl) (.cons _ _ _ _ _ _ _ rfl rfl (Nbl rfl) (.nil _))))) ?_))))))
     obtain ⟨v8, hv8, h⟩ := Ag h
     refine Bn rfl Aq9 (Ad rfl (Ad rfl Aj)) (A4 rfl) (Ty hv8) (sv rfl (Jx rfl) (sv rfl (Bm rfl rfl) (sv rfl (Bm rfl rfl) (Ce rfl Yr (A9 Zf rfl rfl rfl rfl (Nbl rfl) (Cc [.box (EL.el a0), .box Zba, .box (EL.el s2.1), .box [.sl s2.2.length (s2.2.flatMap Ac)], .box [Znl, Znl, .b true], .box (EL.el v3.1), .box (EL.el v3.2.1), .box [.sl v8.1.L.length (v8.1.L.flatMap Ac)]] rfl (rm 1 rfl (Al (Bp (csr (rm 1 rfl (sv rfl (P4 rfl rfl) (Al (ccI h rfl (fun h => ?_) (fun h => ?_)))))))))))))))
     ·refine Bp ?_
      refine Ei [3] [0, 0, 1, 7] [[.box (EL.el a0), .box Zba, .box (EL.el s2.1), .box [.sl s2.2.length (s2.2.flatMap Ac)], .box [Znl, Znl, .b true], .box (EL.el v3.1), .box (EL.el v3.2.1), .box [.sl v8.1.L.length (v8.1.L.flatMap Ac)]], [.box (EL.el a0), .box (EL.el v3.2.1), .box (EL.el s2.1), .box [.sl s2.2.length (s2.2.flatMap Ac)], .box [Znl, Znl, .b true], .box (EL.el v3.1), .box (EL.el v3.2.1), .box [.sl v8.1.L.length (v8.1.L.flatMap Ac)]]] (by kernel_rfl) mixed (by kernel_rfl) (by decide) rfl rfl rfl rfl ?_
      refine ev (Av 0 rfl rfl) rfl rfl (A3 rfl) (ev (Av 0 rfl rfl) rfl rfl (Ap Rz rfl (.lp _ _ _ rfl) (Nbl rfl)) (ev (Av 0 rfl rfl) rfl rfl (E8 rfl) (ee0 0 rfl rfl rfl rfl (fun ζ => ?_) ?_)))
      ·refine A9 V0 rfl rfl rfl rfl (Nbl rfl) (Cc [.box (EL.el a0), .box (EL.el v3.2.1), .box (EL.el s2.1), .box [.sl s2.2.length (s2.2.flatMap Ac)], .box [Znl, Znl, .b true], .box (EL.el v3.1), .box (EL.el v3.2.1), .box [.sl v8.1.L.length (v8.1.L.flatMap Ac)]] rfl ?_)
       exact Ol
      refine Tb (Ab (Bo (Ah (Ah (Ao (Ah (Ao ?_)))))))
      obtain rfl := SJ h
      obtain rfl : Sum.inl _ = x2 := hk2
      replace ho2 : some _ = some _ := ho2
      obtain rfl := Option.some.inj ho2
      refine ⟨Or.inr rfl, _, _, _, (Ai (B9.tmp _ _ rfl) (Ai (B9.agg _ _ _ _ _ Rz rfl (.lp _ _ _ rfl) (Nbl rfl)) Au)), (A4 rfl), ?_⟩
      rfl
     ·refine Be (Ab (Ax (sv rfl (Ap Wm rfl (.lp _ _ _ rfl) (Nbl rfl)) (A9 Zf rfl rfl rfl rfl (Nbl rfl) (Cc [.box (EL.el a0), .box Zba, .box (EL.el s2.1), .box [.sl v8.1.L.length (v8.1.L.flatMap Ac)], .box [Znl, Znl, .b true], .box (EL.el v3.1), .box (EL.el v3.2.1), .box [.sl v8.1.L.length (v8.1.L.flatMap Ac)]] rfl (Al ?_))))))
      exact ⟨v8.1.L, _, h, ⟨rfl, rfl, rfl, rfl, rfl, rfl, rfl, rfl, rfl, trivial⟩, rfl⟩
    ·replace h := Bu hc h
     clear hc
     refine son rfl rfl rfl (sv rfl (Aa Ug rfl) (son rfl rfl rfl (sv rfl (Ae ti3 rfl (.lp _ _ _ rfl) rfl) (son rfl rfl rfl (sv rfl (Bg rfl rfl) (rm 1 rfl (Al (ccI h rfl (fun h => ?_) (fun h => ?_)))))))))
     ·refine csr (sv rfl (Ap Wm rfl (.lp _ _ _ rfl) (Nbl rfl)) (fl Ab7 E6 rfl rfl rfl rfl rfl rfl (fl Afr E6 rfl rfl rfl rfl rfl rfl (fl Ug ti3 rfl rfl rfl rfl rfl rfl (sv rfl (Bg rfl rfl) (sv rfl (Bl Ag9 Amx (A1 rfl (A1 rfl (A1 rfl Ba))) (.cons _ _ _ _ _ _ _ rfl rfl (Nbl rfl) (.cons _ _ _ _ _ _ _ rfl rfl (Nbl rfl) (.cons _ _ _ _ _ _ _ rfl rfl (Nbl rfl) (.nil _))))) ?_))))))
      obtain ⟨v9, hv9, h⟩ := Ag h
      refine Bn rfl Aq9 (Ad rfl (Ad rfl Aj)) (A4 rfl) (Ty hv9) (sv rfl (Jx rfl) (sv rfl (Bm rfl rfl) (sv rfl (Bm rfl rfl) (Ce rfl Yr (A9 Zf rfl rfl rfl rfl (Nbl rfl) (Cc [.box (EL.el a0), .box Zba, .box (EL.el s2.1), .box [.sl s2.2.length (s2.2.flatMap Ac)], .box [Znl, Znl, .b true], .box (EL.el v3.1), .box (EL.el v3.2.1), .box [.sl v9.1.L.length (v9.1.L.flatMap Ac)]] rfl (rm 1 rfl (Al (Bp (csr (rm 1 rfl (sv rfl (P4 rfl rfl) (Al (ccI h rfl (fun h => ?_) (fun h => ?_)))))))))))))))
      ·refine Bp ?_
       refine Ei [3] [0, 0, 1, 7] [[.box (EL.el a0), .box Zba, .box (EL.el s2.1), .box [.sl s2.2.length (s2.2.flatMap Ac)], .box [Znl, Znl, .b true], .box (EL.el v3.1), .box (EL.el v3.2.1), .box [.sl v9.1.L.length (v9.1.L.flatMap Ac)]], [.box (EL.el a0), .box (EL.el v3.2.1), .box (EL.el s2.1), .box [.sl s2.2.length (s2.2.flatMap Ac)], .box [Znl, Znl, .b true], .box (EL.el v3.1), .box (EL.el v3.2.1), .box [.sl v9.1.L.length (v9.1.L.flatMap Ac)]]] (by kernel_rfl) mixed (by kernel_rfl) (by decide) rfl rfl rfl rfl ?_
       refine ev (Av 0 rfl rfl) rfl rfl (A3 rfl) (ev (Av 0 rfl rfl) rfl rfl (Ap Rz rfl (.lp _ _ _ rfl) (Nbl rfl)) (ev (Av 0 rfl rfl) rfl rfl (E8 rfl) (ee0 0 rfl rfl rfl rfl (fun ζ => ?_) ?_)))
       ·refine A9 V0 rfl rfl rfl rfl (Nbl rfl) (Cc [.box (EL.el a0), .box (EL.el v3.2.1), .box (EL.el s2.1), .box [.sl s2.2.length (s2.2.flatMap Ac)], .box [Znl, Znl, .b true], .box (EL.el v3.1), .box (EL.el v3.2.1), .box [.sl v9.1.L.length (v9.1.L.flatMap Ac)]] rfl ?_)
        exact Ol
       refine Tb (Ab (Bo (Ah (Ah (Ao (Ah (Ao ?_)))))))
       obtain rfl := SJ h
       obtain rfl : Sum.inl _ = x2 := hk2
       replace ho2 : some _ = some _ := ho2
       obtain rfl := Option.some.inj ho2
       refine ⟨Or.inr rfl, _, _, _, (Ai (B9.tmp _ _ rfl) (Ai (B9.agg _ _ _ _ _ Rz rfl (.lp _ _ _ rfl) (Nbl rfl)) Au)), (A4 rfl), ?_⟩
       rfl
      ·refine Be (Ab (Ax (sv rfl (Ap Wm rfl (.lp _ _ _ rfl) (Nbl rfl)) (A9 Zf rfl rfl rfl rfl (Nbl rfl) (Cc [.box (EL.el a0), .box Zba, .box (EL.el s2.1), .box [.sl v9.1.L.length (v9.1.L.flatMap Ac)], .box [Znl, Znl, .b true], .box (EL.el v3.1), .box (EL.el v3.2.1), .box [.sl v9.1.L.length (v9.1.L.flatMap Ac)]] rfl (Al ?_))))))
       exact ⟨v9.1.L, _, h, ⟨rfl, rfl, rfl, rfl, rfl, rfl, rfl, rfl, rfl, trivial⟩, rfl⟩
     ·refine Be (Ab ?_)
      exact ⟨s2.2, _, h, ⟨rfl, rfl, rfl, rfl, rfl, rfl, rfl, rfl, rfl, trivial⟩, rfl⟩
 ·skip
  refine Ax (sv rfl (Ap Aj6 rfl (.lp _ _ _ rfl) (Nbl rfl)) ?_)
  obtain ⟨v10, hv10, h⟩ := Ag h
  refine Bn rfl Apn (Ad rfl Aj) (A4 rfl) (O4 hv10) (sv rfl (B1 rfl) (rm 1 rfl (Bc 20 rfl (fun hc => ?_) (fun hc => ?_))))
  ·replace h := Bt hc h
   clear hc
   refine rm 4 rfl (Al (Cm rfl (fun _ => ?_) (fun hx => Bool.noConfusion hx)))
   refine csr (rm 1 rfl (sv rfl (Bl Abw Ajz Ba (.nil _)) (rm 1 rfl (A9 V0 rfl rfl rfl rfl (Nbl rfl) (Cc [.box (EL.el a0), .box Zba] rfl (Al (Bo (Ah ?_))))))))
   obtain rfl := SJ h
   refine ⟨Or.inr rfl, _, _, _, (Ai (B9.tmp _ _ rfl) (Ai (B9.agg _ _ _ _ _ Rz rfl (.lp _ _ _ rfl) (Nbl rfl)) Au)), (A4 rfl), ?_⟩
   rfl
  ·replace h := Bu hc h
   clear hc
   refine rm 1 rfl (son rfl rfl rfl ?_)
   obtain ⟨v11, hv11, h⟩ := Ag h
   refine Bn rfl Ara (Ad rfl Aj) (A4 rfl) (Qj hv11) (son rfl rfl rfl (sv rfl (B1 rfl) (rm 1 rfl (Al (ccI h rfl (fun h => ?_) (fun h => ?_))))))
   ·refine csr (rm 1 rfl (sv rfl (Bl Abw Ajz Ba (.nil _)) (rm 1 rfl (A9 V0 rfl rfl rfl rfl (Nbl rfl) (Cc [.box (EL.el a0), .box Zba] rfl (Al (Bo (Ah ?_))))))))
    obtain rfl := SJ h
    refine ⟨Or.inr rfl, _, _, _, (Ai (B9.tmp _ _ rfl) (Ai (B9.agg _ _ _ _ _ Rz rfl (.lp _ _ _ rfl) (Nbl rfl)) Au)), (A4 rfl), ?_⟩
    rfl
   ·refine Be (Ab ?_)
    exact ⟨(), _, h, ⟨rfl, rfl, rfl, trivial⟩, rfl⟩
def Nj (b3 : Bool × (List Aw)) : Option ((List Aw) × Bool) :=
 some (b3.2, b3.1)
def Jn (s4 : Bool × (List Aw) × Int) (v7 : (List Aw) × A7) (b8 : Bool) : Option (LB (Bool × (List Aw) × Int) (Bool × (List Aw))) :=
 some (.cont (b8, v7.1, (wI (s4.2.2 + 1))))
def Jh (a0 : List Ep) (v2 : (List Int) × Bool) (s4 : Bool × (List Aw) × Int) : Option (LB (Bool × (List Aw) × Int) (Bool × (List Aw))) :=
 if (decide (s4.2.2 < (v2.1.length : Int))) then ((idx v2.1 s4.2.2).bind fun u5 => (idx a0 u5).bind fun u6 => (N4 u6.Prog s4.2.1).bind fun v7 => if s4.1 then ((idx v2.1 s4.2.2).bind fun u9 => (idx a0 u9).bind fun u10 => Jn s4 v7 ((decide (v7.2.Regs.R0 = u10.Regs.R0)) && ((decide (v7.2.Regs.R1 = u10.Regs.R1)) && ((decide (v7.2.Regs.R2 = u10.Regs.R2)) && ((decide (v7.2.Regs.R3 = u10.Regs.R3)) && ((decide (v7.2.Regs.R4 = u10.Regs.R4)) && ((decide (v7.2.Regs.R5 = u10.Regs.R5)) && ((decide (v7.2.Regs.R6 = u10.Regs.R6)) && ((decide (v7.2.Regs.R7 = u10.Regs.R7)) && true))))))))) else (Jn s4 v7 false)) else (some (.brk (s4.1, s4.2.1)))
def Ln (a0 : List Ep) (b1 : (List Ca)) : Option ((List Aw) × Bool) :=
 (Ja b1).bind fun v2 => if (!v2.2) then (some (([] : List Aw), false)) else ((Cw (Jh a0 v2) fuel (v2.2, ([] : List Aw), 0)).bind fun e11 => Nj e11)
def Gc (a0 : List Ep) (s12 : Int × (List Ca)) : Option (LB (Int × (List Ca)) ((List Ca))) :=
 if (decide (s12.1 < (a0.length : Int))) then ((idx a0 s12.1).bind fun u13 => if (s12.2.length + [u13.Tx].length) * 72 ≤ 140737488355328 then (some (.cont ((wI (s12.1 + 1)), (s12.2 ++ [u13.Tx])))) else none) else (some (.brk s12.2))
def Mn (a0 : List Ep) : Option ((List Aw) × Bool) :=
 (Cw (Gc a0) fuel (0, ([] : List Ca))).bind fun e15 => Ln a0 e15
theorem Wu {a0 : List Ep} {r : (List Aw) × Bool} (h : Mn a0 = some r) : Bz Tryz.prog 9 [.one (.sl a0.length (a0.flatMap Ee))] (· = .tup [.one (.sl r.1.length (r.1.flatMap A2)), .one (.b r.2)]) := by
 unfold Mn at h
 refine A8 Tryz.func9 rfl (nt := 69) rfl (Nbl rfl) ?_
 intro w0 S0
 refine csr (rm 2 rfl (Al (csr (rm 1 rfl (Al (Bp (csr (rm 1 rfl (Al ?_)))))))))
 refine H6 28 5 4 (by decide) rfl ?_
 refine C4 ((List Ca)) (fun b1 => [(0, .s (.one (.sl a0.length (a0.flatMap Ee)))), (4, .s (.one (.ls 0 b1.length)))]) (fun b1 => [.arr 28 5 0 (b1.flatMap B4)]) (fun b1 => Ln a0 b1 = some r) (fun _ _ => Az rfl) (fun _ _ => Ak rfl) (fun _ _ => Nbl rfl) (fun b1 h => ?_) ?_
 ·unfold Ln at h
  refine csr (sv rfl (A3 rfl) ?_)
  refine Vy 27 rfl (by (repeat' first | exact Ga.nil _ | apply Ga.cons | apply F5.one | apply F5.agg | exact Ci.nil | exact Ci.ls _ _ _ _ _ _ rfl (Ay (f := B4) (fun _ => rfl) _).symm | exact Ci.id _ rfl | exact Cg.nil _ | apply Cg.cons)) ?_
  obtain ⟨v2, hv2, h⟩ := Ag h
  refine Bn rfl As0 (Ad rfl Aj) (A4 rfl) (Wl hv2) (sv rfl (Jx rfl) (sv rfl (Bm rfl rfl) (sv rfl (Bm rfl rfl) (rm 2 rfl (Al (Bp (csr (rm 1 rfl (sv rfl (B1 rfl) (Al (ccI h rfl (fun h => ?_) (fun h => ?_))))))))))))
  ·refine csr (rm 2 rfl (Al (Bo (Ah ?_))))
   obtain rfl := SJ h
   refine ⟨Or.inr rfl, _, _, _, (Ai (B9.tmp _ _ rfl) (Ai (B9.tmp _ _ rfl) Au)), (Sj rfl), ?_⟩
   rfl
  ·refine Be (Ab (csr (rm 1 rfl (Al (Bp (csr (rm 1 rfl (Al (C4 (Bool × (List Aw)) (fun b3 => [(7, .s (.one (.b b3.1))), (8, .s (.one (.sl b3.2.length (b3.2.flatMap A2))))]) (fun b3 => [.arr 28 5 (b1.flatMap B4).length (b1.flatMap B4)]) (fun b3 => Nj b3 = some r) (fun _ _ => Az rfl) (fun _ _ => Ak rfl) (fun _ _ => Nbl rfl) (fun b3 h => ?_) ?_)))))))))
   ·unfold Nj at h
    refine csr (rm 4 rfl (Al (Bo ?_)))
    obtain rfl := SJ h
    refine ⟨Or.inr rfl, _, _, _, (Ai (B9.tmp _ _ rfl) (Ai (B9.tmp _ _ rfl) Au)), (A4 rfl), ?_⟩
    rfl
   ·skip
    refine Bf ?_
    refine Apv 8 rfl (by (repeat' first | exact Ga.nil _ | apply Ga.cons | apply F5.one | apply F5.agg | exact Ci.nil | exact Ci.ls _ _ _ _ _ _ rfl (Ay (f := B4) (fun _ => rfl) _).symm | exact Ci.id _ rfl | exact Cg.nil _ | apply Cg.cons)) ?_
    obtain ⟨x4, hx4, ho4⟩ := Ag h
    refine Bs (G := Nat × (Bool × (List Aw) × Int)) (fun g => [(0, .s (.one (.sl a0.length (a0.flatMap Ee)))), (6, .s (.one (.sl v2.1.length (v2.1.flatMap eI)))), (7, .s (.one (.b g.2.1))), (8, .s (.one (.sl g.2.2.1.length (g.2.2.1.flatMap A2)))), (9, .s (.one (Ii6 g.2.2.2)))]) (fun g => [.arr 28 5 (b1.flatMap B4).length (b1.flatMap B4)]) (fun g => Cw (Jh a0 v2) g.1 g.2 = some x4) (fun g => g.1) (fuel, (v2.2, ([] : List Aw), 0)) hx4 ⟨rfl, rfl, rfl, rfl, rfl, trivial⟩ [] rfl (fun _ _ => Az rfl) (fun _ _ => Ak rfl) (fun _ _ => Nbl rfl) ?_
    clear hx4 h
    rintro ⟨n4, s4⟩ h
    obtain ⟨n4, y4, rfl, h, hk4⟩ := Dw h
    unfold Jh at h
    refine Bp (csr (rm 2 rfl (sv rfl (An Ajd rfl) (sv rfl (Bi rfl rfl) (Al (ccI h rfl (fun h => ?_) (fun h => ?_)))))))
    ·refine Be (Ab (Bp (Bf (csr (rm 2 rfl (sv rfl (A3 rfl) ?_))))))
     obtain ⟨u5, hu5, h⟩ := Ag h
     refine sv rfl (Bw (f := eI) Ajd (fun _ => rfl) rfl rfl rfl rfl hu5) ?_
     refine sv rfl (Ae ti3 rfl (.cp _) rfl) ?_
     obtain ⟨u6, hu6, h⟩ := Ag h
     refine sv rfl (Bw (f := Ee) Aek (fun _ => rfl) rfl rfl rfl rfl hu6) ?_
     refine sv rfl (A6 Afs rfl) (sv rfl (Bq (ys := [.b u6.Prog.RO, .sl u6.Prog.Ops.length (u6.Prog.Ops.flatMap Md)]) Aj6 rfl (.cp _) rfl rfl) (sv rfl (A3 rfl) ?_))
     obtain ⟨v7, hv7, h⟩ := Ag h
     refine Bn rfl Ash (Ad rfl (Ad rfl Aj)) (A4 rfl) (Ym hv7) (sv rfl (Jx rfl) (sv rfl (Bm rfl rfl) (sv rfl (Bm rfl rfl) (Ce rfl Abw (rm 1 rfl (A9 V0 rfl rfl rfl rfl (Nbl rfl) (Cc [.arr 28 5 (b1.flatMap B4).length (b1.flatMap B4), .box (EL.el v7.2)] rfl (Al (Bp (C4 (Bool) (fun b8 => [(0, .s (.one (.sl a0.length (a0.flatMap Ee)))), (6, .s (.one (.sl v2.1.length (v2.1.flatMap eI)))), (7, .s (.one (.b b8))), (9, .s (.one (Ii6 s4.2.2))), (10, .s (.one (.sl v7.1.length (v7.1.flatMap A2))))]) (fun b8 => [.arr 28 5 (b1.flatMap B4).length (b1.flatMap B4), .box (EL.el v7.2)]) (fun b8 => Jn s4 v7 b8 = some y4) (fun _ _ => Az rfl) (fun _ _ => Ak rfl) (fun _ _ => Nbl rfl) (fun b8 h => ?_) ?_))))))))))
     ·unfold Jn at h
      refine Ax (rm 2 rfl (Hy (Am (Ab (Ax (rm 1 rfl (sv rfl (Bj rfl rfl) (rm 1 rfl (Al ?_)))))))))
      obtain rfl := SJ h
      exact ⟨(n4, (b8, v7.1, (wI (s4.2.2 + 1)))), _, hk4, ⟨rfl, rfl, rfl, rfl, rfl, trivial⟩, rfl, Nat.lt_succ_self _⟩
     ·skip
      refine Afh mixed (by kernel_rfl) ?_
      refine dv rfl (A3 rfl) (dv rfl (A3 rfl) (Mw 53 rfl (fun hc => ?_) (fun hc => ?_)))
      ·replace h := Bt hc h
       clear hc
       refine dvg rfl rfl rfl (Aa Pb rfl) (dvg rfl rfl rfl (Ap Amt rfl (.lp _ _ _ rfl) (Nbl rfl)) (dvg rfl rfl rfl (A3 rfl) (dvg rfl rfl rfl (A3 rfl) (dvg rfl rfl rfl (A3 rfl) ?_))))
       obtain ⟨u9, hu9, h⟩ := Ag h
       refine dvg rfl rfl rfl (Bw (f := eI) Ajd (fun _ => rfl) rfl rfl rfl rfl hu9) ?_
       refine dvg rfl rfl rfl (Ae ti3 rfl (.cp _) rfl) ?_
       obtain ⟨u10, hu10, h⟩ := Ag h
       refine dvg rfl rfl rfl (Bw (f := Ee) Aek (fun _ => rfl) rfl rfl rfl rfl hu10) ?_
       refine dvg rfl rfl rfl (A6 Aj5 rfl) (dvg rfl rfl rfl (Bq (ys := [Ii6 u10.Regs.R0, Ii6 u10.Regs.R1, Ii6 u10.Regs.R2, Ii6 u10.Regs.R3, Ii6 u10.Regs.R4, Ii6 u10.Regs.R5, Ii6 u10.Regs.R6, Ii6 u10.Regs.R7]) Amt rfl (.cp _) rfl rfl) (dvg rfl rfl rfl (Adi Ark rfl rfl rfl rfl rfl) (dv rfl (Cs rfl rfl) (dv rfl (E8 rfl) (Py (Ab ?_))))))
       exact ⟨((decide (v7.2.Regs.R0 = u10.Regs.R0)) && ((decide (v7.2.Regs.R1 = u10.Regs.R1)) && ((decide (v7.2.Regs.R2 = u10.Regs.R2)) && ((decide (v7.2.Regs.R3 = u10.Regs.R3)) && ((decide (v7.2.Regs.R4 = u10.Regs.R4)) && ((decide (v7.2.Regs.R5 = u10.Regs.R5)) && ((decide (v7.2.Regs.R6 = u10.Regs.R6)) && ((decide (v7.2.Regs.R7 = u10.Regs.R7)) && true)))))))), _, h, ⟨rfl, rfl, rfl, rfl, rfl, trivial⟩, rfl⟩
      ·replace h := Bu hc h
       clear hc
       refine Dz rfl rfl rfl rfl (Dz rfl rfl rfl rfl (Dz rfl rfl rfl rfl (Dz rfl rfl rfl rfl (Dz rfl rfl rfl rfl (Dz rfl rfl rfl rfl (Dz rfl rfl rfl rfl (Dz rfl rfl rfl rfl (Dz rfl rfl rfl rfl (Dz rfl rfl rfl rfl (Dz rfl rfl rfl rfl (dv rfl (Cj rfl rfl) (dv rfl (E8 rfl) (Py (Ab ?_))))))))))))))
       exact ⟨false, _, h, ⟨rfl, rfl, rfl, rfl, rfl, trivial⟩, rfl⟩
    ·refine Dp (Aq (Aq (Bd (Ab ?_))))
     obtain rfl := SJ h
     obtain rfl : _ = x4 := hk4
     exact ⟨(s4.1, s4.2.1), _, ho4, ⟨rfl, rfl, trivial⟩, rfl⟩
 ·skip
  refine Bf ?_
  obtain ⟨x12, hx12, ho12⟩ := Ag h
  refine Bs (G := Nat × (Int × (List Ca))) (fun g => [(0, .s (.one (.sl a0.length (a0.flatMap Ee)))), (4, .s (.one (.ls 0 g.2.2.length))), (5, .s (.one (Ii6 g.2.1)))]) (fun g => [.arr 28 5 0 (g.2.2.flatMap B4)]) (fun g => Cw (Gc a0) g.1 g.2 = some x12) (fun g => g.1) (fuel, (0, ([] : List Ca))) hx12 ⟨rfl, rfl, rfl, trivial⟩ [] rfl (fun _ _ => Az rfl) (fun _ _ => Ak rfl) (fun _ _ => Nbl rfl) ?_
  clear hx12 h
  rintro ⟨n12, s12⟩ h
  obtain ⟨n12, y12, rfl, h, hk12⟩ := Dw h
  unfold Gc at h
  refine Bp (csr (rm 2 rfl (sv rfl (An Aek rfl) (sv rfl (Bi rfl rfl) (Al (ccI h rfl (fun h => ?_) (fun h => ?_)))))))
  ·refine Be (Ab (Bp (Bf (Ax (rm 2 rfl (sv rfl (A3 rfl) ?_))))))
   obtain ⟨u13, hu13, h⟩ := Ag h
   refine sv rfl (Bw (f := Ee) Aek (fun _ => rfl) rfl rfl rfl rfl hu13) ?_
   refine sv rfl (A6 Agg rfl) (sv rfl (Bq (ys := [Ii6 u13.Tx.Token, Ii6 u13.Tx.Snap, Ii6 u13.Tx.Ts, .sl u13.Tx.Reads.length (u13.Tx.Reads.flatMap A0), .sl u13.Tx.Writes.length (u13.Tx.Writes.flatMap Ac)]) Aej rfl (.cp _) rfl rfl) ?_)
   refine Fw rfl Tryz.underlying24 Aob rfl rfl (List.all_eq_true.1 rfl) (by decide) ?_
   refine Cc [.arr 28 5 0 (s12.2.flatMap B4), .arr 28 5 0 ([u13.Tx].flatMap B4)] rfl ?_
   obtain ⟨hb14, h⟩ := Cl h
   refine Wx (f := B4) (xs := s12.2) (us := [u13.Tx]) rfl Tryz.underlying24 Aob Aq5 (fun _ => rfl) rfl rfl (.one _ _ _ _ (.ls _ _ _ _ _ _ rfl (Ay (f := B4) (fun _ => rfl) [u13.Tx]).symm)) rfl rfl rfl (.sl _ _ _ (Ay (f := B4) (fun _ => rfl) _)) rfl rfl hb14 (by decide) ?_
   refine rm 1 rfl (Hy (Am (Ab (Ax (rm 1 rfl (sv rfl (Bj rfl rfl) (rm 1 rfl (Al ?_))))))))
   obtain rfl := SJ h
   exact ⟨(n12, ((wI (s12.1 + 1)), (s12.2 ++ [u13.Tx]))), _, hk12, ⟨rfl, rfl, rfl, trivial⟩, rfl, Nat.lt_succ_self _⟩
  ·refine Dp (Aq (Aq (Bd (Ab ?_))))
   obtain rfl := SJ h
   obtain rfl : _ = x12 := hk12
   exact ⟨s12.2, _, ho12, ⟨rfl, rfl, trivial⟩, rfl⟩
def Oz (b1 : Unit) : Option Bool :=
 some true
def Jr (a0 : List Aw) (a1 : List Aw) (s2 : Int) : Option (LR (Int) (Unit) (Bool)) :=
 if (decide (s2 < (a0.length : Int))) then ((idx a0 s2).bind fun u3 => (idx a1 s2).bind fun u4 => if (!(u3.Key == u4.Key)) then (some (.ret false)) else ((idx a0 s2).bind fun u5 => (idx a1 s2).bind fun u6 => if (!(u5.Val == u6.Val)) then (some (.ret false)) else (some (.cont (wI (s2 + 1)))))) else (some (.brk ()))
def N5 (a0 : List Aw) (a1 : List Aw) : Option Bool :=
 if (!decide ((a0.length : Int) = (a1.length : Int))) then (some false) else ((Fc (Jr a0 a1) fuel 0).bind fun x => match x with | .inl r => some r | .inr e7 => Oz e7)
theorem Yw {a0 : List Aw} {a1 : List Aw} {r : Bool} (h : N5 a0 a1 = some r) : Bz Tryz.prog 10 [.one (.sl a0.length (a0.flatMap A2)), .one (.sl a1.length (a1.flatMap A2))] (· = .s (.one (.b r))) := by
 unfold N5 at h
 refine A8 Tryz.func10 rfl (nt := 45) rfl (Nbl rfl) ?_
 intro w0 S0
 refine csr (rm 1 rfl (Al (Bp (csr (rm 1 rfl (sv rfl (An P8 rfl) (rm 1 rfl (sv rfl (An P8 rfl) (sv rfl (P4 rfl rfl) (Al (ccI h rfl (fun h => ?_) (fun h => ?_))))))))))))
 ·refine csr (rm 1 rfl (Al (Bo (Ah ?_))))
  obtain rfl := SJ h
  exact dnT rfl rfl rfl rfl
 ·refine Be (Ab (Bp (csr (rm 1 rfl (Al (C4 (Unit) (fun b1 => []) (fun b1 => []) (fun b1 => Oz b1 = some r) (fun _ _ => Az rfl) (fun _ _ => Ak rfl) (fun _ _ => Nbl rfl) (fun b1 h => ?_) ?_))))))
  ·unfold Oz at h
   refine csr (rm 1 rfl (Al (Bo ?_)))
   obtain rfl := SJ h
   exact dnT rfl rfl rfl rfl
  ·skip
   refine Bf ?_
   obtain ⟨x2, hx2, ho2⟩ := Ag h
   refine Bs (G := Nat × (Int)) (fun g => [(0, .s (.one (.sl a0.length (a0.flatMap A2)))), (1, .s (.one (.sl a1.length (a1.flatMap A2)))), (5, .s (.one (Ii6 g.2)))]) (fun g => []) (fun g => Fc (Jr a0 a1) g.1 g.2 = some x2) (fun g => g.1) (fuel, 0) hx2 ⟨rfl, rfl, rfl, trivial⟩ [] rfl (fun _ _ => Az rfl) (fun _ _ => Ak rfl) (fun _ _ => Nbl rfl) ?_
   clear hx2 h
   rintro ⟨n2, s2⟩ h
   obtain ⟨n2, y2, rfl, h, hk2⟩ := Dc h
   unfold Jr at h
   refine Bp (csr (rm 2 rfl (sv rfl (An P8 rfl) (sv rfl (Bi rfl rfl) (Al (ccI h rfl (fun h => ?_) (fun h => ?_)))))))
   ·refine Be (Ab (Bp (Bf (Bp ?_))))
    refine Qc mixed (by kernel_rfl) ?_
    refine dv rfl (A3 rfl) (dv rfl (A3 rfl) ?_)
    obtain ⟨u3, hu3, h⟩ := Ag h
    refine dv rfl (Bw (f := A2) P8 (fun _ => rfl) rfl rfl rfl rfl hu3) ?_
    refine dv rfl (A6 Ql rfl) (dv rfl (Ae E6 rfl (.cp _) rfl) (dv rfl (O9 (l := u3.Key) Tryz.underlying46 Tryz.underlying5 Tryz.underlying9 rfl rfl rfl) (dv rfl (A3 rfl) (dv rfl (A3 rfl) ?_))))
    obtain ⟨u4, hu4, h⟩ := Ag h
    refine dv rfl (Bw (f := A2) P8 (fun _ => rfl) rfl rfl rfl rfl hu4) ?_
    refine dv rfl (A6 Ql rfl) (dv rfl (Ae E6 rfl (.cp _) rfl) (dv rfl (O9 (l := u4.Key) Tryz.underlying46 Tryz.underlying5 Tryz.underlying9 rfl rfl rfl) (dv rfl (Aay rfl rfl) (dv rfl (A3 rfl) (Mw 30 rfl (fun hc => ?_) (fun hc => ?_))))))
    ·replace h := Bt hc h
     clear hc
     refine Dz rfl rfl rfl rfl (Dz rfl rfl rfl rfl (Dz rfl rfl rfl rfl (Dz rfl rfl rfl rfl (Dz rfl rfl rfl rfl (Dz rfl rfl rfl rfl (Dz rfl rfl rfl rfl (Dz rfl rfl rfl rfl (Dz rfl rfl rfl rfl (Dz rfl rfl rfl rfl (Dz rfl rfl rfl rfl (Dz rfl rfl rfl rfl (Dz rfl rfl rfl rfl (dv rfl (Cs rfl rfl) (Py (Ab (Cm rfl (fun _ => ?_) (fun hx => Bool.noConfusion hx)))))))))))))))))
     refine csr (rm 1 rfl (Al (Bo (Ao (Ah (Ah (Ao (Ah ?_))))))))
     obtain rfl := SJ h
     obtain rfl : Sum.inl _ = x2 := hk2
     replace ho2 : some _ = some _ := ho2
     obtain rfl := Option.some.inj ho2
     exact dnT rfl rfl rfl rfl
    ·replace h := Bu hc h
     clear hc
     refine dvg rfl rfl rfl (A3 rfl) (dvg rfl rfl rfl (A3 rfl) ?_)
     obtain ⟨u5, hu5, h⟩ := Ag h
     refine dvg rfl rfl rfl (Bw (f := A2) P8 (fun _ => rfl) rfl rfl rfl rfl hu5) ?_
     refine dvg rfl rfl rfl (A6 Ya rfl) (dvg rfl rfl rfl (Ae E6 rfl (.cp _) rfl) (dvg rfl rfl rfl (O9 (l := u5.Val) Tryz.underlying46 Tryz.underlying5 Tryz.underlying9 rfl rfl rfl) (dvg rfl rfl rfl (A3 rfl) (dvg rfl rfl rfl (A3 rfl) ?_))))
     obtain ⟨u6, hu6, h⟩ := Ag h
     refine dvg rfl rfl rfl (Bw (f := A2) P8 (fun _ => rfl) rfl rfl rfl rfl hu6) ?_
     refine dvg rfl rfl rfl (A6 Ya rfl) (dvg rfl rfl rfl (Ae E6 rfl (.cp _) rfl) (dvg rfl rfl rfl (O9 (l := u6.Val) Tryz.underlying46 Tryz.underlying5 Tryz.underlying9 rfl rfl rfl) (dvg rfl rfl rfl (Aay rfl rfl) (dv rfl (Cj rfl rfl) (Py (Ab (ccI h rfl (fun h => ?_) (fun h => ?_))))))))
     ·refine csr (rm 1 rfl (Al (Bo (Ao (Ah (Ah (Ao (Ah ?_))))))))
      obtain rfl := SJ h
      obtain rfl : Sum.inl _ = x2 := hk2
      replace ho2 : some _ = some _ := ho2
      obtain rfl := Option.some.inj ho2
      exact dnT rfl rfl rfl rfl
     ·refine Be (Am (Ab (Ax (rm 1 rfl (sv rfl (Bj rfl rfl) (rm 1 rfl (Al ?_)))))))
      obtain rfl := SJ h
      exact ⟨(n2, (wI (s2 + 1))), _, hk2, ⟨rfl, rfl, rfl, trivial⟩, rfl, Nat.lt_succ_self _⟩
   ·refine Dp (Aq (Aq (Bd (Ab ?_))))
    obtain rfl := SJ h
    obtain rfl : _ = x2 := hk2
    exact ⟨(), _, ho2, trivial, rfl⟩
def Es (a0 : List Ep) (v1 : Bool) (b2 : (List Ca)) : Option Bool :=
 (Pk b2).bind fun v3 => if (!v3) then (some v1) else ((Nf a0).bind fun v4 => (Jg v4).bind fun v5 => (Mn a0).bind fun v6 => if v1 then ((N5 v5.1 v6.1).bind fun v7 => if v7 then (some (v5.2 == v6.2)) else (some false)) else (some false))
def Ex (a0 : List Ep) (v1 : Bool) (s8 : Int × (List Ca)) : Option (LR (Int × (List Ca)) ((List Ca)) (Bool)) :=
 if (decide (s8.1 < (a0.length : Int))) then ((idx a0 s8.1).bind fun u9 => if (s8.2.length + [u9.Tx].length) * 72 ≤ 140737488355328 then ((idx a0 s8.1).bind fun u11 => (Pl u11.Prog).bind fun v12 => if (!v12) then (some (.ret v1)) else (some (.cont ((wI (s8.1 + 1)), (s8.2 ++ [u9.Tx]))))) else none) else (some (.brk s8.2))
def H2 (a0 : List Ep) : Option Bool :=
 (Ov).bind fun v1 => if (decide (30 < (a0.length : Int))) then (some v1) else ((Fc (Ex a0 v1) fuel (0, ([] : List Ca))).bind fun x => match x with | .inl r => some r | .inr e13 => Es a0 v1 e13)
theorem Qt {a0 : List Ep} {r : Bool} (h : H2 a0 = some r) : Bz Tryz.prog 3 [.one (.sl a0.length (a0.flatMap Ee))] (· = .s (.one (.b r))) := by
 unfold H2 at h
 refine A8 Tryz.func3 rfl (nt := 63) rfl (Nbl rfl) ?_
 intro w0 S0
 refine csr (rm 1 rfl (Al (Bp (Ax ?_))))
 obtain ⟨v1, hv1, h⟩ := Ag h
 refine Bn rfl fn4 Aj (A4 rfl) (Xk hv1) (rm 1 rfl (Al (Bp (csr (rm 1 rfl (sv rfl (An Aek rfl) (sv rfl (B8 rfl rfl) (Al (ccI h rfl (fun h => ?_) (fun h => ?_))))))))))
 ·refine csr (rm 2 rfl (Al (Bo (Ah ?_))))
  obtain rfl := SJ h
  exact dnT rfl rfl rfl rfl
 ·refine Be (Ab (csr (rm 1 rfl (Al (Bp (csr (rm 1 rfl (Al ?_))))))))
  refine H6 28 5 4 (by decide) rfl ?_
  refine C4 ((List Ca)) (fun b2 => [(0, .s (.one (.sl a0.length (a0.flatMap Ee)))), (3, .s (.one (.b v1))), (4, .s (.one (.ls 0 b2.length)))]) (fun b2 => [.arr 28 5 0 (b2.flatMap B4)]) (fun b2 => Es a0 v1 b2 = some r) (fun _ _ => Az rfl) (fun _ _ => Ak rfl) (fun _ _ => Nbl rfl) (fun b2 h => ?_) ?_
  ·unfold Es at h
   refine Bp (csr (sv rfl (A3 rfl) ?_))
   refine Vy 37 rfl (by (repeat' first | exact Ga.nil _ | apply Ga.cons | apply F5.one | apply F5.agg | exact Ci.nil | exact Ci.ls _ _ _ _ _ _ rfl (Ay (f := B4) (fun _ => rfl) _).symm | exact Ci.id _ rfl | exact Cg.nil _ | apply Cg.cons)) ?_
   obtain ⟨v3, hv3, h⟩ := Ag h
   refine Bn rfl fn6 (Ad rfl Aj) (A4 rfl) (Aat hv3) (sv rfl (B1 rfl) (Al (ccI h rfl (fun h => ?_) (fun h => ?_))))
   ·refine csr (rm 2 rfl (Al (Bo (Ah ?_))))
    obtain rfl := SJ h
    exact dnT rfl rfl rfl rfl
   ·refine Be (Ab (csr (sv rfl (A3 rfl) ?_)))
    obtain ⟨v4, hv4, h⟩ := Ag h
    refine Bn rfl fn8 (Ad rfl Aj) (A4 rfl) (Xi hv4) ?_
    obtain ⟨v5, hv5, h⟩ := Ag h
    refine Bn rfl fn7 (Ad rfl Aj) (A4 rfl) (T0 hv5) (sv rfl (Jx rfl) (sv rfl (Bm rfl rfl) (sv rfl (Bm rfl rfl) (rm 2 rfl (Al (csr (sv rfl (A3 rfl) ?_)))))))
    obtain ⟨v6, hv6, h⟩ := Ag h
    refine Bn rfl fn9 (Ad rfl Aj) (A4 rfl) (Wu hv6) (sv rfl (Jx rfl) (sv rfl (Bm rfl rfl) (sv rfl (Bm rfl rfl) (rm 2 rfl (Al (csr (rm 2 rfl (Bc 53 rfl (fun hc => ?_) (fun hc => ?_)))))))))
    ·replace h := Bt hc h
     clear hc
     refine rm 2 rfl (son rfl rfl rfl ?_)
     obtain ⟨v7, hv7, h⟩ := Ag h
     refine Bn rfl Ar7 (Ad rfl (Ad rfl Aj)) (A4 rfl) (Yw hv7) (rm 2 rfl (Bc 58 rfl (fun hc => ?_) (fun hc => ?_)))
     ·replace h := Bt hc h
      clear hc
      refine rm 2 rfl (son rfl rfl rfl (sv rfl (Ah2 Tryz.underlying4 rfl rfl) (rm 2 rfl (Al (Bo ?_)))))
      obtain rfl := SJ h
      exact dnT rfl rfl rfl rfl
     ·replace h := Bu hc h
      clear hc
      refine rm 5 rfl (Al (Bo ?_))
      obtain rfl := SJ h
      exact dnT rfl rfl rfl rfl
    ·replace h := Bu hc h
     clear hc
     refine rm 10 rfl (Al (Bo ?_))
     obtain rfl := SJ h
     exact dnT rfl rfl rfl rfl
  ·skip
   refine Bf ?_
   obtain ⟨x8, hx8, ho8⟩ := Ag h
   refine Bs (G := Nat × (Int × (List Ca))) (fun g => [(0, .s (.one (.sl a0.length (a0.flatMap Ee)))), (3, .s (.one (.b v1))), (4, .s (.one (.ls 0 g.2.2.length))), (5, .s (.one (Ii6 g.2.1)))]) (fun g => [.arr 28 5 0 (g.2.2.flatMap B4)]) (fun g => Fc (Ex a0 v1) g.1 g.2 = some x8) (fun g => g.1) (fuel, (0, ([] : List Ca))) hx8 ⟨rfl, rfl, rfl, rfl, trivial⟩ [] rfl (fun _ _ => Az rfl) (fun _ _ => Ak rfl) (fun _ _ => Nbl rfl) ?_
   clear hx8 h
   rintro ⟨n8, s8⟩ h
   obtain ⟨n8, y8, rfl, h, hk8⟩ := Dc h
   unfold Ex at h
   refine Bp (csr (rm 2 rfl (sv rfl (An Aek rfl) (sv rfl (Bi rfl rfl) (Al (ccI h rfl (fun h => ?_) (fun h => ?_)))))))
   ·refine Be (Ab (Bp (Bf (csr (rm 2 rfl (sv rfl (A3 rfl) ?_))))))
    obtain ⟨u9, hu9, h⟩ := Ag h
    refine sv rfl (Bw (f := Ee) Aek (fun _ => rfl) rfl rfl rfl rfl hu9) ?_
    refine sv rfl (A6 Agg rfl) (sv rfl (Bq (ys := [Ii6 u9.Tx.Token, Ii6 u9.Tx.Snap, Ii6 u9.Tx.Ts, .sl u9.Tx.Reads.length (u9.Tx.Reads.flatMap A0), .sl u9.Tx.Writes.length (u9.Tx.Writes.flatMap Ac)]) Aej rfl (.cp _) rfl rfl) ?_)
    refine Fw rfl Tryz.underlying24 Aob rfl rfl (List.all_eq_true.1 rfl) (by decide) ?_
    refine Cc [.arr 28 5 0 (s8.2.flatMap B4), .arr 28 5 0 ([u9.Tx].flatMap B4)] rfl ?_
    obtain ⟨hb10, h⟩ := Cl h
    refine Wx (f := B4) (xs := s8.2) (us := [u9.Tx]) rfl Tryz.underlying24 Aob Aq5 (fun _ => rfl) rfl rfl (.one _ _ _ _ (.ls _ _ _ _ _ _ rfl (Ay (f := B4) (fun _ => rfl) [u9.Tx]).symm)) rfl rfl rfl (.sl _ _ _ (Ay (f := B4) (fun _ => rfl) _)) rfl rfl hb10 (by decide) ?_
    refine rm 1 rfl (Al (csr (rm 1 rfl (sv rfl (A3 rfl) ?_))))
    obtain ⟨u11, hu11, h⟩ := Ag h
    refine sv rfl (Bw (f := Ee) Aek (fun _ => rfl) rfl rfl rfl rfl hu11) ?_
    refine sv rfl (A6 Afs rfl) (sv rfl (Bq (ys := [.b u11.Prog.RO, .sl u11.Prog.Ops.length (u11.Prog.Ops.flatMap Md)]) Aj6 rfl (.cp _) rfl rfl) ?_)
    obtain ⟨v12, hv12, h⟩ := Ag h
    refine Bn rfl fn5 (Ad rfl Aj) (A4 rfl) (Z6 hv12) (sv rfl (B1 rfl) (Al (ccI h rfl (fun h => ?_) (fun h => ?_))))
    ·refine csr (rm 2 rfl (Al (Bo (Ao (Ah (Ah (Ao (Ah ?_))))))))
     obtain rfl := SJ h
     obtain rfl : Sum.inl _ = x8 := hk8
     replace ho8 : some _ = some _ := ho8
     obtain rfl := Option.some.inj ho8
     exact dnT rfl rfl rfl rfl
    ·refine Be (Am (Ab (Ax (rm 1 rfl (sv rfl (Bj rfl rfl) (rm 1 rfl (Al ?_)))))))
     obtain rfl := SJ h
     exact ⟨(n8, ((wI (s8.1 + 1)), (s8.2 ++ [u9.Tx]))), _, hk8, ⟨rfl, rfl, rfl, rfl, trivial⟩, rfl, Nat.lt_succ_self _⟩
   ·refine Dp (Aq (Aq (Bd (Ab ?_))))
    obtain rfl := SJ h
    obtain rfl : _ = x8 := hk8
    exact ⟨s8.2, _, ho8, ⟨rfl, rfl, rfl, trivial⟩, rfl⟩
end Go.Proofs.YtphgpfgibpgfiaaGreat.Abs
