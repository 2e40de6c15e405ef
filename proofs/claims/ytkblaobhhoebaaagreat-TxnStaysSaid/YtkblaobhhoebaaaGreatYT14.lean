/-
 t
-/
import Derived.Test.YtkblaobhhoebaaaGreatYT14b
set_option linter.unusedVariables false
set_option linter.unusedSimpArgs false
namespace Go.Proofs.YtkblaobhhoebaaaGreat.Abs
open Go.RowKit Go.Proofs
set_option maxRecDepth 100000
def G3 (a0:List (List UInt8)) (a1:List UInt8):Option Int :=
 (Lj (Dw a0 a1) fuel 0).bind fun x=>match x with | .inl r=>some r | .inr e5=>Fi e5
theorem Rm {a0:List (List UInt8)} {a1:List UInt8} {r:Int} (h:G3 a0 a1=some r):Dn Tryz.prog 147 [.arr 56 1 0 (a0.flatMap (eL eU8))] [.one (.ls 0 a0.length),.one (.fn 148 [.sl a1.length (a1.flatMap eU8)] [])] (fun y m'=>y=.s (.one (Ii6 r))∧m'=[.arr 56 1 0 (a0.flatMap (eL eU8))]):=by
 unfold G3 at h
 refine Dk Tryz.func147 R (nt:=19) R (Nbl R) ?_
 intro w0 S0 X0 H0
 refine csr (rm 1 R (Ak (Bn (csr (rm 1 R (sv R (Hj S6 R R (Aw (f:=(eL eU8)) (fun _=>R) _).symm) ?_))))))
 refine rm 1 R (Ak (cj (Unit) (fun b1=>[]) (fun b1=>[.arr 56 1 0 (a0.flatMap (eL eU8))]) (fun b1=>Fi b1=some r) (fun _=>R) (fun b1 h=>?_) ?_))
 ·unfold Fi at h
  refine csr (rm 1 R (Ak (Bs ?_)))
  obtain rfl:=SJ h
  exact ⟨Or.inr R,_,[0],[.one (Ii6 (-1))],[.arr 56 1 0 (a0.flatMap (eL eU8))],(Ad (rt R) Aj),R,R,⟨by decide,R⟩,R,R,⟨R,R⟩⟩
 ·skip
  refine Bq ?_
  obtain ⟨x2,hx2,ho2⟩:=Ae h
  refine lpo (G:=Nat × (Int)) (fun g=>[(0,.s (.one (.ls 0 a0.length))),(1,.s (.one (.fn 148 [.sl a1.length (a1.flatMap eU8)] []))),(7,.s (.one (Ii6 (a0.length:Int)))),(8,.s (.one (Ii6 g.2)))]) (fun g=>[.arr 56 1 0 (a0.flatMap (eL eU8))]) (fun g=>Lj (Dw a0 a1) g.1 g.2=some x2) (fun g=>g.1) (fuel,0) hx2 ⟨R,R,R,R,trivial⟩ [] R (fun _=>R) ?_
  clear hx2 h
  rintro ⟨n2,s2⟩ h
  obtain ⟨n2,y2,rfl,h,hk2⟩:=Fh h
  unfold Dw at h
  refine csr (sv R (Bt R R) (Ak (Bn (ccI h R (fun h=>?_) (fun h=>?_)))))
  ·refine Bf (Ab (Bn (Bq (csr (rm 2 R (Ak (csr (rm 2 R (sv R (A4 R) ?_)))))))))
   obtain ⟨u3,hu3,h⟩:=Ae h
   refine sv R (Gq (f:=(eL eU8)) S6 (fun _=>R) R R R R R hu3) ?_
   refine sv R (Acm (f:=(eL eU8)) 0 N2 (fun _=>R) R R R R (Iv hu3).2 R) ?_
   obtain ⟨v4,hv4,h⟩:=Ae h
   refine sd R (Tn Awa (.fn _ _ _ _ R) (Aa R Af) R (Ny hv4)) (Ak (ccI h R (fun h=>?_) (fun h=>?_)))
   ·refine csr (rm 2 R (Ak (Bs (A0 (Ag (Ag (A0 (Ag ?_))))))))
    obtain rfl:=SJ h
    obtain rfl:Sum.inl _=x2:=hk2
    replace ho2:some _=some _:=ho2
    obtain rfl:=zD ho2
    exact ⟨Or.inr R,_,[0],[.one (Ii6 s2)],[.arr 56 1 0 (a0.flatMap (eL eU8))],(Ad (rt R) Aj),R,R,⟨by decide,R⟩,R,R,⟨R,R⟩⟩
   ·refine Bf (Ao (Ab (Ap (sv R (Bm R R) (rm 1 R (Ak ?_))))))
    obtain rfl:=SJ h
    exact ⟨(n2,(wI (s2+1))),_,hk2,⟨R,R,R,R,trivial⟩,R,zH _⟩
  ·refine Dd (Ar (Ar (Bj (Ab ?_))))
   obtain rfl:=SJ h
   obtain rfl:_=x2:=hk2
   exact ⟨(),_,ho2,trivial,R⟩
def Nl (a0:List (List UInt8)) (a1:List UInt8):Option (Int × Bool) :=
 (G3 a0 a1).bind fun v1=>if (decide (v1<0)) then (some ((a0.length:Int),false)) else ((idx a0 v1).bind fun u2=>(Ff u2 a1).bind fun v3=>some (v1,v3))
theorem Yk {a0:List (List UInt8)} {a1:List UInt8} {r:Int × Bool} (h:Nl a0 a1=some r):Dn Tryz.prog 69 [.arr 56 1 0 (a0.flatMap (eL eU8))] [.one (.ls 0 a0.length),.one (.sl a1.length (a1.flatMap eU8))] (fun y m'=>y=.tup [.one (Ii6 r.1),.one (.b r.2)]∧m'=[.arr 56 1 0 (a0.flatMap (eL eU8))]):=by
 unfold Nl at h
 refine Dk Tryz.func69 R (nt:=22) R (Nbl R) ?_
 intro w0 S0 X0 H0
 refine csr (rm 2 R (Ak (csr (rm 2 R (sv R (Tq (V0 R R Qi) Qi) ?_)))))
 obtain ⟨v1,hv1,h⟩:=Ae h
 refine H7 (x':=.s (.one (Ii6 v1))) (M':=[.arr 56 1 0 (a0.flatMap (eL eU8))]) [0] R Auy (.func _) (Aa R (Aa R Af)) (Rm hv1) R R (by decide) R R R ?_
 refine rm 1 R (Ak (Bn (csr (rm 1 R (sv R (Bt R R) (Ak (ccI h R (fun h=>?_) (fun h=>?_))))))))
 ·refine csr (rm 1 R (sv R (Hj S6 R R (Aw (f:=(eL eU8)) (fun _=>R) _).symm) ?_))
  refine rm 2 R (Ak (Bs (Ag ?_)))
  obtain rfl:=SJ h
  exact ⟨Or.inr R,_,[0],[.one (Ii6 (a0.length:Int)),.one (.b false)],[.arr 56 1 0 (a0.flatMap (eL eU8))],(Ad (rt R) (Ad (rt R) Aj)),R,R,⟨by decide,R⟩,R,R,⟨R,R⟩⟩
 ·refine Bf (Ab (csr (rm 2 R (sv R (A4 R) ?_))))
  obtain ⟨u2,hu2,h⟩:=Ae h
  refine sv R (Gq (f:=(eL eU8)) S6 (fun _=>R) R R R R R hu2) ?_
  refine sv R (Acm (f:=(eL eU8)) 0 N2 (fun _=>R) R R R R (Iv hu2).2 R) ?_
  refine sv R (A4 R) ?_
  obtain ⟨v3,hv3,h⟩:=Ae h
  refine A8 R Arx (Aa R (Aa R Af)) (An R) (N3 hv3) (rm 2 R (Ak (Bs ?_)))
  obtain rfl:=SJ h
  exact ⟨Or.inr R,_,[0],[.one (Ii6 v1),.one (.b v3)],[.arr 56 1 0 (a0.flatMap (eL eU8))],(Ad (rt R) (Ad (rt R) Aj)),R,R,⟨by decide,R⟩,R,R,⟨R,R⟩⟩
section
open Go.Lib
set_option maxHeartbeats 4000000 in
theorem Akk (b n c vb vc:Nat) (vs:List Value) (w:World) (i0:TypeInfo) (hi0:Tryz.prog.info? 56=some i0) (hs0:i0.size=1) (hroom:n+1≤c) (hc63:c≤9223372036854775807)
  (hvl:vs.length=1) (hsp:∀ j,j<1→(w.cell? ⟨b,n*1+j,none⟩).isSome=true) (hfz:∀ j,j<1→w.frozen? ⟨b,n*1+j,none⟩=false)
  (hvs:∀ j v,vs[j]? = some v→w.cell? ⟨vb,j,none⟩=some v) (h1v:∀ v ∈ vs,v.oneCell'=true) :
  Calls Tryz.prog 255 #[.slice (some ⟨b,0,none⟩) n c,.int .i64 n,.slice (some ⟨vb,0,none⟩) 1 vc] w fun e w' =>
   e=.returned (.slice (some ⟨b,0,none⟩) (n+1) c)∧w'=w.setCells b (n*1) vs:=by
 have hsrc:_root_.Go.Src Tryz.prog i0.size 25 (.slice (some ⟨vb,0,none⟩) 1 vc) 1 vs w:=by
  rw [hs0]
  exact _root_.Go.Src.ofSlice w Tryz.underlying25 ⟨vb,0,none⟩ 1 vc vs (by omega) (fun j u hj=>by rw [Addr.add_lit,yG];exact hvs j u hj) h1v
 go_enter Tryz.func255,Tryz.ntmps255
 go_wp2_with (at_builtin;refine wpList_append_room_src _ rfl _ _ 25 25 rfl 56 i0 Tryz.underlying25 hi0 b 0 n c rfl _ rfl 1 vs hsrc hroom (by rw [hvl,hs0,yG];exact hsp) (by rw [hvl,hs0,yG];exact hfz) ?_)
 go_ret
 refine ⟨R,?_⟩
 first | rfl | (simp;done) | (simp [hs0];done)
set_option maxHeartbeats 4000000 in
theorem Ae8 (b n c vb vc:Nat) (cs vs:List Value) (w:World) (i0:TypeInfo) (hi0:Tryz.prog.info? 56=some i0) (hz0:i0.zero=some (.slice none 0 0)) (hs0:i0.size=1) (hnc:n≤c) (hroom:c<n+1) (hn63:n+1≤9223372036854775807)
  (hfit:Builtin.nextslicecap (n+1) c*i0.bytes≤281474976710656) (hcl:cs.length=n*1) (hvl:vs.length=1)
  (hcs:∀ j v,cs[j]? = some v→w.cell? ⟨b,j,none⟩=some v) (hvs:∀ j v,vs[j]? = some v→w.cell? ⟨vb,j,none⟩=some v) (h1v:∀ v ∈ vs,v.oneCell'=true) :
  Calls Tryz.prog 255 #[.slice (some ⟨b,0,none⟩) n c,.int .i64 n,.slice (some ⟨vb,0,none⟩) 1 vc] w fun e w' =>
   e=.returned (.slice (some ⟨w.heap.size,0,none⟩) (n+1) (grownCap w (n+1) c 56)) ∧
   w'=w.drew.alloc (.cells ((cs++vs).toArray++Builtin.zeroCells (Value.cells (.slice none 0 0)) (grownCap w (n+1) c 56-(n+1))) 56):=by
 have hsrc:_root_.Go.Src Tryz.prog i0.size 25 (.slice (some ⟨vb,0,none⟩) 1 vc) 1 vs w:=by
  rw [hs0]
  exact _root_.Go.Src.ofSlice w Tryz.underlying25 ⟨vb,0,none⟩ 1 vc vs (by omega) (fun j u hj=>by rw [Addr.add_lit,yG];exact hvs j u hj) h1v
 have hold:(Builtin.firstCells i0.size n (.slice (some ⟨b,0,none⟩) n c)).run Tryz.prog w.drew=.ok cs.toArray w.drew:=by
  rw [hs0]
  exact run_firstCells_some w.drew 1 n ⟨b,0,none⟩ n c cs (by omega) (fun j v hj=>by rw [Addr.add_lit,yG];exact hcs j v hj)
 have hrun:∀ ty,(Builtin.append_ #[25,25] ty #[.slice (some ⟨b,0,none⟩) n c,.slice (some ⟨vb,0,none⟩) 1 vc]).run Tryz.prog w=.ok (.slice (some ⟨w.heap.size,0,none⟩) (n+1) (grownCap w (n+1) c 56)) (w.drew.alloc (.cells ((cs++vs).toArray++Builtin.zeroCells (Value.cells (.slice none 0 0)) (grownCap w (n+1) c 56-(n+1))) 56)):=fun ty =>
  run_append_grow_src w 25 25 ty 56 i0 _ Tryz.underlying25 hi0 hz0 (some ⟨b,0,none⟩) n c cs hold _ 1 vs hsrc hroom (by omega) hfit
 go_enter Tryz.func255,Tryz.ntmps255
 go_wp2_with (at_builtin;refine Lib.wpList_append_run _ rfl _ _ _ _ rfl _ _ rfl rfl _ _ (hrun _) ?_)
 all_goals (go_ret;first | exact ⟨rfl,rfl⟩ | exact ⟨rfl,by simp [Value.cells]⟩)
set_option maxHeartbeats 4000000 in
theorem Ad2 (b n c i vb vc:Nat) (cs vs:List Value) (w:World) (hs0:(Tryz.prog.info? 56).map (·.size)=some 1) (hi:i<n) (hroom:n+1≤c) (hc63:c≤9223372036854775807) (hvb:vb≠b)
  (hcl:cs.length=n*1) (hvl:vs.length=1)
  (hcs:∀ j v,cs[j]? = some v→w.cell? ⟨b,j,none⟩=some v) (hsp:∀ j,j<(n+1)*1→(w.cell? ⟨b,j,none⟩).isSome=true) (hfz:∀ j,j<(n+1)*1→w.frozen? ⟨b,j,none⟩=false)
  (hvs:∀ j v,vs[j]? = some v→w.cell? ⟨vb,j,none⟩=some v) (h1c:∀ v ∈ cs,v.oneCell'=true) (h1v:∀ v ∈ vs,v.oneCell'=true)
  (tA tB:TypeId) (kA kB:Nat) (hsa:w.shape? vb=some (tA,kA)) (hsb:w.shape? b=some (tB,kB)) (hkB:kB≠0) (hfa:w.frozen? ⟨vb,0,none⟩=false) (hfe:w.frozen? ⟨vb,kA,none⟩=false) :
  Calls Tryz.prog 255 #[.slice (some ⟨b,0,none⟩) n c,.int .i64 i,.slice (some ⟨vb,0,none⟩) 1 vc] w fun e w' =>
   e=.returned (.slice (some ⟨b,0,none⟩) (n+1) c)∧w'=(w.drew.setCells b (i+1) (cs.drop (i))).setCells b (i) vs:=by
 have hz2:¬ ((i:Int)=(n:Int)):=by omega
 have hz3:¬ ((c:Int)<(n:Int)+1):=by omega
 have mixed:Tryz.prog.follows .mixedOrders=true:=by kernel_rfl
 have hov:∀ lb cb,(callFunc 271 #[.slice (some ⟨vb,0,none⟩) 1 vc,.slice (some ⟨b,i+1,none⟩) lb cb]).run Tryz.prog w=.ok (.value (.bool false)) w:=fun lb cb=>by
  rw [run_callFunc_extern Tryz.func271 (by kernel_rfl) (by kernel_rfl) (by kernel_rfl) (e:=Extern.SlicesOverlaps.overlaps #[25,25] #[4]) (by kernel_rfl),
   Lib.run_overlaps_apart w 25 4 56 Tryz.underlying25 1 (fun w=>Df hs0 w) ⟨vb,0,none⟩ ⟨b,i+1,none⟩ 1 vc lb cb hvb tA tB kA kB hsa hsb hkB hfa hfe]
  rfl
 have hdl:(cs.drop (i)).length=(n-i)*1:=by rw [yB,hcl];omega
 have hw1:IntKind.i64.wrap ((i:Int)+1)=(i:Int)+1:=by rw [IntKind.wrap_i64];omega
 have hb1:(0:Int)≤(i:Int)+1:=by omega
 have hin:i≤n:=by omega
 have htn:((i:Int)+1).toNat=i+1:=by omega
 have hb2:¬ (c=i+1):=by omega
 have hb3:(i:Int)≤(n:Int)+1:=by omega
 have hb4:¬ (c=i):=by omega
 have hcp1:∀ ty dc sc,(Builtin.copy_ #[25,25] ty #[.slice (some ⟨b,i+1,none⟩) (n-i) dc,.slice (some ⟨b,i,none⟩) (n+1-i) sc]).run Tryz.prog w.drew=.ok (goInt (n-i:Nat)) (w.drew.setCells b (i+1) (cs.drop (i))):=fun ty dc sc =>
  Ig w.drew _ _ ty 56 b (i+1) (n-i) dc ⟨b,i,none⟩ (n+1-i) sc 1 (n-i) (cs.drop (i)) Tryz.underlying25 hs0 (by simp only [kF];split <;> omega) hdl
   (fun j v hj=>by rw [Addr.add_lit];exact hcs (i+j) v (by rwa [yF] at hj))
   (fun j hj=>hsp _ (by rw [hdl] at hj;omega)) (fun j hj=>hfz _ (by rw [hdl] at hj;omega)) (fun v hv=>h1c v (w4 hv))
 obtain ⟨W1,hW1⟩:∃ W1,W1=w.drew.setCells b (i+1) (cs.drop (i)):=⟨_,rfl⟩
 have hsp1:∀ k,k<(n+1)*1→(W1.cell? ⟨b,k,none⟩).isSome=true:=fun k hk=>by
  rw [hW1]
  exact isSome_setCells b (cs.drop (i)) (i+1) w.drew (fun j hj=>hsp _ (by rw [hdl] at hj;omega)) _ (hsp k hk)
 have hcp2:∀ (W:World),(∀ x,W.cell? x=W1.cell? x)→(∀ x,W.frozen? x=W1.frozen? x)→∀ ty dc,(Builtin.copy_ #[25,25] ty #[.slice (some ⟨b,i,none⟩) (n+1-i) dc,.slice (some ⟨vb,0,none⟩) 1 vc]).run Tryz.prog W=.ok (goInt (1:Nat)) (W.setCells b (i) vs):=fun W hWc hWf ty dc =>
  Ig W _ _ ty 56 b (i) (n+1-i) dc ⟨vb,0,none⟩ 1 vc 1 1 vs Tryz.underlying25 hs0 (by simp only [kF];split <;> omega) (by omega)
   (fun j v hj=>by
    rw [Addr.add_lit,hWc,hW1,yG,World.cell?_setCells_out b _ _ _ _ (fun h _=>absurd h hvb)]
    exact hvs j v hj)
   (fun j hj=>by rw [hWc];exact hsp1 _ (by omega)) (fun j hj=>by rw [hWf,hW1,World.frozen?_setCells];exact hfz _ (by omega)) h1v
 rw [← hW1] at hcp1
 go_enter Tryz.func255,Tryz.ntmps255
 go_wp2_with (simp only [hov])
 go_region_law_o (refine step_copy_runI rfl _ _ 25 25 rfl _ _ (by simp [Act.eval,Act.put]) (by simp [Act.eval,Act.put]) (hcp1 _ _ _) ?_)
 go_wp2_with (at_builtin;refine wpList_copy_runI _ rfl _ _ 25 25 rfl _ _ rfl rfl (hcp2 _ (fun _=>rfl) (fun _=>rfl) _ _) ?_)
 go_ret
 first | exact ⟨rfl,rfl⟩ | exact ⟨rfl,by rw [hW1]⟩
set_option maxHeartbeats 4000000 in
theorem Af0 (b n c i vb vc:Nat) (cs vs:List Value) (w:World) (i0:TypeInfo) (hi0:Tryz.prog.info? 56=some i0) (hz0:i0.zero=some (.slice none 0 0)) (hs0:i0.size=1) (hi:i<n) (hnc:n≤c) (hroom:c<n+1) (hn63:n+1≤4611686018427387904)
  (hb48:(n+1)*i0.bytes≤281474976710656) (hfit:Builtin.nextslicecap (n+1) c*i0.bytes≤281474976710656) (hcl:cs.length=n*1) (hvl:vs.length=1)
  (hcs:∀ j v,cs[j]? = some v→w.cell? ⟨b,j,none⟩=some v) (hvs:∀ j v,vs[j]? = some v→w.cell? ⟨vb,j,none⟩=some v) (h1c:∀ v ∈ cs,v.oneCell'=true) (h1v:∀ v ∈ vs,v.oneCell'=true) :
  Calls Tryz.prog 255 #[.slice (some ⟨b,0,none⟩) n c,.int .i64 i,.slice (some ⟨vb,0,none⟩) 1 vc] w fun e w' =>
   e=.returned (.slice (some ⟨w.heap.size,0,none⟩) (n+1) (grownCap w (n+1) c 56)) ∧
   w'=(((w.alloc (.cells ((cs.take (i)).toArray++Builtin.zeroCells (Value.cells (.slice none 0 0)) (n+1-i)++Builtin.zeroCells (Value.cells (.slice none 0 0)) (grownCap w (n+1) c 56-(n+1))) 56)).drew.setCells w.heap.size (i) vs).drew).setCells w.heap.size (i+1) (cs.drop (i)):=by
 have mixed:Tryz.prog.follows .mixedOrders=true:=by kernel_rfl
 have hz2:¬ ((i:Int)=(n:Int)):=by omega
 have hz3:(c:Int)<(n:Int)+1:=by omega
 have hsz:(Tryz.prog.info? 56).map (·.size)=some 1:=by rw [hi0];simp [hs0]
 have hbw:b<w.heap.size:=block_lt_of_cell (hcs 0 _ (zB (by omega)))
 have hvw:vb<w.heap.size:=block_lt_of_cell (hvs 0 _ (zB (by omega)))
 have hkk:(n:Int)+1-(i:Int)=((n+1-i:Nat):Int):=by omega
 have hik:i+(n+1-i)=n+1:=by omega
 have htl:(cs.take (i)).length=i*1:=by rw [zL];omega
 have hold:(Builtin.firstCells i0.size i (.slice (some ⟨b,0,none⟩) i c)).run Tryz.prog w.drew=.ok (cs.take (i)).toArray w.drew:=by
  rw [hs0]
  exact run_firstCells_some w.drew 1 i ⟨b,0,none⟩ i c (cs.take (i)) htl (fun j v hj=>by
   rw [Addr.add_lit,yG]
   rw [yL] at hj
   split at hj
   ·exact hcs j v hj
   ·cases hj)
 have hrz:∀ ty,(Builtin.append_ #[25,3] ty #[.slice (some ⟨b,0,none⟩) i c,.int .i64 ((n:Int)+1-(i:Int))]).run Tryz.prog w =
   .ok (.slice (some ⟨w.heap.size,0,none⟩) (n+1) (grownCap w (n+1) c 56)) (w.drew.alloc (.cells ((cs.take (i)).toArray++Builtin.zeroCells (Value.cells (.slice none 0 0)) (n+1-i)++Builtin.zeroCells (Value.cells (.slice none 0 0)) (grownCap w (n+1) c 56-(n+1))) 56)):=fun ty=>by
  have h:=Lib.run_append_grow_zeros w 25 3 ty 56 i0 _ .i64 .i64 Tryz.underlying25 Tryz.underlying3 hi0 hz0 (some ⟨b,0,none⟩) i c (cs.take (i)) hold (n+1-i) (by omega) (by omega) (by omega) (by omega) (yO (xA _ (by omega)) hb48) (by rw [hik];exact hfit)
  rw [hik] at h
  rw [hkk]
  exact h
 obtain ⟨G,hG⟩:∃ G,G=grownCap w (n+1) c 56:=⟨_,rfl⟩
 obtain ⟨ROW,hROW⟩:∃ ROW:Array Value,ROW=(cs.take (i)).toArray++Builtin.zeroCells (Value.cells (.slice none 0 0)) (n+1-i)++Builtin.zeroCells (Value.cells (.slice none 0 0)) (G-(n+1)):=⟨_,rfl⟩
 rw [← hG] at hrz ⊢
 rw [← hROW] at hrz ⊢
 have hzc:∀ k,(Builtin.zeroCells (Value.cells (.slice none 0 0)) k).size=k*1:=fun k=>by simp [Builtin.zeroCells,Value.cells]
 have hRl:(n+1)*1≤ROW.size:=by
  rw [hROW,yS,yS,hzc,hzc,z7,htl]
  omega
 obtain ⟨W1,hW1⟩:∃ W1,W1=w.drew.alloc (.cells ROW 56):=⟨_,rfl⟩
 rw [← hW1] at hrz
 have hN:∀ j,j<(n+1)*1→(W1.cell? ⟨w.heap.size,j,none⟩).isSome=true:=fun j hj=>by
  rw [hW1,World.cell?_alloc_at (w:=w.drew) ROW _ w.heap.size j rfl,zU (by omega)];rfl
 have hNf:∀ j,W1.frozen? ⟨w.heap.size,j,none⟩=false:=fun j=>by rw [hW1];exact World.frozen?_alloc_at (w:=w.drew) ROW _ w.heap.size j rfl
 have hOb:∀ j v,w.cell? ⟨b,j,none⟩=some v→W1.cell? ⟨b,j,none⟩=some v:=fun j v h=>by rw [hW1,World.cell?_alloc_past (w:=w.drew) _ b j hbw];exact h
 have hOv:∀ j v,w.cell? ⟨vb,j,none⟩=some v→W1.cell? ⟨vb,j,none⟩=some v:=fun j v h=>by rw [hW1,World.cell?_alloc_past (w:=w.drew) _ vb j hvw];exact h
 have hcpA:∀ (W:World),(∀ x,W.cell? x=W1.cell? x)→(∀ x,W.frozen? x=W1.frozen? x)→∀ ty dc,(Builtin.copy_ #[25,25] ty #[.slice (some ⟨w.heap.size,i,none⟩) (n+1-i) dc,.slice (some ⟨vb,0,none⟩) 1 vc]).run Tryz.prog W=.ok (goInt (1:Nat)) (W.setCells w.heap.size (i) vs):=fun W hWc hWf ty dc =>
  Ig W _ _ ty 56 w.heap.size (i) (n+1-i) dc ⟨vb,0,none⟩ 1 vc 1 1 vs Tryz.underlying25 hsz (by simp only [kF];split <;> omega) (by omega)
   (fun j v hj=>by rw [Addr.add_lit,hWc,yG];exact hOv _ v (hvs j v hj))
   (fun j hj=>by rw [hWc];exact hN _ (by omega)) (fun j hj=>by rw [hWf];exact hNf _) h1v
 have hGn:n+1≤G:=by rw [hG];exact grownCap_ge w _ _ _
 have hG63:G≤9223372036854775807:=by
  have:=grownCap_le_maxLen w (n+1) c 56 (by unfold maxLen;omega)
  rw [← hG] at this
  unfold maxLen at this
  omega
 have hGi:¬ (G=i):=by omega
 have hGim:¬ (G=i+1):=by omega
 have hci:¬ (c=i):=by omega
 have hbN:b≠w.heap.size:=by omega
 have hdl:(cs.drop (i)).length=(n-i)*1:=by rw [yB,hcl];omega
 have hcpB:∀ (W:World),(∀ x,W.cell? x=(W1.setCells w.heap.size (i) vs).cell? x)→(∀ x,W.frozen? x=(W1.setCells w.heap.size (i) vs).frozen? x)→∀ ty dc sc,(Builtin.copy_ #[25,25] ty #[.slice (some ⟨w.heap.size,i+1,none⟩) (n-i) dc,.slice (some ⟨b,i,none⟩) (n-i) sc]).run Tryz.prog W=.ok (goInt (n-i:Nat)) (W.setCells w.heap.size (i+1) (cs.drop (i))):=fun W hWc hWf ty dc sc =>
  Ig W _ _ ty 56 w.heap.size (i+1) (n-i) dc ⟨b,i,none⟩ (n-i) sc 1 (n-i) (cs.drop (i)) Tryz.underlying25 hsz (by simp only [kF];split <;> omega) hdl
   (fun j v hj=>by
    rw [Addr.add_lit,hWc,World.cell?_setCells_out _ _ _ _ _ (fun h _=>absurd h hbN)]
    exact hOb _ v (hcs (i+j) v (by rwa [yF] at hj)))
   (fun j hj=>by rw [hWc];exact isSome_setCells w.heap.size vs (i) W1 (fun t ht=>hN _ (by omega)) _ (hN _ (by rw [hdl] at hj;omega)))
   (fun j hj=>by rw [hWf,World.frozen?_setCells];exact hNf _) (fun v hv=>h1c v (w4 hv))
 subst hW1
 have hE1:∀ x,((w.alloc (.cells ROW 56)).drew).cell? x=(w.drew.alloc (.cells ROW 56)).cell? x:=fun x=>rfl
 have hE2:∀ x,((w.alloc (.cells ROW 56)).drew).frozen? x=(w.drew.alloc (.cells ROW 56)).frozen? x:=fun x=>rfl
 have hF1:∀ x,(((w.alloc (.cells ROW 56)).drew.setCells w.heap.size (i) vs).drew).cell? x=((w.drew.alloc (.cells ROW 56)).setCells w.heap.size (i) vs).cell? x:=fun x=>rfl
 have hF2:∀ x,(((w.alloc (.cells ROW 56)).drew.setCells w.heap.size (i) vs).drew).frozen? x=((w.drew.alloc (.cells ROW 56)).setCells w.heap.size (i) vs).frozen? x:=fun x=>rfl
 have hw1:IntKind.i64.wrap ((i:Int)+1)=(i:Int)+1:=by rw [IntKind.wrap_i64];omega
 have hb1:(0:Int)≤(i:Int)+1:=by omega
 have hin:i≤n:=by omega
 have htn:((i:Int)+1).toNat=i+1:=by omega
 have hb3:(i:Int)≤(n:Int):=by omega
 clear hkk hik hold hROW hG hRl htl hzc
 go_enter Tryz.func255,Tryz.ntmps255
 go_wp2_with (first
  | (at_builtin;refine Lib.wpList_append_run _ rfl _ _ _ _ rfl _ _ rfl rfl _ _ (hrz _) ?_)
  | (at_builtin;refine wpList_copy_runI _ rfl _ _ 25 25 rfl _ _ rfl rfl (hcpA _ hE1 hE2 _ _) ?_)
  | (at_builtin;refine wpList_copy_runI _ rfl _ _ 25 25 rfl _ _ rfl rfl (hcpB _ (fun _=>rfl) (fun _=>rfl) _ _ _) ?_))
 go_region_law_o (refine step_copy_runI rfl _ _ 25 25 rfl (.slice (some ⟨w.heap.size,i+1,none⟩) (n-i) (G-(i+1))) (.slice (some ⟨b,i,none⟩) (n-i) (c-i)) (by simp [Act.eval,Act.put]) (by simp [Act.eval,Act.put]) (hcpB _ hF1 hF2 3 (G-(i+1)) (c-i)) ?_)
 go_wp2
 go_ret
 exact ⟨R,R⟩
set_option maxHeartbeats 4000000 in
theorem Akj (vb vc:Nat) (vs:List Value) (w:World) (i0:TypeInfo) (hi0:Tryz.prog.info? 56=some i0) (hz0:i0.zero=some (.slice none 0 0)) (hs0:i0.size=1)
  (hfit:Builtin.nextslicecap (0+1) 0*i0.bytes≤281474976710656) (hvl:vs.length=1)
  (hvs:∀ j v,vs[j]? = some v→w.cell? ⟨vb,j,none⟩=some v) (h1v:∀ v ∈ vs,v.oneCell'=true) :
  Calls Tryz.prog 255 #[.slice none 0 0,.int .i64 ((0:Nat):Int),.slice (some ⟨vb,0,none⟩) 1 vc] w fun e w' =>
   e=.returned (.slice (some ⟨w.heap.size,0,none⟩) (0+1) (grownCap w (0+1) 0 56)) ∧
   w'=w.drew.alloc (.cells (([]++vs).toArray++Builtin.zeroCells (Value.cells (.slice none 0 0)) (grownCap w (0+1) 0 56-(0+1))) 56):=by
 have hsrc:_root_.Go.Src Tryz.prog i0.size 25 (.slice (some ⟨vb,0,none⟩) 1 vc) 1 vs w:=by
  rw [hs0]
  exact _root_.Go.Src.ofSlice w Tryz.underlying25 ⟨vb,0,none⟩ 1 vc vs (by omega) (fun j u hj=>by rw [Addr.add_lit,yG];exact hvs j u hj) h1v
 have hold:(Builtin.firstCells i0.size 0 (.slice none 0 0)).run Tryz.prog w.drew=.ok ([]:List Value).toArray w.drew:=by
  rw [hs0]
  exact run_firstCells_none w.drew 1 0 0 0
 have hrun:∀ ty,(Builtin.append_ #[25,25] ty #[.slice none 0 0,.slice (some ⟨vb,0,none⟩) 1 vc]).run Tryz.prog w=.ok (.slice (some ⟨w.heap.size,0,none⟩) (0+1) (grownCap w (0+1) 0 56)) (w.drew.alloc (.cells (([]++vs).toArray++Builtin.zeroCells (Value.cells (.slice none 0 0)) (grownCap w (0+1) 0 56-(0+1))) 56)):=fun ty =>
  run_append_grow_src w 25 25 ty 56 i0 _ Tryz.underlying25 hi0 hz0 none 0 0 [] hold _ 1 vs hsrc (by omega) (by omega) hfit
 go_enter Tryz.func255,Tryz.ntmps255
 go_wp2_with (at_builtin;refine Lib.wpList_append_run _ rfl _ _ _ _ rfl _ _ rfl rfl _ _ (hrun _) ?_)
 all_goals (go_ret;first | exact ⟨rfl,rfl⟩ | exact ⟨rfl,by simp [Value.cells]⟩)
theorem Af6:(Tryz.prog.info? 56).map (fun i=>(i.zero,i.size,i.bytes))=some (some (.slice none 0 0),1,24):=by kernel_rfl
theorem Aoy {cs vs:List Lf} {n i:Nat} (hcl:cs.length=n*1) (hvl:vs.length=1) (hi:i≤n) (hn:(n+1)*24≤140737488355328) :
  Dn Tryz.prog 255 [.arr 56 1 0 cs,.arr 56 1 0 vs] [.one (.ls 0 n),.one (Ii6 (i:Int)),.one (.ls 1 1)] (fun y m'=>y=.s (.one (.ls 0 (n+1)))∧m'=[.arr 56 1 0 (cs.take (i*1)++vs++cs.drop (i*1)),.dead]):=by
 refine Xd (by decide) hcl hvl (fun w v1 vb vc cur2 xs ys hown hg2 hcell hyl hne hx1 hy1=>?_)
 obtain ⟨i0,hi0,hz0,hs0,hb0⟩:=info_parts Af6
 have hxl:=hown.1
 have hfitG:∀ {old},old<n+1→Builtin.nextslicecap (n+1) old*i0.bytes≤281474976710656:=fun h=>growslice_fits h (by rw [hb0];exact hn)
 have hsz':(Tryz.prog.info? 56).map (·.size)=some 1:=by rw [hi0];simp [hs0]
 have hzc:∀ k,(Builtin.zeroCells (Value.cells (.slice none 0 0)) k).size=k*1:=fun k=>by simp [Builtin.zeroCells,Value.cells]
 have hg63:∀ c,grownCap w (n+1) c 56≤maxLen:=fun c=>grownCap_le_maxLen w (n+1) c 56 (by unfold maxLen;omega)
 have hgge:∀ c,n+1≤grownCap w (n+1) c 56:=fun c=>grownCap_ge w _ _ _
 rcases hown.2 with ⟨rfl,h0⟩ | ⟨g,cap,cur,rfl,_,hg,hnc,hcm,hcs,hct⟩
 ·subst h0
  have hi0':i=0:=by omega
  subst hi0'
  have hx0:xs=[]:=jR.1 (hxl.trans (wS _))
  subst hx0
  refine (Akj vb vc ys w i0 hi0 hz0 hs0 (hfitG (by omega)) hyl hcell hy1).mono ?_
  rintro e w' ⟨rfl,rfl⟩
  refine ⟨_,w.heap.size,R,O1 (hgge 0) (hg63 0) ?_ ?_,.inr (zN _)⟩
  ·have:=hgge 0
   rw [yS,hzc,z7,wW,hyl];omega
  ·rw [xK,yW,xY (by rw [wW,hyl])]
   simp
 ·have hcur:cur.toList.length=cap*1:=by rw [yA];exact hcs
  have hcell1:∀ j v,xs[j]? = some v→w.cell? ⟨g,j,none⟩=some v:=fun j v hj=>by
   unfold World.cell?
   rw [hg]
   rw [← hct,yL] at hj
   split at hj
   ·simpa using hj
   ·cases hj
  have hc63:cap≤9223372036854775807:=by unfold maxLen at hcm;exact hcm
  have hsome:∀ j,j<cap*1→(w.cell? ⟨g,j,none⟩).isSome=true:=fun j hj=>by
   unfold World.cell?
   rw [hg]
   show (cur[j]?).isSome=true
   rw [zU (by omega)];rfl
  have hfrz:∀ j,w.frozen? ⟨g,j,none⟩=false:=fun j=>by
   unfold World.frozen?
   rw [hg]
   show (decide (0≤j) && decide (j<0))=false
   rw [decide_eq_false (zS j),jB]
  have hfrz2:∀ j,w.frozen? ⟨vb,j,none⟩=false:=fun j=>by
   unfold World.frozen?
   rw [hg2]
   show (decide (0≤j) && decide (j<0))=false
   rw [decide_eq_false (zS j),jB]
  have hvb:vb≠g:=fun e=>hne (by rw [e];rfl)
  rcases Nat.lt_or_eq_of_le hi with hlt | rfl
  ·rcases zP cap (n+1) with hroom | hroom
   ·refine (Af0 g n cap i vb vc xs ys w i0 hi0 hz0 hs0 hlt hnc hroom (by omega) (by rw [hb0];omega) (hfitG hroom) hxl hyl hcell1 hcell hx1 hy1).mono ?_
    rintro e w' ⟨rfl,rfl⟩
    have hge:=hgge cap
    have htl:(xs.take (i*1)).length=i*1:=by rw [zL];omega
    have:=Tu (E:=56) (sz:=1) (w:=w) (row:=(xs.take (i*1)).toArray++Builtin.zeroCells (Value.cells (.slice none 0 0)) (n+1-i)++Builtin.zeroCells (Value.cells (.slice none 0 0)) (grownCap w (n+1) cap 56-(n+1))) (xs:=xs.take (i*1)) (vs:=ys) (D:=xs.drop (i*1)) hlt hge (hg63 cap)
     (by rw [yS,yS,hzc,hzc,z7,htl];omega) hyl (by rw [yB,hxl];omega)
     (by rw [xK,xK,yW,xQ,xY htl])
    refine ⟨_,w.heap.size,R,?_,.inr (zN _)⟩
    first | exact this | simpa only [kC] using this
   ·refine (Ad2 g n cap i vb vc xs ys w hsz' hlt hroom hc63 hvb hxl hyl hcell1 (fun j hj=>hsome j (by omega)) (fun j _=>hfrz j) hcell hx1 hy1 56 56 cur2.size cur.size (by unfold World.shape?;rw [hg2]) (by unfold World.shape?;rw [hg]) (by omega) (hfrz2 _) (hfrz2 _)).mono ?_
    rintro e w' ⟨rfl,rfl⟩
    have:=Sm (E:=56) (sz:=1) (b:=g) (vs:=ys) hg hlt hroom hcm hcs hyl
    rw [hct] at this
    refine ⟨_,g,R,?_,.inl R⟩
    first | exact this | simpa only [kC] using this
  ·have hxe:xs.take (i*1)++ys++xs.drop (i*1)=xs++ys:=by
    rw [yZ (by omega),wU (by omega),xF]
   rw [hxe]
   rcases zP cap (i+1) with hroom | hroom
   ·refine (Ae8 g i cap vb vc xs ys w i0 hi0 hz0 hs0 hnc hroom (by omega) (hfitG hroom) hxl hyl hcell1 hcell hy1).mono ?_
    rintro e w' ⟨rfl,rfl⟩
    have hge:=hgge cap
    refine ⟨_,w.heap.size,R,O1 hge (hg63 cap) ?_ ?_,.inr (zN _)⟩
    ·rw [yS,hzc,z7,zG,hxl,hyl];omega
    ·rw [xK,yW,xY (by rw [zG,hxl,hyl];omega)]
   ·refine (Akk g i cap vb vc ys w i0 hi0 hs0 hroom hc63 hyl (fun j hj=>hsome _ (by omega)) (fun j _=>hfrz _) hcell hy1).mono ?_
    rintro e w' ⟨rfl,rfl⟩
    have:=V3 (E:=56) (sz:=1) (n:=i) (b:=g) (vs:=ys) hg hroom hcm hcs hyl
    rw [hct] at this
    exact ⟨_,g,R,this,.inl R⟩
end
def Rh (a0:List (List UInt8)) (a1:Int) (a2:List (List UInt8)):Option (List (List UInt8)):=An5 24 a0 a1 a2
theorem Uj {a0:List (List UInt8)} {a1:Int} {a2 r:List (List UInt8)} (h:Rh a0 a1 a2=some r):Dn Tryz.prog 255 [.arr 56 1 0 (a0.flatMap (eL eU8)),.arr 56 1 0 (a2.flatMap (eL eU8))] [.one (.ls 0 a0.length),.one (Ii6 a1),.one (.ls 1 a2.length)] (fun y m'=>y=.s (.one (.ls 0 r.length))∧m'=[.arr 56 1 0 (r.flatMap (eL eU8)),.dead]) :=
 Alu (f:=(eL eU8)) (fun _=>rfl) Aoy h
section
open Go.Lib
set_option maxHeartbeats 4000000 in
theorem Akf (b n c vb vc:Nat) (vs:List Value) (w:World) (i0:TypeInfo) (hi0:Tryz.prog.info? 134=some i0) (hs0:i0.size=1) (hroom:n+1≤c) (hc63:c≤9223372036854775807)
  (hvl:vs.length=1) (hsp:∀ j,j<1→(w.cell? ⟨b,n*1+j,none⟩).isSome=true) (hfz:∀ j,j<1→w.frozen? ⟨b,n*1+j,none⟩=false)
  (hvs:∀ j v,vs[j]? = some v→w.cell? ⟨vb,j,none⟩=some v) (h1v:∀ v ∈ vs,v.oneCell'=true) :
  Calls Tryz.prog 256 #[.slice (some ⟨b,0,none⟩) n c,.int .i64 n,.slice (some ⟨vb,0,none⟩) 1 vc] w fun e w' =>
   e=.returned (.slice (some ⟨b,0,none⟩) (n+1) c)∧w'=w.setCells b (n*1) vs:=by
 have hsrc:_root_.Go.Src Tryz.prog i0.size 26 (.slice (some ⟨vb,0,none⟩) 1 vc) 1 vs w:=by
  rw [hs0]
  exact _root_.Go.Src.ofSlice w Tryz.underlying26 ⟨vb,0,none⟩ 1 vc vs (by omega) (fun j u hj=>by rw [Addr.add_lit,yG];exact hvs j u hj) h1v
 go_enter Tryz.func256,Tryz.ntmps256
 go_wp2_with (at_builtin;refine wpList_append_room_src _ rfl _ _ 26 26 rfl 134 i0 Tryz.underlying26 hi0 b 0 n c rfl _ rfl 1 vs hsrc hroom (by rw [hvl,hs0,yG];exact hsp) (by rw [hvl,hs0,yG];exact hfz) ?_)
 go_ret
 refine ⟨R,?_⟩
 first | rfl | (simp;done) | (simp [hs0];done)
set_option maxHeartbeats 4000000 in
theorem Aez (b n c vb vc:Nat) (cs vs:List Value) (w:World) (i0:TypeInfo) (hi0:Tryz.prog.info? 134=some i0) (hz0:i0.zero=some (.agg #[.slice none 0 0])) (hs0:i0.size=1) (hnc:n≤c) (hroom:c<n+1) (hn63:n+1≤9223372036854775807)
  (hfit:Builtin.nextslicecap (n+1) c*i0.bytes≤281474976710656) (hcl:cs.length=n*1) (hvl:vs.length=1)
  (hcs:∀ j v,cs[j]? = some v→w.cell? ⟨b,j,none⟩=some v) (hvs:∀ j v,vs[j]? = some v→w.cell? ⟨vb,j,none⟩=some v) (h1v:∀ v ∈ vs,v.oneCell'=true) :
  Calls Tryz.prog 256 #[.slice (some ⟨b,0,none⟩) n c,.int .i64 n,.slice (some ⟨vb,0,none⟩) 1 vc] w fun e w' =>
   e=.returned (.slice (some ⟨w.heap.size,0,none⟩) (n+1) (grownCap w (n+1) c 134)) ∧
   w'=w.drew.alloc (.cells ((cs++vs).toArray++Builtin.zeroCells (Value.cells (.agg #[.slice none 0 0])) (grownCap w (n+1) c 134-(n+1))) 134):=by
 have hsrc:_root_.Go.Src Tryz.prog i0.size 26 (.slice (some ⟨vb,0,none⟩) 1 vc) 1 vs w:=by
  rw [hs0]
  exact _root_.Go.Src.ofSlice w Tryz.underlying26 ⟨vb,0,none⟩ 1 vc vs (by omega) (fun j u hj=>by rw [Addr.add_lit,yG];exact hvs j u hj) h1v
 have hold:(Builtin.firstCells i0.size n (.slice (some ⟨b,0,none⟩) n c)).run Tryz.prog w.drew=.ok cs.toArray w.drew:=by
  rw [hs0]
  exact run_firstCells_some w.drew 1 n ⟨b,0,none⟩ n c cs (by omega) (fun j v hj=>by rw [Addr.add_lit,yG];exact hcs j v hj)
 have hrun:∀ ty,(Builtin.append_ #[26,26] ty #[.slice (some ⟨b,0,none⟩) n c,.slice (some ⟨vb,0,none⟩) 1 vc]).run Tryz.prog w=.ok (.slice (some ⟨w.heap.size,0,none⟩) (n+1) (grownCap w (n+1) c 134)) (w.drew.alloc (.cells ((cs++vs).toArray++Builtin.zeroCells (Value.cells (.agg #[.slice none 0 0])) (grownCap w (n+1) c 134-(n+1))) 134)):=fun ty =>
  run_append_grow_src w 26 26 ty 134 i0 _ Tryz.underlying26 hi0 hz0 (some ⟨b,0,none⟩) n c cs hold _ 1 vs hsrc hroom (by omega) hfit
 go_enter Tryz.func256,Tryz.ntmps256
 go_wp2_with (at_builtin;refine Lib.wpList_append_run _ rfl _ _ _ _ rfl _ _ rfl rfl _ _ (hrun _) ?_)
 all_goals (go_ret;first | exact ⟨rfl,rfl⟩ | exact ⟨rfl,by simp [Value.cells]⟩)
set_option maxHeartbeats 4000000 in
theorem Ad9 (b n c i vb vc:Nat) (cs vs:List Value) (w:World) (hs0:(Tryz.prog.info? 134).map (·.size)=some 1) (hi:i<n) (hroom:n+1≤c) (hc63:c≤9223372036854775807) (hvb:vb≠b)
  (hcl:cs.length=n*1) (hvl:vs.length=1)
  (hcs:∀ j v,cs[j]? = some v→w.cell? ⟨b,j,none⟩=some v) (hsp:∀ j,j<(n+1)*1→(w.cell? ⟨b,j,none⟩).isSome=true) (hfz:∀ j,j<(n+1)*1→w.frozen? ⟨b,j,none⟩=false)
  (hvs:∀ j v,vs[j]? = some v→w.cell? ⟨vb,j,none⟩=some v) (h1c:∀ v ∈ cs,v.oneCell'=true) (h1v:∀ v ∈ vs,v.oneCell'=true)
  (tA tB:TypeId) (kA kB:Nat) (hsa:w.shape? vb=some (tA,kA)) (hsb:w.shape? b=some (tB,kB)) (hkB:kB≠0) (hfa:w.frozen? ⟨vb,0,none⟩=false) (hfe:w.frozen? ⟨vb,kA,none⟩=false) :
  Calls Tryz.prog 256 #[.slice (some ⟨b,0,none⟩) n c,.int .i64 i,.slice (some ⟨vb,0,none⟩) 1 vc] w fun e w' =>
   e=.returned (.slice (some ⟨b,0,none⟩) (n+1) c)∧w'=(w.drew.setCells b (i+1) (cs.drop (i))).setCells b (i) vs:=by
 have hz2:¬ ((i:Int)=(n:Int)):=by omega
 have hz3:¬ ((c:Int)<(n:Int)+1):=by omega
 have mixed:Tryz.prog.follows .mixedOrders=true:=by kernel_rfl
 have hov:∀ lb cb,(callFunc 273 #[.slice (some ⟨vb,0,none⟩) 1 vc,.slice (some ⟨b,i+1,none⟩) lb cb]).run Tryz.prog w=.ok (.value (.bool false)) w:=fun lb cb=>by
  rw [run_callFunc_extern Tryz.func273 (by kernel_rfl) (by kernel_rfl) (by kernel_rfl) (e:=Extern.SlicesOverlaps.overlaps #[26,26] #[4]) (by kernel_rfl),
   Lib.run_overlaps_apart w 26 4 134 Tryz.underlying26 1 (fun w=>Df hs0 w) ⟨vb,0,none⟩ ⟨b,i+1,none⟩ 1 vc lb cb hvb tA tB kA kB hsa hsb hkB hfa hfe]
  rfl
 have hdl:(cs.drop (i)).length=(n-i)*1:=by rw [yB,hcl];omega
 have hw1:IntKind.i64.wrap ((i:Int)+1)=(i:Int)+1:=by rw [IntKind.wrap_i64];omega
 have hb1:(0:Int)≤(i:Int)+1:=by omega
 have hin:i≤n:=by omega
 have htn:((i:Int)+1).toNat=i+1:=by omega
 have hb2:¬ (c=i+1):=by omega
 have hb3:(i:Int)≤(n:Int)+1:=by omega
 have hb4:¬ (c=i):=by omega
 have hcp1:∀ ty dc sc,(Builtin.copy_ #[26,26] ty #[.slice (some ⟨b,i+1,none⟩) (n-i) dc,.slice (some ⟨b,i,none⟩) (n+1-i) sc]).run Tryz.prog w.drew=.ok (goInt (n-i:Nat)) (w.drew.setCells b (i+1) (cs.drop (i))):=fun ty dc sc =>
  Ig w.drew _ _ ty 134 b (i+1) (n-i) dc ⟨b,i,none⟩ (n+1-i) sc 1 (n-i) (cs.drop (i)) Tryz.underlying26 hs0 (by simp only [kF];split <;> omega) hdl
   (fun j v hj=>by rw [Addr.add_lit];exact hcs (i+j) v (by rwa [yF] at hj))
   (fun j hj=>hsp _ (by rw [hdl] at hj;omega)) (fun j hj=>hfz _ (by rw [hdl] at hj;omega)) (fun v hv=>h1c v (w4 hv))
 obtain ⟨W1,hW1⟩:∃ W1,W1=w.drew.setCells b (i+1) (cs.drop (i)):=⟨_,rfl⟩
 have hsp1:∀ k,k<(n+1)*1→(W1.cell? ⟨b,k,none⟩).isSome=true:=fun k hk=>by
  rw [hW1]
  exact isSome_setCells b (cs.drop (i)) (i+1) w.drew (fun j hj=>hsp _ (by rw [hdl] at hj;omega)) _ (hsp k hk)
 have hcp2:∀ (W:World),(∀ x,W.cell? x=W1.cell? x)→(∀ x,W.frozen? x=W1.frozen? x)→∀ ty dc,(Builtin.copy_ #[26,26] ty #[.slice (some ⟨b,i,none⟩) (n+1-i) dc,.slice (some ⟨vb,0,none⟩) 1 vc]).run Tryz.prog W=.ok (goInt (1:Nat)) (W.setCells b (i) vs):=fun W hWc hWf ty dc =>
  Ig W _ _ ty 134 b (i) (n+1-i) dc ⟨vb,0,none⟩ 1 vc 1 1 vs Tryz.underlying26 hs0 (by simp only [kF];split <;> omega) (by omega)
   (fun j v hj=>by
    rw [Addr.add_lit,hWc,hW1,yG,World.cell?_setCells_out b _ _ _ _ (fun h _=>absurd h hvb)]
    exact hvs j v hj)
   (fun j hj=>by rw [hWc];exact hsp1 _ (by omega)) (fun j hj=>by rw [hWf,hW1,World.frozen?_setCells];exact hfz _ (by omega)) h1v
 rw [← hW1] at hcp1
 go_enter Tryz.func256,Tryz.ntmps256
 go_wp2_with (simp only [hov])
 go_region_law_o (refine step_copy_runI rfl _ _ 26 26 rfl _ _ (by simp [Act.eval,Act.put]) (by simp [Act.eval,Act.put]) (hcp1 _ _ _) ?_)
 go_wp2_with (at_builtin;refine wpList_copy_runI _ rfl _ _ 26 26 rfl _ _ rfl rfl (hcp2 _ (fun _=>rfl) (fun _=>rfl) _ _) ?_)
 go_ret
 first | exact ⟨rfl,rfl⟩ | exact ⟨rfl,by rw [hW1]⟩
set_option maxHeartbeats 4000000 in
theorem Ahl (b n c i vb vc:Nat) (cs vs:List Value) (w:World) (i0:TypeInfo) (hi0:Tryz.prog.info? 134=some i0) (hz0:i0.zero=some (.agg #[.slice none 0 0])) (hs0:i0.size=1) (hi:i<n) (hnc:n≤c) (hroom:c<n+1) (hn63:n+1≤4611686018427387904)
  (hb48:(n+1)*i0.bytes≤281474976710656) (hfit:Builtin.nextslicecap (n+1) c*i0.bytes≤281474976710656) (hcl:cs.length=n*1) (hvl:vs.length=1)
  (hcs:∀ j v,cs[j]? = some v→w.cell? ⟨b,j,none⟩=some v) (hvs:∀ j v,vs[j]? = some v→w.cell? ⟨vb,j,none⟩=some v) (h1c:∀ v ∈ cs,v.oneCell'=true) (h1v:∀ v ∈ vs,v.oneCell'=true) :
  Calls Tryz.prog 256 #[.slice (some ⟨b,0,none⟩) n c,.int .i64 i,.slice (some ⟨vb,0,none⟩) 1 vc] w fun e w' =>
   e=.returned (.slice (some ⟨w.heap.size,0,none⟩) (n+1) (grownCap w (n+1) c 134)) ∧
   w'=(((w.alloc (.cells ((cs.take (i)).toArray++Builtin.zeroCells (Value.cells (.agg #[.slice none 0 0])) (n+1-i)++Builtin.zeroCells (Value.cells (.agg #[.slice none 0 0])) (grownCap w (n+1) c 134-(n+1))) 134)).drew.setCells w.heap.size (i) vs).drew).setCells w.heap.size (i+1) (cs.drop (i)):=by
 have mixed:Tryz.prog.follows .mixedOrders=true:=by kernel_rfl
 have hz2:¬ ((i:Int)=(n:Int)):=by omega
 have hz3:(c:Int)<(n:Int)+1:=by omega
 have hsz:(Tryz.prog.info? 134).map (·.size)=some 1:=by rw [hi0];simp [hs0]
 have hbw:b<w.heap.size:=block_lt_of_cell (hcs 0 _ (zB (by omega)))
 have hvw:vb<w.heap.size:=block_lt_of_cell (hvs 0 _ (zB (by omega)))
 have hkk:(n:Int)+1-(i:Int)=((n+1-i:Nat):Int):=by omega
 have hik:i+(n+1-i)=n+1:=by omega
 have htl:(cs.take (i)).length=i*1:=by rw [zL];omega
 have hold:(Builtin.firstCells i0.size i (.slice (some ⟨b,0,none⟩) i c)).run Tryz.prog w.drew=.ok (cs.take (i)).toArray w.drew:=by
  rw [hs0]
  exact run_firstCells_some w.drew 1 i ⟨b,0,none⟩ i c (cs.take (i)) htl (fun j v hj=>by
   rw [Addr.add_lit,yG]
   rw [yL] at hj
   split at hj
   ·exact hcs j v hj
   ·cases hj)
 have hrz:∀ ty,(Builtin.append_ #[26,3] ty #[.slice (some ⟨b,0,none⟩) i c,.int .i64 ((n:Int)+1-(i:Int))]).run Tryz.prog w =
   .ok (.slice (some ⟨w.heap.size,0,none⟩) (n+1) (grownCap w (n+1) c 134)) (w.drew.alloc (.cells ((cs.take (i)).toArray++Builtin.zeroCells (Value.cells (.agg #[.slice none 0 0])) (n+1-i)++Builtin.zeroCells (Value.cells (.agg #[.slice none 0 0])) (grownCap w (n+1) c 134-(n+1))) 134)):=fun ty=>by
  have h:=Lib.run_append_grow_zeros w 26 3 ty 134 i0 _ .i64 .i64 Tryz.underlying26 Tryz.underlying3 hi0 hz0 (some ⟨b,0,none⟩) i c (cs.take (i)) hold (n+1-i) (by omega) (by omega) (by omega) (by omega) (yO (xA _ (by omega)) hb48) (by rw [hik];exact hfit)
  rw [hik] at h
  rw [hkk]
  exact h
 obtain ⟨G,hG⟩:∃ G,G=grownCap w (n+1) c 134:=⟨_,rfl⟩
 obtain ⟨ROW,hROW⟩:∃ ROW:Array Value,ROW=(cs.take (i)).toArray++Builtin.zeroCells (Value.cells (.agg #[.slice none 0 0])) (n+1-i)++Builtin.zeroCells (Value.cells (.agg #[.slice none 0 0])) (G-(n+1)):=⟨_,rfl⟩
 rw [← hG] at hrz ⊢
 rw [← hROW] at hrz ⊢
 have hzc:∀ k,(Builtin.zeroCells (Value.cells (.agg #[.slice none 0 0])) k).size=k*1:=fun k=>by simp [Builtin.zeroCells,Value.cells]
 have hRl:(n+1)*1≤ROW.size:=by
  rw [hROW,yS,yS,hzc,hzc,z7,htl]
  omega
 obtain ⟨W1,hW1⟩:∃ W1,W1=w.drew.alloc (.cells ROW 134):=⟨_,rfl⟩
 rw [← hW1] at hrz
 have hN:∀ j,j<(n+1)*1→(W1.cell? ⟨w.heap.size,j,none⟩).isSome=true:=fun j hj=>by
  rw [hW1,World.cell?_alloc_at (w:=w.drew) ROW _ w.heap.size j rfl,zU (by omega)];rfl
 have hNf:∀ j,W1.frozen? ⟨w.heap.size,j,none⟩=false:=fun j=>by rw [hW1];exact World.frozen?_alloc_at (w:=w.drew) ROW _ w.heap.size j rfl
 have hOb:∀ j v,w.cell? ⟨b,j,none⟩=some v→W1.cell? ⟨b,j,none⟩=some v:=fun j v h=>by rw [hW1,World.cell?_alloc_past (w:=w.drew) _ b j hbw];exact h
 have hOv:∀ j v,w.cell? ⟨vb,j,none⟩=some v→W1.cell? ⟨vb,j,none⟩=some v:=fun j v h=>by rw [hW1,World.cell?_alloc_past (w:=w.drew) _ vb j hvw];exact h
 have hcpA:∀ (W:World),(∀ x,W.cell? x=W1.cell? x)→(∀ x,W.frozen? x=W1.frozen? x)→∀ ty dc,(Builtin.copy_ #[26,26] ty #[.slice (some ⟨w.heap.size,i,none⟩) (n+1-i) dc,.slice (some ⟨vb,0,none⟩) 1 vc]).run Tryz.prog W=.ok (goInt (1:Nat)) (W.setCells w.heap.size (i) vs):=fun W hWc hWf ty dc =>
  Ig W _ _ ty 134 w.heap.size (i) (n+1-i) dc ⟨vb,0,none⟩ 1 vc 1 1 vs Tryz.underlying26 hsz (by simp only [kF];split <;> omega) (by omega)
   (fun j v hj=>by rw [Addr.add_lit,hWc,yG];exact hOv _ v (hvs j v hj))
   (fun j hj=>by rw [hWc];exact hN _ (by omega)) (fun j hj=>by rw [hWf];exact hNf _) h1v
 have hGn:n+1≤G:=by rw [hG];exact grownCap_ge w _ _ _
 have hG63:G≤9223372036854775807:=by
  have:=grownCap_le_maxLen w (n+1) c 134 (by unfold maxLen;omega)
  rw [← hG] at this
  unfold maxLen at this
  omega
 have hGi:¬ (G=i):=by omega
 have hGim:¬ (G=i+1):=by omega
 have hci:¬ (c=i):=by omega
 have hbN:b≠w.heap.size:=by omega
 have hdl:(cs.drop (i)).length=(n-i)*1:=by rw [yB,hcl];omega
 have hcpB:∀ (W:World),(∀ x,W.cell? x=(W1.setCells w.heap.size (i) vs).cell? x)→(∀ x,W.frozen? x=(W1.setCells w.heap.size (i) vs).frozen? x)→∀ ty dc sc,(Builtin.copy_ #[26,26] ty #[.slice (some ⟨w.heap.size,i+1,none⟩) (n-i) dc,.slice (some ⟨b,i,none⟩) (n-i) sc]).run Tryz.prog W=.ok (goInt (n-i:Nat)) (W.setCells w.heap.size (i+1) (cs.drop (i))):=fun W hWc hWf ty dc sc =>
  Ig W _ _ ty 134 w.heap.size (i+1) (n-i) dc ⟨b,i,none⟩ (n-i) sc 1 (n-i) (cs.drop (i)) Tryz.underlying26 hsz (by simp only [kF];split <;> omega) hdl
   (fun j v hj=>by
    rw [Addr.add_lit,hWc,World.cell?_setCells_out _ _ _ _ _ (fun h _=>absurd h hbN)]
    exact hOb _ v (hcs (i+j) v (by rwa [yF] at hj)))
   (fun j hj=>by rw [hWc];exact isSome_setCells w.heap.size vs (i) W1 (fun t ht=>hN _ (by omega)) _ (hN _ (by rw [hdl] at hj;omega)))
   (fun j hj=>by rw [hWf,World.frozen?_setCells];exact hNf _) (fun v hv=>h1c v (w4 hv))
 subst hW1
 have hE1:∀ x,((w.alloc (.cells ROW 134)).drew).cell? x=(w.drew.alloc (.cells ROW 134)).cell? x:=fun x=>rfl
 have hE2:∀ x,((w.alloc (.cells ROW 134)).drew).frozen? x=(w.drew.alloc (.cells ROW 134)).frozen? x:=fun x=>rfl
 have hF1:∀ x,(((w.alloc (.cells ROW 134)).drew.setCells w.heap.size (i) vs).drew).cell? x=((w.drew.alloc (.cells ROW 134)).setCells w.heap.size (i) vs).cell? x:=fun x=>rfl
 have hF2:∀ x,(((w.alloc (.cells ROW 134)).drew.setCells w.heap.size (i) vs).drew).frozen? x=((w.drew.alloc (.cells ROW 134)).setCells w.heap.size (i) vs).frozen? x:=fun x=>rfl
 have hw1:IntKind.i64.wrap ((i:Int)+1)=(i:Int)+1:=by rw [IntKind.wrap_i64];omega
 have hb1:(0:Int)≤(i:Int)+1:=by omega
 have hin:i≤n:=by omega
 have htn:((i:Int)+1).toNat=i+1:=by omega
 have hb3:(i:Int)≤(n:Int):=by omega
 clear hkk hik hold hROW hG hRl htl hzc
 go_enter Tryz.func256,Tryz.ntmps256
 go_wp2_with (first
  | (at_builtin;refine Lib.wpList_append_run _ rfl _ _ _ _ rfl _ _ rfl rfl _ _ (hrz _) ?_)
  | (at_builtin;refine wpList_copy_runI _ rfl _ _ 26 26 rfl _ _ rfl rfl (hcpA _ hE1 hE2 _ _) ?_)
  | (at_builtin;refine wpList_copy_runI _ rfl _ _ 26 26 rfl _ _ rfl rfl (hcpB _ (fun _=>rfl) (fun _=>rfl) _ _ _) ?_))
 go_region_law_o (refine step_copy_runI rfl _ _ 26 26 rfl (.slice (some ⟨w.heap.size,i+1,none⟩) (n-i) (G-(i+1))) (.slice (some ⟨b,i,none⟩) (n-i) (c-i)) (by simp [Act.eval,Act.put]) (by simp [Act.eval,Act.put]) (hcpB _ hF1 hF2 3 (G-(i+1)) (c-i)) ?_)
 go_wp2
 go_ret
 exact ⟨R,R⟩
set_option maxHeartbeats 4000000 in
theorem Ajt (vb vc:Nat) (vs:List Value) (w:World) (i0:TypeInfo) (hi0:Tryz.prog.info? 134=some i0) (hz0:i0.zero=some (.agg #[.slice none 0 0])) (hs0:i0.size=1)
  (hfit:Builtin.nextslicecap (0+1) 0*i0.bytes≤281474976710656) (hvl:vs.length=1)
  (hvs:∀ j v,vs[j]? = some v→w.cell? ⟨vb,j,none⟩=some v) (h1v:∀ v ∈ vs,v.oneCell'=true) :
  Calls Tryz.prog 256 #[.slice none 0 0,.int .i64 ((0:Nat):Int),.slice (some ⟨vb,0,none⟩) 1 vc] w fun e w' =>
   e=.returned (.slice (some ⟨w.heap.size,0,none⟩) (0+1) (grownCap w (0+1) 0 134)) ∧
   w'=w.drew.alloc (.cells (([]++vs).toArray++Builtin.zeroCells (Value.cells (.agg #[.slice none 0 0])) (grownCap w (0+1) 0 134-(0+1))) 134):=by
 have hsrc:_root_.Go.Src Tryz.prog i0.size 26 (.slice (some ⟨vb,0,none⟩) 1 vc) 1 vs w:=by
  rw [hs0]
  exact _root_.Go.Src.ofSlice w Tryz.underlying26 ⟨vb,0,none⟩ 1 vc vs (by omega) (fun j u hj=>by rw [Addr.add_lit,yG];exact hvs j u hj) h1v
 have hold:(Builtin.firstCells i0.size 0 (.slice none 0 0)).run Tryz.prog w.drew=.ok ([]:List Value).toArray w.drew:=by
  rw [hs0]
  exact run_firstCells_none w.drew 1 0 0 0
 have hrun:∀ ty,(Builtin.append_ #[26,26] ty #[.slice none 0 0,.slice (some ⟨vb,0,none⟩) 1 vc]).run Tryz.prog w=.ok (.slice (some ⟨w.heap.size,0,none⟩) (0+1) (grownCap w (0+1) 0 134)) (w.drew.alloc (.cells (([]++vs).toArray++Builtin.zeroCells (Value.cells (.agg #[.slice none 0 0])) (grownCap w (0+1) 0 134-(0+1))) 134)):=fun ty =>
  run_append_grow_src w 26 26 ty 134 i0 _ Tryz.underlying26 hi0 hz0 none 0 0 [] hold _ 1 vs hsrc (by omega) (by omega) hfit
 go_enter Tryz.func256,Tryz.ntmps256
 go_wp2_with (at_builtin;refine Lib.wpList_append_run _ rfl _ _ _ _ rfl _ _ rfl rfl _ _ (hrun _) ?_)
 all_goals (go_ret;first | exact ⟨rfl,rfl⟩ | exact ⟨rfl,by simp [Value.cells]⟩)
theorem Ag5:(Tryz.prog.info? 134).map (fun i=>(i.zero,i.size,i.bytes))=some (some (.agg #[.slice none 0 0]),1,24):=by kernel_rfl
theorem Aos {cs vs:List Lf} {n i:Nat} (hcl:cs.length=n*1) (hvl:vs.length=1) (hi:i≤n) (hn:(n+1)*24≤140737488355328) :
  Dn Tryz.prog 256 [.arr 134 1 0 cs,.arr 134 1 0 vs] [.one (.ls 0 n),.one (Ii6 (i:Int)),.one (.ls 1 1)] (fun y m'=>y=.s (.one (.ls 0 (n+1)))∧m'=[.arr 134 1 0 (cs.take (i*1)++vs++cs.drop (i*1)),.dead]):=by
 refine Xd (by decide) hcl hvl (fun w v1 vb vc cur2 xs ys hown hg2 hcell hyl hne hx1 hy1=>?_)
 obtain ⟨i0,hi0,hz0,hs0,hb0⟩:=info_parts Ag5
 have hxl:=hown.1
 have hfitG:∀ {old},old<n+1→Builtin.nextslicecap (n+1) old*i0.bytes≤281474976710656:=fun h=>growslice_fits h (by rw [hb0];exact hn)
 have hsz':(Tryz.prog.info? 134).map (·.size)=some 1:=by rw [hi0];simp [hs0]
 have hzc:∀ k,(Builtin.zeroCells (Value.cells (.agg #[.slice none 0 0])) k).size=k*1:=fun k=>by simp [Builtin.zeroCells,Value.cells]
 have hg63:∀ c,grownCap w (n+1) c 134≤maxLen:=fun c=>grownCap_le_maxLen w (n+1) c 134 (by unfold maxLen;omega)
 have hgge:∀ c,n+1≤grownCap w (n+1) c 134:=fun c=>grownCap_ge w _ _ _
 rcases hown.2 with ⟨rfl,h0⟩ | ⟨g,cap,cur,rfl,_,hg,hnc,hcm,hcs,hct⟩
 ·subst h0
  have hi0':i=0:=by omega
  subst hi0'
  have hx0:xs=[]:=jR.1 (hxl.trans (wS _))
  subst hx0
  refine (Ajt vb vc ys w i0 hi0 hz0 hs0 (hfitG (by omega)) hyl hcell hy1).mono ?_
  rintro e w' ⟨rfl,rfl⟩
  refine ⟨_,w.heap.size,R,O1 (hgge 0) (hg63 0) ?_ ?_,.inr (zN _)⟩
  ·have:=hgge 0
   rw [yS,hzc,z7,wW,hyl];omega
  ·rw [xK,yW,xY (by rw [wW,hyl])]
   simp
 ·have hcur:cur.toList.length=cap*1:=by rw [yA];exact hcs
  have hcell1:∀ j v,xs[j]? = some v→w.cell? ⟨g,j,none⟩=some v:=fun j v hj=>by
   unfold World.cell?
   rw [hg]
   rw [← hct,yL] at hj
   split at hj
   ·simpa using hj
   ·cases hj
  have hc63:cap≤9223372036854775807:=by unfold maxLen at hcm;exact hcm
  have hsome:∀ j,j<cap*1→(w.cell? ⟨g,j,none⟩).isSome=true:=fun j hj=>by
   unfold World.cell?
   rw [hg]
   show (cur[j]?).isSome=true
   rw [zU (by omega)];rfl
  have hfrz:∀ j,w.frozen? ⟨g,j,none⟩=false:=fun j=>by
   unfold World.frozen?
   rw [hg]
   show (decide (0≤j) && decide (j<0))=false
   rw [decide_eq_false (zS j),jB]
  have hfrz2:∀ j,w.frozen? ⟨vb,j,none⟩=false:=fun j=>by
   unfold World.frozen?
   rw [hg2]
   show (decide (0≤j) && decide (j<0))=false
   rw [decide_eq_false (zS j),jB]
  have hvb:vb≠g:=fun e=>hne (by rw [e];rfl)
  rcases Nat.lt_or_eq_of_le hi with hlt | rfl
  ·rcases zP cap (n+1) with hroom | hroom
   ·refine (Ahl g n cap i vb vc xs ys w i0 hi0 hz0 hs0 hlt hnc hroom (by omega) (by rw [hb0];omega) (hfitG hroom) hxl hyl hcell1 hcell hx1 hy1).mono ?_
    rintro e w' ⟨rfl,rfl⟩
    have hge:=hgge cap
    have htl:(xs.take (i*1)).length=i*1:=by rw [zL];omega
    have:=Tu (E:=134) (sz:=1) (w:=w) (row:=(xs.take (i*1)).toArray++Builtin.zeroCells (Value.cells (.agg #[.slice none 0 0])) (n+1-i)++Builtin.zeroCells (Value.cells (.agg #[.slice none 0 0])) (grownCap w (n+1) cap 134-(n+1))) (xs:=xs.take (i*1)) (vs:=ys) (D:=xs.drop (i*1)) hlt hge (hg63 cap)
     (by rw [yS,yS,hzc,hzc,z7,htl];omega) hyl (by rw [yB,hxl];omega)
     (by rw [xK,xK,yW,xQ,xY htl])
    refine ⟨_,w.heap.size,R,?_,.inr (zN _)⟩
    first | exact this | simpa only [kC] using this
   ·refine (Ad9 g n cap i vb vc xs ys w hsz' hlt hroom hc63 hvb hxl hyl hcell1 (fun j hj=>hsome j (by omega)) (fun j _=>hfrz j) hcell hx1 hy1 134 134 cur2.size cur.size (by unfold World.shape?;rw [hg2]) (by unfold World.shape?;rw [hg]) (by omega) (hfrz2 _) (hfrz2 _)).mono ?_
    rintro e w' ⟨rfl,rfl⟩
    have:=Sm (E:=134) (sz:=1) (b:=g) (vs:=ys) hg hlt hroom hcm hcs hyl
    rw [hct] at this
    refine ⟨_,g,R,?_,.inl R⟩
    first | exact this | simpa only [kC] using this
  ·have hxe:xs.take (i*1)++ys++xs.drop (i*1)=xs++ys:=by
    rw [yZ (by omega),wU (by omega),xF]
   rw [hxe]
   rcases zP cap (i+1) with hroom | hroom
   ·refine (Aez g i cap vb vc xs ys w i0 hi0 hz0 hs0 hnc hroom (by omega) (hfitG hroom) hxl hyl hcell1 hcell hy1).mono ?_
    rintro e w' ⟨rfl,rfl⟩
    have hge:=hgge cap
    refine ⟨_,w.heap.size,R,O1 hge (hg63 cap) ?_ ?_,.inr (zN _)⟩
    ·rw [yS,hzc,z7,zG,hxl,hyl];omega
    ·rw [xK,yW,xY (by rw [zG,hxl,hyl];omega)]
   ·refine (Akf g i cap vb vc ys w i0 hi0 hs0 hroom hc63 hyl (fun j hj=>hsome _ (by omega)) (fun j _=>hfrz _) hcell hy1).mono ?_
    rintro e w' ⟨rfl,rfl⟩
    have:=V3 (E:=134) (sz:=1) (n:=i) (b:=g) (vs:=ys) hg hroom hcm hcs hyl
    rw [hct] at this
    exact ⟨_,g,R,this,.inl R⟩
end
def Q4 (a0:List Al) (a1:Int) (a2:List Al):Option (List Al):=An5 24 a0 a1 a2
theorem Un {a0:List Al} {a1:Int} {a2 r:List Al} (h:Q4 a0 a1 a2=some r):Dn Tryz.prog 256 [.arr 134 1 0 (a0.flatMap As),.arr 134 1 0 (a2.flatMap As)] [.one (.ls 0 a0.length),.one (Ii6 a1),.one (.ls 1 a2.length)] (fun y m'=>y=.s (.one (.ls 0 r.length))∧m'=[.arr 134 1 0 (r.flatMap As),.dead]) :=
 Alu (f:=As) (fun _=>rfl) Aos h
def Jz (a0:Int) (b1:Unit):Option (List Ax) :=
 if (decide (0<(wI (a0-(wI (0-0)))))) then (if 0<(wI (a0-(wI (0-0))))∧(wI (a0-(wI (0-0))))*((40:Nat):Int)≤281474976710656 then (if (0:Int)≤0∧0≤((List.replicate (wI (a0-(wI (0-0)))).toNat (Ax.mk 0 ([]:List UInt8) false)).length:Int) then (some ((List.replicate (wI (a0-(wI (0-0)))).toNat (Ax.mk 0 ([]:List UInt8) false)).take (0:Int).toNat)) else none) else none) else (some ([]:List Ax))
def J7 (a0:Int):Option (List Ax) :=
 if (decide (a0<0)) then none else (Jz a0 ())
theorem Vd {a0:Int} {r:(List Ax)} (h:J7 a0=some r):Dn Tryz.prog 281 [] [.one (Znl),.one (Ii6 a0)] (fun y m'=>y=.s (.one (.ls 0 r.length))∧m'=[.arr 136 3 0 (r.flatMap A7)]):=by
 unfold J7 at h
 refine Dk Tryz.func281 R (nt:=27) R (Nbl R) ?_
 intro w0 S0 X0 H0
 refine csr (rm 1 R (Ak (Bn (csr (rm 1 R (sv R (Bt R R) (Ak (cj (Unit) (fun b1=>[(0,.s (.one (Znl))),(1,.s (.one (Ii6 a0)))]) (fun b1=>[]) (fun b1=>Jz a0 b1=some r) (fun _=>R) (fun b1 h=>?_) ?_))))))))
 ·unfold Jz at h
  refine Bn (csr (rm 2 R (sv R (Gs Wu R) (rm 1 R (sv R (Fu Wu R) (sv R (Nt R R) (sv R (Nt R R) (rm 1 R (Ak (csr (rm 1 R (sv R (C9 R R) (Ak (ccI h R (fun h=>?_) (fun h=>?_)))))))))))))))
  ·refine Ap (rm 2 R (sv R (Gs Wu R) (sv R (M0 Wu R R) (sv R (A4 R) ?_))))
   obtain ⟨hm2,h⟩:=Cr h
   refine Ai1 (f:=A7) (z:=(Ax.mk 0 ([]:List UInt8) false)) R Tryz.underlying132 Anp Tryz.underlying3 (fun _=>R) R R R hm2 (by decide) ?_
   refine rm 1 R (sv R (Fu Wu R) ?_)
   obtain ⟨hs3,h⟩:=Cr h
   refine Aa4 (f:=A7) R Wu (fun _=>R) R R R R R hs3 ?_
   refine rm 1 R (Ak (csr (rm 2 R (Ak (Bs ?_)))))
   obtain rfl:=SJ h
   exact ⟨Or.inr R,_,[1],[.one (.ls 0 ((List.replicate (wI (a0-(wI (0-0)))).toNat (Ax.mk 0 ([]:List UInt8) false)).take (0:Int).toNat).length)],[.arr 136 3 0 (((List.replicate (wI (a0-(wI (0-0)))).toNat (Ax.mk 0 ([]:List UInt8) false)).take (0:Int).toNat).flatMap A7)],(Ad (rt R) Aj),R,R,⟨by decide,R⟩,R,R,⟨R,R⟩⟩
  ·refine Bf (Ab (csr (rm 2 R (Ak ?_))))
   refine Dh 136 3 4 (by decide) R ?_
   refine Bs ?_
   obtain rfl:=SJ h
   exact ⟨Or.inr R,_,[0],[.one (.ls 0 ([]:List Ax).length)],[.arr 136 3 0 (([]:List Ax).flatMap A7)],(Ad (rt R) Aj),R,R,⟨by decide,R⟩,R,R,⟨R,R⟩⟩
 ·skip
  refine ccI h R (fun h=>?_) (fun h=>?_)
  ·cases h
  ·refine Bf (Ab ?_)
   exact ⟨(),_,h,⟨R,R,trivial⟩,R⟩
def Ln (b3:(List Ax)):Option (List Ax) :=
 some b3
def D9 (a0:List (List Ax)) (s4:Int × (List Ax)):Option (LB (Int × (List Ax)) ((List Ax))) :=
 if (decide (s4.1<(a0.length:Int))) then ((idx a0 s4.1).bind fun u5=>if (s4.2.length+u5.length)*40≤140737488355328 then (some (.cont ((wI (s4.1+1)),(s4.2++u5)))) else none) else (some (.brk s4.2))
def Hv (a0:List (List Ax)) (b1:Int):Option (List Ax) :=
 (J7 b1).bind fun v2=>(Cw (D9 a0) fuel (0,v2)).bind fun e7=>Ln e7
def Ee (a0:List (List Ax)) (s8:Int × Int):Option (LB (Int × Int) (Int)) :=
 if (decide (s8.2<(a0.length:Int))) then ((idx a0 s8.2).bind fun u9=>if (decide ((wI (s8.1+(u9.length:Int)))<0)) then none else (some (.cont ((wI (s8.1+(u9.length:Int))),(wI (s8.2+1)))))) else (some (.brk s8.1))
def Ht (a0:List (List Ax)):Option (List Ax) :=
 (Cw (Ee a0) fuel (0,0)).bind fun e10=>Hv a0 e10
theorem Te {a0:List (List Ax)} {r:(List Ax)} (h:Ht a0=some r):Dn Tryz.prog 275 [] [.one (.sl a0.length (a0.flatMap (eL A7)))] (fun y m'=>y=.s (.one (.ls 0 r.length))∧m'=[.arr 136 3 0 (r.flatMap A7)]):=by
 unfold Ht at h
 refine Dk Tryz.func275 R (nt:=36) R (Nbl R) ?_
 intro w0 S0 X0 H0
 refine csr (rm 1 R (Ak (csr (rm 1 R (Ak (Bn (csr (rm 1 R (sv R (Au Aob R) (rm 1 R (Ak (cj (Int) (fun b1=>[(0,.s (.one (.sl a0.length (a0.flatMap (eL A7))))),(3,.s (.one (Ii6 b1)))]) (fun b1=>[]) (fun b1=>Hv a0 b1=some r) (fun _=>R) (fun b1 h=>?_) ?_))))))))))))
 ·unfold Hv at h
  refine csr (sv R (A4 R) ?_)
  obtain ⟨v2,hv2,h⟩:=Ae h
  refine H7 (x':=.s (.one (.ls 0 v2.length))) (M':=[.arr 136 3 0 (v2.flatMap A7)]) [] R Ayi (.func _) (Aa R (Aa R Af)) (Vd hv2) R R (by decide) R R R ?_
  refine rm 1 R (Ak (Bn (csr (rm 1 R (sv R (Au Aob R) (rm 1 R (Ak (cj ((List Ax)) (fun b3=>[(6,.s (.one (.ls 0 b3.length)))]) (fun b3=>[.arr 136 3 0 (b3.flatMap A7)]) (fun b3=>Ln b3=some r) (fun _=>R) (fun b3 h=>?_) ?_))))))))
  ·unfold Ln at h
   refine csr (rm 2 R (Ak (Bs ?_)))
   obtain rfl:=SJ h
   exact ⟨Or.inr R,_,[0],[.one (.ls 0 b3.length)],[.arr 136 3 0 (b3.flatMap A7)],(Ad (rt R) Aj),R,R,⟨by decide,R⟩,R,R,⟨R,R⟩⟩
  ·skip
   refine Bq ?_
   obtain ⟨x4,hx4,ho4⟩:=Ae h
   refine lpo (G:=Nat × (Int × (List Ax))) (fun g=>[(6,.s (.one (.ls 0 g.2.2.length))),(25,.s (.one (.sl a0.length (a0.flatMap (eL A7))))),(26,.s (.one (Ii6 (a0.length:Int)))),(27,.s (.one (Ii6 g.2.1)))]) (fun g=>[.arr 136 3 0 (g.2.2.flatMap A7)]) (fun g=>Cw (D9 a0) g.1 g.2=some x4) (fun g=>g.1) (fuel,(0,v2)) hx4 ⟨R,R,R,R,trivial⟩ [] R (fun _=>R) ?_
   clear hx4 h
   rintro ⟨n4,s4⟩ h
   obtain ⟨n4,y4,rfl,h,hk4⟩:=Cy h
   unfold D9 at h
   refine csr (sv R (Bt R R) (Ak (Bn (ccI h R (fun h=>?_) (fun h=>?_)))))
   ·refine Bf (Ab (Bn (Bq (Bn (Ap ?_)))))
    obtain ⟨u5,hu5,h⟩:=Ae h
    refine sv R (Cb (f:=(eL A7)) Aob (fun _=>R) R R R R hu5) ?_
    refine sv R (B6 Aaq R (.cp _) R) (rm 1 R (Ak (Ap (rm 1 R (sv R (A4 R) ?_)))))
    obtain ⟨hb6,h⟩:=Cr h
    refine Ub (f:=A7) (xs:=s4.2) (us:=u5) R Tryz.underlying132 Anp Auk (fun _=>R) R R (.one _ _ _ _ (.id _ R)) R R R (.sl _ _ _ (Aw (f:=A7) (fun _=>R) _)) R R hb6 (by decide) ?_
    refine rm 1 R (Ki (Ao (Ab (Ap (sv R (Bm R R) (rm 1 R (Ak ?_)))))))
    obtain rfl:=SJ h
    exact ⟨(n4,((wI (s4.1+1)),(s4.2++u5))),_,hk4,⟨R,R,R,R,trivial⟩,R,zH _⟩
   ·refine Dd (Ar (Ar (Bj (Ab ?_))))
    obtain rfl:=SJ h
    obtain rfl:_=x4:=hk4
    exact ⟨s4.2,_,ho4,⟨R,trivial⟩,R⟩
 ·skip
  refine Bq ?_
  obtain ⟨x8,hx8,ho8⟩:=Ae h
  refine lpo (G:=Nat × (Int × Int)) (fun g=>[(0,.s (.one (.sl a0.length (a0.flatMap (eL A7))))),(3,.s (.one (Ii6 g.2.1))),(9,.s (.one (.sl a0.length (a0.flatMap (eL A7))))),(10,.s (.one (Ii6 (a0.length:Int)))),(11,.s (.one (Ii6 g.2.2)))]) (fun g=>[]) (fun g=>Cw (Ee a0) g.1 g.2=some x8) (fun g=>g.1) (fuel,(0,0)) hx8 ⟨R,R,R,R,R,trivial⟩ [] R (fun _=>R) ?_
  clear hx8 h
  rintro ⟨n8,s8⟩ h
  obtain ⟨n8,y8,rfl,h,hk8⟩:=Cy h
  unfold Ee at h
  refine csr (sv R (Bt R R) (Ak (Bn (ccI h R (fun h=>?_) (fun h=>?_)))))
  ·refine Bf (Ab (Bn (Bq (Bn (Ap ?_)))))
   obtain ⟨u9,hu9,h⟩:=Ae h
   refine sv R (Cb (f:=(eL A7)) Aob (fun _=>R) R R R R hu9) ?_
   refine sv R (B6 Aaq R (.cp _) R) (rm 1 R (Ak (csr (rm 2 R (sv R (Au Wu R) (sv R (Bm R R) (rm 1 R (Ak (csr (rm 1 R (sv R (Bt R R) (Ak (ccI h R (fun h=>?_) (fun h=>?_))))))))))))))
   ·cases h
   ·refine Bf (Ao (Ab (Ap (sv R (Bm R R) (rm 1 R (Ak ?_))))))
    obtain rfl:=SJ h
    exact ⟨(n8,((wI (s8.1+(u9.length:Int))),(wI (s8.2+1)))),_,hk8,⟨R,R,R,R,R,trivial⟩,R,zH _⟩
  ·refine Dd (Ar (Ar (Bj (Ab ?_))))
   obtain rfl:=SJ h
   obtain rfl:_=x8:=hk8
   exact ⟨s8.1,_,ho8,⟨R,R,trivial⟩,R⟩
def Lw (a0:Al) (a1:Ax) (b1:Unit):Option (Al × Int) :=
 (J8 a0).bind fun v2=>if (decide (a1.Ts≤v2)) then (some ((Al.mk ([]:List Ax)),7)) else ((Ht [a0.L,[a1]]).bind fun v3=>some ((Al.mk v3),0))
def L8 (a0:Al) (a1:Ax):Option (Al × Int) :=
 (Ew (Al.mk a0.L)).bind fun v4=>if (!v4) then (some ((Al.mk ([]:List Ax)),1)) else ((Gm a1).bind fun v5=>if (!v5) then (some ((Al.mk ([]:List Ax)),1)) else (Lw a0 a1 ()))
theorem Xt {a0:Al} {a1:Ax} {r:Al × Int} (h:L8 a0 a1=some r):Br Tryz.prog 257 [.agg [.sl a0.L.length (a0.L.flatMap A7)],.agg (EL.el a1)] (·=.tup [.agg [.sl r.1.L.length (r.1.L.flatMap A7)],.one (Ii6 r.2)]):=by
 unfold L8 at h
 refine A2 Tryz.func257 R (nt:=28) R (Nbl R) ?_
 intro w0 S0
 refine csr (F2 R R (F2 R R (Bo R Yq (rm 1 R (Ak (Bn (Bn (cj3 (Unit) (fun b1=>[(2,.s (.one (.lp 0 0))),(3,.s (.one (.lp 1 0))),(4,.s (.one (.lp 2 0)))]) (fun b1=>[.box [.sl a0.L.length (a0.L.flatMap A7)],.box (EL.el a1),.box [Znl]]) (fun b1=>Lw a0 a1 b1=some r) (fun _=>R) (fun b1 h=>?_) ?_))))))))
 ·unfold Lw at h
  refine Bn (Bn ?_)
  refine Aav mixed (by kernel_rfl) ?_
  refine dv R (Ac Vy R) (dv R (l1 ti3 R R R) (dv R (lo O0 R R R) ?_))
  obtain ⟨v2,hv2,h⟩:=Ae h
  refine dd R (Db Aue (Aa R Af) R (R5 hv2)) (dv R (Dl R R) (Ad3 (Ab (ccI h R (fun h=>?_) (fun h=>?_)))))
  ·refine csr (sv R (A3 Yq Ajs Ay (.nil _)) (sst Yr R R R R R (rm 1 R (Ak (Bs (Ag ?_))))))
   obtain rfl:=SJ h
   exact dn (Ad (ra O0 R R R) (Ad (rt R) Aj)) (I8 R) R
  ·refine Bf (Ab (csr (fl Tp Aaq R R R R R R (sv R (lo Ahu R R R) ?_))))
   refine Fo R Tryz.underlying132 Anp R R (zJ.1 R) (by decide) ?_
   refine Pq [.box [.sl a0.L.length (a0.L.flatMap A7)],.box (EL.el a1),.box [Znl],.arr 136 3 0 ([a1].flatMap A7)] R ?_
   refine Ahv 24 R (by (repeat' first | exact H6.nil _ | apply H6.cons | apply Hy.one | apply Hy.agg | exact C7.nil | exact C7.ls _ _ _ _ _ _ R (Aw (f:=A7) (fun _=>R) ([a1]:List Ax)).symm | exact C7.ls _ _ _ _ _ _ R (Aw (f:=A7) (fun _=>R) _).symm | exact C7.id _ R | exact Cs.nil _ | apply Cs.cons)) ?_
   refine Agz (out:=([a0.L,[a1]]:List (List Ax)).flatMap (eL A7)) R Tryz.underlying408 Ayj (Av R (Av R Ay)) (.cons _ _ _ _ _ _ _ R R (Nbl R) (.cons _ _ _ _ _ _ _ R R (Nbl R) (.nil _))) R (by decide) ?_
   refine Ahv 25 R (by (repeat' first | exact H6.nil _ | apply H6.cons | apply Hy.one | apply Hy.agg | exact C7.nil | exact C7.ls _ _ _ _ _ _ R (Aw (f:=(eL A7)) (fun _=>R) ([a0.L,[a1]]:List (List Ax))).symm | exact C7.ls _ _ _ _ _ _ R (Aw (f:=(eL A7)) (fun _=>R) _).symm | exact C7.ls _ _ _ _ _ _ R (Aw (f:=A7) (fun _=>R) _).symm | exact C7.id _ R | exact Cs.nil _ | apply Cs.cons)) ?_
   obtain ⟨v3,hv3,h⟩:=Ae h
   refine H7 (x':=.s (.one (.ls 5 v3.length))) (M':=[.box [.sl a0.L.length (a0.L.flatMap A7)],.box (EL.el a1),.box [Znl],.arr 136 3 ([a1].flatMap A7).length ([a1].flatMap A7),.arr 132 1 ([a0.L,[a1]].flatMap (eL A7)).length ([a0.L,[a1]].flatMap (eL A7)),.arr 136 3 0 (v3.flatMap A7)]) [] R Ay4 (.func _) (Aa R Af) (Te hv3) R R (by decide) R R R ?_
   refine sv R (A3 Yq Ajs (Av R Ay) (.cons _ _ _ _ _ _ _ R R (Nbl R) (.nil _))) (sst Yr R R R R R (rm 1 R (Ak (Bs ?_))))
   obtain rfl:=SJ h
   refine ⟨Or.inr R,_,_,_,(Ad (ra O0 R R R) (Ad (rt R) Aj)),(by (repeat' first | exact H6.nil _ | apply H6.cons | apply Hy.one | apply Hy.agg | exact C7.nil | exact C7.ls _ _ _ _ _ _ R (Aw (f:=(eL A7)) (fun _=>R) _).symm | exact C7.ls _ _ _ _ _ _ R (Aw (f:=A7) (fun _=>R) _).symm | exact C7.id _ R | exact Cs.nil _ | apply Cs.cons)),?_⟩
   rfl
 ·skip
  refine Ap (sv R (lo O0 R R R) ?_)
  obtain ⟨v4,hv4,h⟩:=Ae h
  refine A8 R Asd (Aa R Af) (An R) (O2 hv4) (sv R (B1 R) (rm 1 R (ssI 9 h R (fun h=>?_) (fun h=>?_))))
  ·refine rm 4 R (Ak (Ck R (fun _=>?_) (fun hx=>Bool.noConfusion hx)))
   refine csr (sv R (A3 Yq Ajs Ay (.nil _)) (sst Yr R R R R R (rm 1 R (Ak (Bs (Ag ?_))))))
   obtain rfl:=SJ h
   exact dn (Ad (ra O0 R R R) (Ad (rt R) Aj)) (I8 R) R
  ·refine son R R R (ld Ahu R R R R (son R R R ?_))
   obtain ⟨v5,hv5,h⟩:=Ae h
   refine A8 R Au2 (Aa R Af) (An R) (Qb hv5) (son R R R (sv R (B1 R) (rm 1 R (Ak (ccI h R (fun h=>?_) (fun h=>?_))))))
   ·refine csr (sv R (A3 Yq Ajs Ay (.nil _)) (sst Yr R R R R R (rm 1 R (Ak (Bs (Ag ?_))))))
    obtain rfl:=SJ h
    exact dn (Ad (ra O0 R R R) (Ad (rt R) Aj)) (I8 R) R
   ·refine Bf (Ab ?_)
    exact ⟨(),_,h,⟨R,R,R,trivial⟩,R⟩
def Ey (a2:Int) (a3:A6) (v1:Int × Bool) (b2:(List (List UInt8)) × (List Al)):Option (Int × (List (List UInt8)) × (List Al)) :=
 (idx b2.2 v1.1).bind fun u3=>(L8 u3 (Ax.mk a2 a3.Val a3.Del)).bind fun v4=>if (decide (v4.2=0)) then ((idx b2.2 v1.1).bind fun u5=>some (a2,b2.1,(b2.2.set v1.1.toNat v4.1))) else (some (a2,b2.1,b2.2))
def Ma (a0:List (List UInt8)) (a1:List Al) (a2:Int) (a3:A6):Option (Int × (List (List UInt8)) × (List Al)) :=
 (Nl a0 a3.Key).bind fun v1=>if (!v1.2) then ((Rh a0 v1.1 [a3.Key]).bind fun v6=>(Q4 a1 v1.1 [(Al.mk ([]:List Ax))]).bind fun v7=>Ey a2 a3 v1 (v6,v7)) else (Ey a2 a3 v1 (a0,a1))
theorem W7 {a0:List (List UInt8)} {a1:List Al} {a2:Int} {a3:A6} {r:Int × (List (List UInt8)) × (List Al)} (h:Ma a0 a1 a2 a3=some r):Dn Tryz.prog 216 [.arr 56 1 0 (a0.flatMap (eL eU8)),.arr 134 1 0 (a1.flatMap As)] [.agg [.ls 0 a0.length,.ls 1 a1.length,Ii6 a2],.agg (EL.el a3)] (fun y m'=>y=.s (.agg [.ls 0 r.2.1.length,.ls 1 r.2.2.length,Ii6 r.1])∧m'=[.arr 56 1 0 (r.2.1.flatMap (eL eU8)),.arr 134 1 0 (r.2.2.flatMap As)]):=by
 unfold Ma at h
 refine Dk Tryz.func216 R (nt:=58) R (Nbl R) ?_
 intro w0 S0 X0 H0
 refine csr (F2 R R (F2 R R (Bo R Afu (Ak (csr (fl Q8 Ac0 R R R R R R (sv R (Ac S4 R) (sv R (l1 N2 R R R) ?_))))))))
 obtain ⟨v1,hv1,h⟩:=Ae h
 refine H7 (x':=.tup [.one (Ii6 v1.1),.one (.b v1.2)]) (M':=[.arr 56 1 0 (a0.flatMap (eL eU8)),.arr 134 1 0 (a1.flatMap As),.box [.ls 0 a0.length,.ls 1 a1.length,Ii6 a2],.box (EL.el a3),.box [Znl,Znl,Ii6 0]]) [0] R Aw0 (.func _) (Aa R (Aa R Af)) (Yk hv1) R R (by decide) R R R ?_
 refine sv R (Cc R) (sv R (Ai R R) (sv R (Ai R R) (rm 2 R (Ak (Bn (csr (rm 1 R (sv R (B1 R) (Ak (cj ((List (List UInt8)) × (List Al)) (fun b2=>[(2,.s (.one (.lp 2 0))),(3,.s (.one (.lp 3 0))),(4,.s (.one (.lp 4 0))),(5,.s (.one (Ii6 v1.1)))]) (fun b2=>[.arr 56 1 0 (b2.1.flatMap (eL eU8)),.arr 134 1 0 (b2.2.flatMap As),.box [.ls 0 b2.1.length,.ls 1 b2.2.length,Ii6 a2],.box (EL.el a3),.box [Znl,Znl,Ii6 0]]) (fun b2=>Ey a2 a3 v1 b2=some r) (fun _=>R) (fun b2 h=>?_) ?_))))))))))
 ·unfold Ey at h
  refine Bn (Ym ?_)
  obtain ⟨u3,hu3,h⟩:=Ae h
  obtain ⟨v4,hv4,h⟩:=Ae h
  refine Ku [16,17] [0,1,0,7,15,0,32,0,128,0,512,2016,4095,8191,16383,16383,0,98303,262143] [[.arr 56 1 0 (b2.1.flatMap (eL eU8)),.arr 134 1 0 (b2.2.flatMap As),.box [.ls 0 b2.1.length,.ls 1 b2.2.length,Ii6 a2],.box (EL.el a3),.box [Znl,Znl,Ii6 0],.hole],[.arr 56 1 0 (b2.1.flatMap (eL eU8)),.arr 134 1 0 (b2.2.flatMap As),.box [.ls 0 b2.1.length,.ls 1 b2.2.length,Ii6 a2],.box (EL.el a3),.box [Znl,Znl,Ii6 0],.box [Znl]],[.arr 56 1 0 (b2.1.flatMap (eL eU8)),.arr 134 1 0 (b2.2.flatMap As),.box [.ls 0 b2.1.length,.ls 1 b2.2.length,Ii6 a2],.box (EL.el a3),.box [Znl,Znl,Ii6 0],.box [.sl v4.1.L.length (v4.1.L.flatMap A7)]]] (by kernel_rfl) mixed (by kernel_rfl) (by decide) R R R R ?_
  refine evs (md:=[.arr 56 1 0 (b2.1.flatMap (eL eU8)),.arr 134 1 0 (b2.2.flatMap As),.box [.ls 0 b2.1.length,.ls 1 b2.2.length,Ii6 a2],.box (EL.el a3),.box [Znl,Znl,Ii6 0],.dead]) (fun hS=>ev (B9 hS) R R (Ac Qt R) (ev (B9 hS) R R (l1 Ajr R R R) (emv R R (fun _=>A4 R) ?_))) ⟨⟨R,⟨R,⟨R,⟨R,⟨R,⟨trivial,trivial⟩⟩⟩⟩⟩⟩,⟨⟨R,⟨R,⟨R,⟨R,⟨R,⟨trivial,trivial⟩⟩⟩⟩⟩⟩,⟨⟨R,⟨R,⟨R,⟨R,⟨R,⟨trivial,trivial⟩⟩⟩⟩⟩⟩,trivial⟩⟩⟩
  refine ev (B9 (md:=[.arr 56 1 0 (b2.1.flatMap (eL eU8)),.arr 134 1 0 (b2.2.flatMap As),.box [.ls 0 b2.1.length,.ls 1 b2.2.length,Ii6 a2],.box (EL.el a3),.box [Znl,Znl,Ii6 0],.dead]) ⟨⟨rfl,⟨rfl,⟨rfl,⟨rfl,⟨rfl,⟨trivial,trivial⟩⟩⟩⟩⟩⟩,⟨⟨rfl,⟨rfl,⟨rfl,⟨rfl,⟨rfl,⟨trivial,trivial⟩⟩⟩⟩⟩⟩,⟨⟨rfl,⟨rfl,⟨rfl,⟨rfl,⟨rfl,⟨trivial,trivial⟩⟩⟩⟩⟩⟩,trivial⟩⟩⟩) rfl rfl (Gq (f:=As) Ap3 (fun _=>rfl) rfl rfl rfl (by first | rfl | exact List.length_set.symm) rfl hu3) ?_
  refine ev (B9 (md:=[.arr 56 1 0 (b2.1.flatMap (eL eU8)),.arr 134 1 0 (b2.2.flatMap As),.box [.ls 0 b2.1.length,.ls 1 b2.2.length,Ii6 a2],.box (EL.el a3),.box [Znl,Znl,Ii6 0],.dead]) ⟨⟨R,⟨R,⟨R,⟨R,⟨R,⟨trivial,trivial⟩⟩⟩⟩⟩⟩,⟨⟨R,⟨R,⟨R,⟨R,⟨R,⟨trivial,trivial⟩⟩⟩⟩⟩⟩,⟨⟨R,⟨R,⟨R,⟨R,⟨R,⟨trivial,trivial⟩⟩⟩⟩⟩⟩,trivial⟩⟩⟩) R R (Oi (f:=As) (sz:=1) 0 O0 (fun _=>R) R R R R (Iv hu3).2 (Nbl R) R) ?_
  refine evs (md:=[.arr 56 1 0 (b2.1.flatMap (eL eU8)),.arr 134 1 0 (b2.2.flatMap As),.box [.ls 0 b2.1.length,.ls 1 b2.2.length,Ii6 a2],.box (EL.el a3),.box [Znl,Znl,Ii6 0],.dead]) (fun hS=>ev (B9 hS) R R (Ac Ro R) (ev (B9 hS) R R (l1 ti3 R R R) (ev (B9 hS) R R (Ac Zo R) (ev (B9 hS) R R (l1 N2 R R R) (ev (B9 hS) R R (Ac Adm R) (ev (B9 hS) R R (l1 ti4 R R R) (ev (B9 hS) R R (A3 Ag1 Av6 (Av R (Av R (Av R Ay))) (.cons _ _ _ _ _ _ _ R R (Nbl R) (.cons _ _ _ _ _ _ _ R R (Nbl R) (.cons _ _ _ _ _ _ _ R R (Nbl R) (.nil _))))) (ed (B9 hS) R R (Db Axn (Aa R (Aa R Af)) R (Xt hv4)) (emv R R (fun _=>Cc R) ?_))))))))) ⟨⟨R,⟨R,⟨R,⟨R,⟨R,⟨trivial,trivial⟩⟩⟩⟩⟩⟩,⟨⟨R,⟨R,⟨R,⟨R,⟨R,⟨trivial,trivial⟩⟩⟩⟩⟩⟩,⟨⟨R,⟨R,⟨R,⟨R,⟨R,⟨trivial,trivial⟩⟩⟩⟩⟩⟩,trivial⟩⟩⟩
  refine evs (md:=[.arr 56 1 0 (b2.1.flatMap (eL eU8)),.arr 134 1 0 (b2.2.flatMap As),.box [.ls 0 b2.1.length,.ls 1 b2.2.length,Ii6 a2],.box (EL.el a3),.box [Znl,Znl,Ii6 0],.dead]) (fun hS=>ev (B9 hS) R R (Ai R R) (ev (B9 hS) R R (Ai R R) (ee (x:=.s (.one (.lp 5 0))) 0 R R R R R (fun ζ=>?_) ?_))) ⟨⟨R,⟨R,⟨R,⟨R,⟨R,⟨trivial,trivial⟩⟩⟩⟩⟩⟩,⟨⟨R,⟨R,⟨R,⟨R,⟨R,⟨trivial,trivial⟩⟩⟩⟩⟩⟩,⟨⟨R,⟨R,⟨R,⟨R,⟨R,⟨trivial,trivial⟩⟩⟩⟩⟩⟩,trivial⟩⟩⟩
  ·refine Ix 5 R Yq R ?_
   exact Rk
  refine ee0 1 R R R R (fun ζ=>?_) ?_
  ·refine sst Yr R R R R R (Pq [.arr 56 1 0 (b2.1.flatMap (eL eU8)),.arr 134 1 0 (b2.2.flatMap As),.box [.ls 0 b2.1.length,.ls 1 b2.2.length,Ii6 a2],.box (EL.el a3),.box [Znl,Znl,Ii6 0],.box [.sl v4.1.L.length (v4.1.L.flatMap A7)]] R ?_)
   exact Rk
  refine ev (A9 2 R R) R R (Lh R) (Abf (Ab (Bn (csr (rm 1 R (sv R (B0 R R) (Ak (ccI h R (fun h=>?_) (fun h=>?_)))))))))
  ·refine Ap (fl Qt Ajr R R R R R R (rm 1 R (sv R (lo O0 R R R) ?_)))
   obtain ⟨u5,hu5,h⟩:=Ae h
   refine sv R (Gq (f:=As) Ap3 (fun _=>R) R R R R R hu5) ?_
   refine Zf (f:=As) (u':=v4.1) (sz:=1) 0 Yr (fun _=>R) R R R R R R R (zJ.1 R) (Iv hu5).2 (Nbl R) R ?_
   refine Mf 36 (y:=.s (.one (.ls 1 b2.2.length))) (.s (.one (.ls 1 (b2.2.set v1.1.toNat v4.1).length))) R (congrArg (fun n=>AV.s (.one (.ls 1 n))) List.length_set.symm) ?_
   refine Mf 53 (y:=.s (.one (.ls 1 b2.2.length))) (.s (.one (.ls 1 (b2.2.set v1.1.toNat v4.1).length))) R (congrArg (fun n=>AV.s (.one (.ls 1 n))) List.length_set.symm) ?_
   refine Pq [.arr 56 1 0 (b2.1.flatMap (eL eU8)),.arr 134 1 0 ((b2.2.set v1.1.toNat v4.1).flatMap As),.box [.ls 0 b2.1.length,.ls 1 b2.2.length,Ii6 a2],.box (EL.el a3),.box [Znl,Znl,Ii6 0],.box [.sl v4.1.L.length (v4.1.L.flatMap A7)]] R ?_
   refine Pq [.arr 56 1 0 (b2.1.flatMap (eL eU8)),.arr 134 1 0 ((b2.2.set v1.1.toNat v4.1).flatMap As),.box [.ls 0 b2.1.length,.ls 1 (b2.2.set v1.1.toNat v4.1).length,Ii6 a2],.box (EL.el a3),.box [Znl,Znl,Ii6 0],.box [.sl v4.1.L.length (v4.1.L.flatMap A7)]] (by rw [xJ]) ?_
   refine Ak (csr (ld Yb R R R R (sst Ahp R R R R R (Ak (Bs ?_)))))
   obtain rfl:=SJ h
   exact ⟨Or.inr R,_,[0,1],[.agg [.ls 0 b2.1.length,.ls 1 (b2.2.set v1.1.toNat v4.1).length,Ii6 a2]],[.arr 56 1 0 (b2.1.flatMap (eL eU8)),.arr 134 1 0 ((b2.2.set v1.1.toNat v4.1).flatMap As)],(Ad (ra Yb R R R) Aj),R,R,⟨by decide,R⟩,R,R,⟨R,R⟩⟩
  ·refine Bf (Ab (csr (ld Yb R R R R (sst Ahp R R R R R (Ak (Bs ?_))))))
   obtain rfl:=SJ h
   exact ⟨Or.inr R,_,[0,1],[.agg [.ls 0 b2.1.length,.ls 1 b2.2.length,Ii6 a2]],[.arr 56 1 0 (b2.1.flatMap (eL eU8)),.arr 134 1 0 (b2.2.flatMap As)],(Ad (ra Yb R R R) Aj),R,R,⟨by decide,R⟩,R,R,⟨R,R⟩⟩
 ·skip
  refine ccI h R (fun h=>?_) (fun h=>?_)
  ·refine csr (fl Q8 Ac0 R R R R R R (rm 1 R (sv R (Ac S4 R) (sv R (l1 N2 R R R) ?_))))
   refine Fo R Tryz.underlying25 Afq R R (zJ.1 R) (by decide) ?_
   refine Pq [.arr 56 1 0 (a0.flatMap (eL eU8)),.arr 134 1 0 (a1.flatMap As),.box [.ls 0 a0.length,.ls 1 a1.length,Ii6 a2],.box (EL.el a3),.box [Znl,Znl,Ii6 0],.arr 56 1 0 ([a3.Key].flatMap (eL eU8))] R ?_
   obtain ⟨v6,hv6,h⟩:=Ae h
   refine H7 (x':=.s (.one (.ls 0 v6.length))) (M':=[.arr 56 1 0 (v6.flatMap (eL eU8)),.arr 134 1 0 (a1.flatMap As),.box [.ls 0 a0.length,.ls 1 a1.length,Ii6 a2],.box (EL.el a3),.box [Znl,Znl,Ii6 0],.dead]) [0,5] R Ayh (.func _) (Aa R (Aa R (Aa R Af))) (Uj hv6) R R (by decide) R R R ?_
   refine sv R (Ac Q8 R) (sst Ay6 R R R R R (Ak (Ap (fl Qt Ajr R R R R R R (rm 1 R (sv R (A3 Yq Ajs Ay (.nil _)) ?_))))))
   refine Ahv 30 R (by (repeat' first | exact H6.nil _ | apply H6.cons | apply Hy.one | apply Hy.agg | exact C7.nil | exact C7.ls _ _ _ _ _ _ R (Aw (f:=(eL eU8)) (fun _=>R) _).symm | exact C7.ls _ _ _ _ _ _ R (Aw (f:=As) (fun _=>R) _).symm | exact C7.id _ R | exact Cs.nil _ | apply Cs.cons)) ?_
   refine Fo R Tryz.underlying26 Ag8 R R (zJ.1 R) (by decide) ?_
   refine Pq [.arr 56 1 0 (v6.flatMap (eL eU8)),.arr 134 1 0 (a1.flatMap As),.box [.ls 0 v6.length,.ls 1 a1.length,Ii6 a2],.box (EL.el a3),.box [Znl,Znl,Ii6 0],.dead,.arr 134 1 0 ([(Al.mk ([]:List Ax))].flatMap As)] R ?_
   obtain ⟨v7,hv7,h⟩:=Ae h
   refine H7 (x':=.s (.one (.ls 1 v7.length))) (M':=[.arr 56 1 0 (v6.flatMap (eL eU8)),.arr 134 1 0 (v7.flatMap As),.box [.ls 0 v6.length,.ls 1 a1.length,Ii6 a2],.box (EL.el a3),.box [Znl,Znl,Ii6 0],.dead,.dead]) [1,6] R Ax6 (.func _) (Aa R (Aa R (Aa R Af))) (Un hv7) R R (by decide) R R R ?_
   refine sv R (Ac Qt R) (sst Azq R R R R R (Ak ?_))
   exact ⟨(v6,v7),_,h,⟨R,R,R,R,trivial⟩,R⟩
  ·refine Bf (Ab ?_)
   exact ⟨(a0,a1),_,h,⟨R,R,R,R,trivial⟩,R⟩
def I1 (b5:(List (List UInt8)) × (List Al) × Int):Option (Bw × Int) :=
 if (decide (128<(b5.1.length:Int))) then (some (Pm,8)) else (some ((Bw.mk b5.1 b5.2.1 b5.2.2),0))
def Eo (a2:List A6) (s6:Int × (List (List UInt8)) × (List Al) × Int):Option (LB (Int × (List (List UInt8)) × (List Al) × Int) ((List (List UInt8)) × (List Al) × Int)) :=
 if (decide (s6.1<(a2.length:Int))) then ((idx a2 s6.1).bind fun u7=>(Ma s6.2.1 s6.2.2.1 s6.2.2.2 u7).bind fun v8=>some (.cont ((wI (s6.1+1)),v8.2.1,v8.2.2,v8.1))) else (some (.brk (s6.2.1,s6.2.2.1,s6.2.2.2)))
def I6 (a0:Bw) (a1:Int) (a2:List A6) (b2:Unit):Option (Bw × Int) :=
 (Iz a0.Keys).bind fun v3=>(Iy a0.Chains).bind fun v4=>(Cw (Eo a2) fuel (0,v3,v4,a1)).bind fun e9=>I1 e9
def I0 (a0:Bw) (a1:Int) (a2:List A6) (b1:Unit):Option (Bw × Int) :=
 if (decide (a1≤a0.Ts)) then (some (Pm,7)) else (if (decide (1099511627776<a1)) then (some (Pm,7)) else (I6 a0 a1 a2 ()))
def D4 (a0:Bw) (a1:Int) (a2:List A6):Option (Bw × Int) :=
 (Dc (Bw.mk a0.Keys a0.Chains a0.Ts)).bind fun v10=>if (!v10) then (some (Pm,1)) else ((F9 a2).bind fun v11=>if (!v11) then (some (Pm,1)) else (I0 a0 a1 a2 ()))
theorem Up {a0:Bw} {a1:Int} {a2:List A6} {r:Bw × Int} (h:D4 a0 a1 a2=some r):Br Tryz.prog 143 [.agg (EL.el a0),.one (Ii6 a1),.one (.sl a2.length (a2.flatMap Ba))] (·=.tup [.agg (EL.el r.1),.one (Ii6 r.2)]):=by
 unfold D4 at h
 refine A2 Tryz.func143 R (nt:=53) R (Nbl R) ?_
 intro w0 S0
 refine csr (F2 R R (Bo R Afu (rm 1 R (Ak (Bn (Bn (cj3 (Unit) (fun b1=>[(1,.s (.one (Ii6 a1))),(2,.s (.one (.sl a2.length (a2.flatMap Ba)))),(3,.s (.one (.lp 0 0))),(6,.s (.one (.lp 1 0)))]) (fun b1=>[.box (EL.el a0),.box [Znl,Znl,Ii6 0]]) (fun b1=>I0 a0 a1 a2 b1=some r) (fun _=>R) (fun b1 h=>?_) ?_)))))))
 ·unfold I0 at h
  refine Bn (Bn (cj3 (Unit) (fun b2=>[(1,.s (.one (Ii6 a1))),(2,.s (.one (.sl a2.length (a2.flatMap Ba)))),(3,.s (.one (.lp 0 0))),(6,.s (.one (.lp 1 0)))]) (fun b2=>[.box (EL.el a0),.box [Znl,Znl,Ii6 0]]) (fun b2=>I6 a0 a1 a2 b2=some r) (fun _=>R) (fun b2 h=>?_) ?_))
  ·unfold I6 at h
   refine Bn (Ym (Ym (Ym ?_)))
   obtain ⟨v3,hv3,h⟩:=Ae h
   obtain ⟨v4,hv4,h⟩:=Ae h
   refine Ahc [2,5,8,9] [0,1,3,0,8,31,0,127,0,511] [([false,false,false,false],[.box (EL.el a0),.box [Znl,Znl,Ii6 0],.hole,.hole,.hole]),([false,false,true,false],[.box (EL.el a0),.box [Znl,Znl,Ii6 0],.hole,.hole,.box [Znl,Znl,Ii6 0]]),([true,false,false,false],[.box (EL.el a0),.box [Znl,Znl,Ii6 0],.arr 56 1 0 (v3.flatMap (eL eU8)),.hole,.hole]),([true,false,true,false],[.box (EL.el a0),.box [Znl,Znl,Ii6 0],.arr 56 1 0 (v3.flatMap (eL eU8)),.hole,.box [Znl,Znl,Ii6 0]]),([true,true,false,false],[.box (EL.el a0),.box [Znl,Znl,Ii6 0],.arr 56 1 0 (v3.flatMap (eL eU8)),.arr 134 1 0 (v4.flatMap As),.hole]),([true,true,true,false],[.box (EL.el a0),.box [Znl,Znl,Ii6 0],.arr 56 1 0 (v3.flatMap (eL eU8)),.arr 134 1 0 (v4.flatMap As),.box [Znl,Znl,Ii6 0]]),([true,true,true,true],[.box (EL.el a0),.box [Znl,Znl,Ii6 0],.arr 56 1 0 (v3.flatMap (eL eU8)),.arr 134 1 0 (v4.flatMap As),.box [.ls 2 v3.length,.ls 3 v4.length,Ii6 a1]])] (by kernel_rfl) mixed (by kernel_rfl) (by decide) R (by kernel_rfl) R R ?_
   refine Av2 R R (Ca R (Ac Q8 R) (Ca R (Ac Q8 R) (B4 R (B4 R (B4 R (B4 R (B4 R Dj))))))) (Av2 R R (Ca R (l1 Ac0 R R R) (Ca R (l1 Ac0 R R R) (B4 R (B4 R (B4 R (B4 R (B4 R Dj))))))) (mee (x:=.s (.one (.ls 2 v3.length))) 0 R R ?_ ?_))
   ·refine Ca R ⟨_,R,fun ζ=>?_⟩ ?_
    ·refine Wk (g:=(eL eU8)) (ys:=v3) 2 R Aun (.func _) (Aa R Af) (Qc hv3) R (fun _=>R) R R R R ?_
     exact Rk
    refine Ca R ⟨_,R,fun ζ=>?_⟩ ?_
    ·refine Wk (g:=(eL eU8)) (ys:=v3) 2 R Aun (.func _) (Aa R Af) (Qc hv3) R (fun _=>R) R R R R ?_
     exact Rk
    refine B4 R (B4 R (B4 R (B4 R (B4 R ?_))))
    exact Dj
   refine Av2 R R (Ca R (Ac Qt R) (Ca R (Ac Qt R) (Ca R (Ac Qt R) (Ca R (Ac Qt R) (B4 R (B4 R (B4 R Dj))))))) (Av2 R R (Ca R (l1 Ajr R R R) (Ca R (l1 Ajr R R R) (Ca R (l1 Ajr R R R) (Ca R (l1 Ajr R R R) (B4 R (B4 R (B4 R Dj))))))) (mee (x:=.s (.one (.ls 3 v4.length))) 1 R R ?_ ?_))
   ·refine B4 R (B4 R (Ca R ⟨_,R,fun ζ=>?_⟩ ?_))
    ·refine Wk (g:=As) (ys:=v4) 3 R At8 (.func _) (Aa R Af) (P7 hv4) R (fun _=>R) R R R R ?_
     exact Rk
    refine Ca R ⟨_,R,fun ζ=>?_⟩ ?_
    ·refine Wk (g:=As) (ys:=v4) 3 R At8 (.func _) (Aa R Af) (P7 hv4) R (fun _=>R) R R R R ?_
     exact Rk
    refine B4 R (B4 R (B4 R ?_))
    exact Dj
   refine Ap6 R R (fun _=>A4 R) ?_
   refine Av2 R R (B4 R (B4 R (B4 R (B4 R (Ca R (A3 Afu Ara (Av R (Av R (Av R Ay))) (.cons _ _ _ _ _ _ _ R R (Nbl R) (.cons _ _ _ _ _ _ _ R R (Nbl R) (.cons _ _ _ _ _ _ _ R R (Nbl R) (.nil _))))) (Ca R (A3 Afu Ara (Av R (Av R (Av R Ay))) (.cons _ _ _ _ _ _ _ R R (Nbl R) (.cons _ _ _ _ _ _ _ R R (Nbl R) (.cons _ _ _ _ _ _ _ R R (Nbl R) (.nil _))))) (B4 R Dj))))))) (mee (x:=.s (.one (.lp 4 0))) 2 R R ?_ ?_)
   ·refine Ca R ⟨_,R,fun ζ=>?_⟩ ?_
    ·refine Ix 4 R Afu R ?_
     exact Rk
    refine B4 R (Ca R ⟨_,R,fun ζ=>?_⟩ ?_)
    ·refine Ix 4 R Afu R ?_
     exact Rk
    refine B4 R (Ca R ⟨_,R,fun ζ=>?_⟩ ?_)
    ·refine Ix 4 R Afu R ?_
     exact Rk
    refine B4 R (B4 R ?_)
    exact Dj
   refine Ave 3 R ?_ ?_
   ·refine B4 R (B4 R (B4 R (B4 R (B4 R (Ca R ⟨_,R,fun ζ=>?_⟩ ?_)))))
    ·refine sst Ahp R R R R R (Pq [.box (EL.el a0),.box [Znl,Znl,Ii6 0],.arr 56 1 0 (v3.flatMap (eL eU8)),.arr 134 1 0 (v4.flatMap As),.box [.ls 2 v3.length,.ls 3 v4.length,Ii6 a1]] R ?_)
     exact Rk
    refine B4 R ?_
    exact Dj
   refine Atm (Ab (Bn (csr (rm 1 R (sv R (Au Ac4 R) (rm 1 R (Ak (cj ((List (List UInt8)) × (List Al) × Int) (fun b5=>[(6,.s (.one (.lp 1 0))),(8,.s (.one (.lp 4 0)))]) (fun b5=>[.box (EL.el a0),.box [Znl,Znl,Ii6 0],.arr 56 1 0 (b5.1.flatMap (eL eU8)),.arr 134 1 0 (b5.2.1.flatMap As),.box [.ls 2 b5.1.length,.ls 3 b5.2.1.length,Ii6 b5.2.2]]) (fun b5=>I1 b5=some r) (fun _=>R) (fun b5 h=>?_) ?_))))))))
   ·unfold I1 at h
    refine Bn (csr (fl Q8 Ac0 R R R R R R (sv R (Hj S6 R R (Aw (f:=(eL eU8)) (fun _=>R) _).symm) ?_)))
    refine sv R (C9 R R) (Ak (ccI h R (fun h=>?_) (fun h=>?_)))
    ·refine csr (sv R (A3 Afu Ara Ay (.nil _)) (sst Ahp R R R R R (rm 1 R (Ak (Bs (Ag ?_))))))
     obtain rfl:=SJ h
     exact dn (Ad (ra Yb R R R) (Ad (rt R) Aj)) (I8 R) R
    ·refine Bf (Ab (csr (ld Yb R R R R (sst Ahp R R R R R (rm 1 R (Ak (Bs ?_)))))))
     obtain rfl:=SJ h
     refine ⟨Or.inr R,_,_,_,(Ad (ra Yb R R R) (Ad (rt R) Aj)),(by (repeat' first | exact H6.nil _ | apply H6.cons | apply Hy.one | apply Hy.agg | exact C7.nil | exact C7.ls _ _ _ _ _ _ R (Aw (f:=(eL eU8)) (fun _=>R) _).symm | exact C7.ls _ _ _ _ _ _ R (Aw (f:=As) (fun _=>R) _).symm | exact C7.id _ R | exact Cs.nil _ | apply Cs.cons)),?_⟩
     rfl
   ·skip
    refine Bq ?_
    obtain ⟨x6,hx6,ho6⟩:=Ae h
    refine lpo (G:=Nat × (Int × (List (List UInt8)) × (List Al) × Int)) (fun g=>[(6,.s (.one (.lp 1 0))),(8,.s (.one (.lp 4 0))),(37,.s (.one (.sl a2.length (a2.flatMap Ba)))),(38,.s (.one (Ii6 (a2.length:Int)))),(39,.s (.one (Ii6 g.2.1)))]) (fun g=>[.box (EL.el a0),.box [Znl,Znl,Ii6 0],.arr 56 1 0 (g.2.2.1.flatMap (eL eU8)),.arr 134 1 0 (g.2.2.2.1.flatMap As),.box [.ls 2 g.2.2.1.length,.ls 3 g.2.2.2.1.length,Ii6 g.2.2.2.2]]) (fun g=>Cw (Eo a2) g.1 g.2=some x6) (fun g=>g.1) (fuel,(0,v3,v4,a1)) hx6 ⟨R,R,R,R,R,trivial⟩ [] R (fun _=>R) ?_
    clear hx6 h
    rintro ⟨n6,s6⟩ h
    obtain ⟨n6,y6,rfl,h,hk6⟩:=Cy h
    unfold Eo at h
    refine csr (sv R (Bt R R) (Ak (Bn (ccI h R (fun h=>?_) (fun h=>?_)))))
    ·refine Bf (Ab (Bn (Bq (Bn (Ap ?_)))))
     obtain ⟨u7,hu7,h⟩:=Ae h
     refine sv R (Cb (f:=Ba) Ac4 (fun _=>R) R R R R hu7) ?_
     refine sv R (Bz (ys:=[.sl u7.Key.length (u7.Key.flatMap eU8),.sl u7.Val.length (u7.Val.flatMap eU8),.b u7.Del]) Afp R (.cp _) R R) (Bo R Aj9 (sst Amh R R R R R (Ak (Ap (ld Yb R R R R (sv R (lo Afp R R R) ?_))))))
     obtain ⟨v8,hv8,h⟩:=Ae h
     refine H7 (x':=.s (.agg [.ls 2 v8.2.1.length,.ls 3 v8.2.2.length,Ii6 v8.1])) (M':=[.box (EL.el a0),.box [Znl,Znl,Ii6 0],.arr 56 1 0 (v8.2.1.flatMap (eL eU8)),.arr 134 1 0 (v8.2.2.flatMap As),.box [.ls 2 s6.2.1.length,.ls 3 s6.2.2.1.length,Ii6 s6.2.2.2],.box (EL.el u7)]) [2,3] R Azj (.func _) (Aa R (Aa R Af)) (W7 hv8) R R (by decide) R R R ?_
     refine sst Ahp R R R R R (Ki (Ao (Ab (Ap (sv R (Bm R R) (rm 1 R (Ak ?_)))))))
     obtain rfl:=SJ h
     exact ⟨(n6,((wI (s6.1+1)),v8.2.1,v8.2.2,v8.1)),_,hk6,⟨R,R,R,R,R,trivial⟩,R,zH _⟩
    ·refine Dd (Ar (Ar (Bj (Ab ?_))))
     obtain rfl:=SJ h
     obtain rfl:_=x6:=hk6
     exact ⟨(s6.2.1,s6.2.2.1,s6.2.2.2),_,ho6,⟨R,R,trivial⟩,R⟩
  ·skip
   refine Ap (rm 1 R (fl Ro ti3 R R R R R R (sv R (Dl R R) (rm 1 R (ssI 24 h R (fun h=>?_) (fun h=>?_))))))
   ·refine rm 3 R (Ak (Ck R (fun _=>?_) (fun hx=>Bool.noConfusion hx)))
    refine csr (sv R (A3 Afu Ara Ay (.nil _)) (sst Ahp R R R R R (rm 1 R (Ak (Bs (Ag ?_))))))
    obtain rfl:=SJ h
    exact dn (Ad (ra Yb R R R) (Ad (rt R) Aj)) (I8 R) R
   ·refine rm 1 R (son R R R (sv R (C9 R R) (rm 1 R (Ak (ccI h R (fun h=>?_) (fun h=>?_))))))
    ·refine csr (sv R (A3 Afu Ara Ay (.nil _)) (sst Ahp R R R R R (rm 1 R (Ak (Bs (Ag ?_))))))
     obtain rfl:=SJ h
     exact dn (Ad (ra Yb R R R) (Ad (rt R) Aj)) (I8 R) R
    ·refine Bf (Ab ?_)
     exact ⟨(),_,h,⟨R,R,R,R,trivial⟩,R⟩
 ·skip
  refine Ap (sv R (lo Yb R R R) ?_)
  obtain ⟨v10,hv10,h⟩:=Ae h
  refine A8 R Auh (Aa R Af) (An R) (Lg hv10) (sv R (B1 R) (rm 1 R (ssI 14 h R (fun h=>?_) (fun h=>?_))))
  ·refine rm 4 R (Ak (Ck R (fun _=>?_) (fun hx=>Bool.noConfusion hx)))
   refine csr (sv R (A3 Afu Ara Ay (.nil _)) (sst Ahp R R R R R (rm 1 R (Ak (Bs (Ag ?_))))))
   obtain rfl:=SJ h
   exact dn (Ad (ra Yb R R R) (Ad (rt R) Aj)) (I8 R) R
  ·refine rm 1 R (son R R R ?_)
   obtain ⟨v11,hv11,h⟩:=Ae h
   refine A8 R Ayq (Aa R Af) (An R) (Sq hv11) (son R R R (sv R (B1 R) (rm 1 R (Ak (ccI h R (fun h=>?_) (fun h=>?_))))))
   ·refine csr (sv R (A3 Afu Ara Ay (.nil _)) (sst Ahp R R R R R (rm 1 R (Ak (Bs (Ag ?_))))))
    obtain rfl:=SJ h
    exact dn (Ad (ra Yb R R R) (Ad (rt R) Aj)) (I8 R) R
   ·refine Bf (Ab ?_)
    exact ⟨(),_,h,⟨R,R,R,R,trivial⟩,R⟩
def Ol (b1:Int):Option Int :=
 some b1
def Gh (a0:Be) (s2:Int × Int):Option (LB (Int × Int) (Int)) :=
 if (decide (s2.2<(a0.Txs.length:Int))) then ((idx a0.Txs s2.2).bind fun u3=>if (decide (u3.State=1)) then (some (.cont ((if u3.Begin<s2.1 then u3.Begin else s2.1),(wI (s2.2+1))))) else (some (.cont (s2.1,(wI (s2.2+1)))))) else (some (.brk s2.1))
def Ka (a0:Be) (a1:Int):Option Int :=
 (Cw (Gh a0) fuel (a1,0)).bind fun e4=>Ol e4
theorem R9 {a0:Be} {a1:Int} {r:Int} (h:Ka a0 a1=some r):Br Tryz.prog 146 [.agg (EL.el a0),.one (Ii6 a1)] (·=.s (.one (Ii6 r))):=by
 unfold Ka at h
 refine A2 Tryz.func146 R (nt:=23) R (Nbl R) ?_
 intro w0 S0
 refine csr (F2 R R (rm 1 R (Ak (Bn (csr (fl N0 Aaj R R R R R R (sv R (Au Qd R) (rm 1 R (Ak (cj (Int) (fun b1=>[(1,.s (.one (Ii6 b1)))]) (fun b1=>[.box (EL.el a0)]) (fun b1=>Ol b1=some r) (fun _=>R) (fun b1 h=>?_) ?_))))))))))
 ·unfold Ol at h
  refine csr (rm 2 R (Ak (Bs ?_)))
  obtain rfl:=SJ h
  exact dnT R R R R
 ·skip
  refine Bq ?_
  obtain ⟨x2,hx2,ho2⟩:=Ae h
  refine lpo (G:=Nat × (Int × Int)) (fun g=>[(1,.s (.one (Ii6 g.2.1))),(8,.s (.one (.sl a0.Txs.length (a0.Txs.flatMap Bb)))),(9,.s (.one (Ii6 (a0.Txs.length:Int)))),(10,.s (.one (Ii6 g.2.2)))]) (fun g=>[.box (EL.el a0)]) (fun g=>Cw (Gh a0) g.1 g.2=some x2) (fun g=>g.1) (fuel,(a1,0)) hx2 ⟨R,R,R,R,trivial⟩ [] R (fun _=>R) ?_
  clear hx2 h
  rintro ⟨n2,s2⟩ h
  obtain ⟨n2,y2,rfl,h,hk2⟩:=Cy h
  unfold Gh at h
  refine csr (sv R (Bt R R) (Ak (Bn (ccI h R (fun h=>?_) (fun h=>?_)))))
  ·refine Bf (Ab (Bn (Bq (Bn (Ap ?_)))))
   obtain ⟨u3,hu3,h⟩:=Ae h
   refine sv R (Cb (f:=Bb) Qd (fun _=>R) R R R R hu3) ?_
   refine sv R (Bz (ys:=[Ii6 u3.ID,Ii6 u3.Begin,Ii6 u3.End,Ii6 u3.State,.b u3.In,.b u3.Out,.b u3.RO,.sl u3.Keys.length (u3.Keys.flatMap (eL eU8))]) Jr R (.cp _) R R) (Bo R S8 (sst Si R R R R R (Ak (csr (fl O6 ti3 R R R R R R (sv R (B0 R R) (Ak (ccI h R (fun h=>?_) (fun h=>?_)))))))))
   ·refine Ap (rm 1 R (fl Vp ti3 R R R R R R (sv R (Ahm R R) (rm 1 R (Ki (Ao (Ab (Ap (sv R (Bm R R) (rm 1 R (Ak ?_)))))))))))
    obtain rfl:=SJ h
    exact ⟨(n2,((if u3.Begin<s2.1 then u3.Begin else s2.1),(wI (s2.2+1)))),_,hk2,⟨R,R,R,R,trivial⟩,R,zH _⟩
   ·refine Bf (Ao (Ab (Ap (sv R (Bm R R) (rm 1 R (Ak ?_))))))
    obtain rfl:=SJ h
    exact ⟨(n2,(s2.1,(wI (s2.2+1)))),_,hk2,⟨R,R,R,R,trivial⟩,R,zH _⟩
  ·refine Dd (Ar (Ar (Bj (Ab ?_))))
   obtain rfl:=SJ h
   obtain rfl:_=x2:=hk2
   exact ⟨s2.1,_,ho2,⟨R,trivial⟩,R⟩
def M3 (a0:Be) (b1:(List Int)):Option Be :=
 (Ia a0 b1).bind fun v2=>some v2
def Hf (a0:Be) (s3:Int × (List Int)):Option (LB (Int × (List Int)) ((List Int))) :=
 if (decide (s3.1<(a0.Txs.length:Int))) then ((idx a0.Txs s3.1).bind fun u4=>if (decide (u4.State=2)) then ((Ka a0 u4.End).bind fun v5=>if (decide (u4.End≤v5)) then (if (s3.2.length+[u4.ID].length)*8≤140737488355328 then (some (.cont ((wI (s3.1+1)),(s3.2++[u4.ID])))) else none) else (some (.cont ((wI (s3.1+1)),s3.2)))) else (some (.cont ((wI (s3.1+1)),s3.2)))) else (some (.brk s3.2))
def Jm (a0:Be):Option Be :=
 (Cw (Hf a0) fuel (0,([]:List Int))).bind fun e7=>M3 a0 e7
theorem Ys {a0:Be} {r:Be} (h:Jm a0=some r):Br Tryz.prog 144 [.agg (EL.el a0)] (·=.s (.agg (EL.el r))):=by
 unfold Jm at h
 refine A2 Tryz.func144 R (nt:=34) R (Nbl R) ?_
 intro w0 S0
 refine csr (F2 R R (Bo R Wy (Ak (csr (rm 1 R (Ak (Bn (csr (fl N0 Aaj R R R R R R (sv R (Au Qd R) (rm 1 R (Ak ?_))))))))))))
 refine Dh 3 1 3 (by decide) R ?_
 refine cj ((List Int)) (fun b1=>[(1,.s (.one (.lp 0 0))),(2,.s (.one (.lp 1 0))),(3,.s (.one (.ls 2 b1.length)))]) (fun b1=>[.box (EL.el a0),.box [Znl,Znl],.arr 3 1 0 (b1.flatMap eI)]) (fun b1=>M3 a0 b1=some r) (fun _=>R) (fun b1 h=>?_) ?_
 ·unfold M3 at h
  refine csr (ld Qq R R R R (sv R (A4 R) ?_))
  refine Ahv 32 R (by (repeat' first | exact H6.nil _ | apply H6.cons | apply Hy.one | apply Hy.agg | exact C7.nil | exact C7.ls _ _ _ _ _ _ R (Aw (f:=eI) (fun _=>R) _).symm | exact C7.id _ R | exact Cs.nil _ | apply Cs.cons)) ?_
  obtain ⟨v2,hv2,h⟩:=Ae h
  refine A8 R Auu (Aa R (Aa R Af)) (An R) (Rb hv2) (sst Xw R R R R R (Ak (Bs ?_)))
  obtain rfl:=SJ h
  exact dnA R Qq R (.lp _ _ _ R) (Nbl R) R R
 ·skip
  refine Bq ?_
  obtain ⟨x3,hx3,ho3⟩:=Ae h
  refine lpo (G:=Nat × (Int × (List Int))) (fun g=>[(1,.s (.one (.lp 0 0))),(2,.s (.one (.lp 1 0))),(3,.s (.one (.ls 2 g.2.2.length))),(7,.s (.one (.sl a0.Txs.length (a0.Txs.flatMap Bb)))),(8,.s (.one (Ii6 (a0.Txs.length:Int)))),(9,.s (.one (Ii6 g.2.1)))]) (fun g=>[.box (EL.el a0),.box [Znl,Znl],.arr 3 1 0 (g.2.2.flatMap eI)]) (fun g=>Cw (Hf a0) g.1 g.2=some x3) (fun g=>g.1) (fuel,(0,([]:List Int))) hx3 ⟨R,R,R,R,R,R,trivial⟩ [] R (fun _=>R) ?_
  clear hx3 h
  rintro ⟨n3,s3⟩ h
  obtain ⟨n3,y3,rfl,h,hk3⟩:=Cy h
  unfold Hf at h
  refine csr (sv R (Bt R R) (Ak (Bn (ccI h R (fun h=>?_) (fun h=>?_)))))
  ·refine Bf (Ab (Bn (Bq (Bn (Ap ?_)))))
   obtain ⟨u4,hu4,h⟩:=Ae h
   refine sv R (Cb (f:=Bb) Qd (fun _=>R) R R R R hu4) ?_
   refine sv R (Bz (ys:=[Ii6 u4.ID,Ii6 u4.Begin,Ii6 u4.End,Ii6 u4.State,.b u4.In,.b u4.Out,.b u4.RO,.sl u4.Keys.length (u4.Keys.flatMap (eL eU8))]) Jr R (.cp _) R R) (Bo R S8 (sst Si R R R R R (Ak (Bn ?_))))
   refine Aav mixed (by kernel_rfl) ?_
   refine dv R (Ac O6 R) (dv R (l1 ti3 R R R) (dv R (B0 R R) (dv R (A4 R) (Zi 16 R (fun hc=>?_) (fun hc=>?_)))))
   ·replace h:=Ve hc h
    clear hc
    refine dvg R R R (lo Qq R R R) (dvg R R R (Ac Qo R) (dvg R R R (l1 ti3 R R R) ?_))
    obtain ⟨v5,hv5,h⟩:=Ae h
    refine ddg R R R (Db Avd (Aa R (Aa R Af)) R (R9 hv5)) (dvg R R R (Ac Qo R) (dvg R R R (l1 ti3 R R R) (dvg R R R (Hn R R) (dv R (H8 R R) (Ad3 (Ab (ccI h R (fun h=>?_) (fun h=>?_))))))))
    ·refine Ap (rm 1 R (sv R (Ac Tm R) (sv R (l1 ti3 R R R) ?_)))
     refine Fo R Tryz.underlying225 ei3 R R (zJ.1 R) (by decide) ?_
     refine Pq [.box (EL.el a0),.box [Znl,Znl],.arr 3 1 0 (s3.2.flatMap eI),.box (EL.el u4),.arr 3 1 0 ([u4.ID].flatMap eI)] R ?_
     obtain ⟨hb6,h⟩:=Cr h
     refine Ub (f:=eI) (xs:=s3.2) (us:=[u4.ID]) R Tryz.underlying225 ei3 Alw (fun _=>R) R R (.one _ _ _ _ (.ls _ _ _ _ _ _ R (Aw (f:=eI) (fun _=>R) [u4.ID]).symm)) R R R (.sl _ _ _ (Aw (f:=eI) (fun _=>R) _)) R R hb6 (by decide) ?_
     refine rm 1 R (Ki (Ao (Ab (Ap (sv R (Bm R R) (rm 1 R (Ak ?_)))))))
     obtain rfl:=SJ h
     exact ⟨(n3,((wI (s3.1+1)),(s3.2++[u4.ID]))),_,hk3,⟨R,R,R,R,R,R,trivial⟩,R,zH _⟩
    ·refine Bf (Ao (Ab (Ap (sv R (Bm R R) (rm 1 R (Ak ?_))))))
     obtain rfl:=SJ h
     exact ⟨(n3,((wI (s3.1+1)),s3.2)),_,hk3,⟨R,R,R,R,R,R,trivial⟩,R,zH _⟩
   ·replace h:=Vh hc h
    clear hc
    refine Pf R R R R (Pf R R R R (Pf R R R R (Pf R R R R (Pf R R R R (Pf R R R R (Pf R R R R (dv R (Mz R R) (Ad3 (Ab (Ck R (fun hx=>Bool.noConfusion hx) (fun _=>?_)))))))))))
    refine Bf (Ao (Ab (Ap (sv R (Bm R R) (rm 1 R (Ak ?_))))))
    obtain rfl:=SJ h
    exact ⟨(n3,((wI (s3.1+1)),s3.2)),_,hk3,⟨R,R,R,R,R,R,trivial⟩,R,zH _⟩
  ·refine Dd (Ar (Ar (Bj (Ab ?_))))
   obtain rfl:=SJ h
   obtain rfl:_=x3:=hk3
   exact ⟨s3.2,_,ho3,⟨R,R,R,trivial⟩,R⟩
def Je (a0:List Ax):Option (List Ax) :=
 if (([]:List Ax).length+a0.length)*40≤140737488355328 then (some (([]:List Ax)++a0)) else none
theorem Uo {a0:List Ax} {r:(List Ax)} (h:Je a0=some r):Dn Tryz.prog 258 [] [.one (.sl a0.length (a0.flatMap A7))] (fun y m'=>y=.s (.one (.ls 0 r.length))∧m'=[.arr 136 3 0 (r.flatMap A7)]):=by
 unfold Je at h
 refine Dk Tryz.func258 R (nt:=8) R (Nbl R) ?_
 intro w0 S0 X0 H0
 refine csr (rm 1 R (Ak (Bn (csr (rm 1 R (Ab2 R Tryz.underlying132 R (fun nq hnq=>?_)))))))
 cases nq
 ·skip
  refine Ak (Ck R (fun hx=>Bool.noConfusion hx) (fun _=>?_))
  refine Bf (Ab (csr (Ss R Tryz.underlying132 Anp (sv R (A4 R) ?_))))
  obtain ⟨hb1,h⟩:=Cr h
  refine Ub (f:=A7) (xs:=([]:List Ax)) (us:=a0) R Tryz.underlying132 Anp Auk (fun _=>R) R R (.one _ _ _ _ (.id _ R)) R R R (.sl _ _ _ (Aw (f:=A7) (fun _=>R) _)) R R hb1 (by decide) ?_
  refine rm 1 R (Ak (Bs ?_))
  obtain rfl:=SJ h
  exact ⟨Or.inr R,_,[0],[.one (.ls 0 (([]:List Ax)++a0).length)],[.arr 136 3 0 ((([]:List Ax)++a0).flatMap A7)],(Ad (rt R) Aj),R,R,⟨by decide,R⟩,R,R,⟨R,R⟩⟩
 ·obtain rfl:=zZ (hnq rfl)
  replace h:(some ([]:List Ax))=some r:=by first | exact h | (rw [if_pos (by decide)] at h;exact h)
  refine Ak (Ck R (fun _=>?_) (fun hx=>Bool.noConfusion hx))
  refine csr (rm 1 R (Ak ?_))
  refine Dh 136 3 2 (by decide) R ?_
  refine Bs (Ag ?_)
  obtain rfl:=SJ h
  exact ⟨Or.inr R,_,[0],[.one (.ls 0 ([]:List Ax).length)],[.arr 136 3 0 (([]:List Ax).flatMap A7)],(Ad (rt R) Aj),R,R,⟨by decide,R⟩,R,R,⟨R,R⟩⟩
def Fa (a0:Al) (b4:Int):Option Al :=
 (cut a0.L b4 (a0.L.length:Int)).bind fun c5=>(Je c5).bind fun v6=>some (Al.mk v6)
def Jt (a0:Al) (v1:Int) (b2:Unit):Option Al :=
 (idx a0.L v1).bind fun u3=>if u3.Del then (Fa a0 (wI (v1+1))) else (Fa a0 v1)
def Kh (a0:Al) (a1:Int):Option Al :=
 (J4 a0 a1).bind fun v1=>if (decide (v1<0)) then (some (Al.mk a0.L)) else ((Ew (Al.mk a0.L)).bind fun v7=>if (!v7) then (some (Al.mk a0.L)) else (Jt a0 v1 ()))
theorem Vx {a0:Al} {a1:Int} {r:Al} (h:Kh a0 a1=some r):Br Tryz.prog 217 [.agg [.sl a0.L.length (a0.L.flatMap A7)],.one (Ii6 a1)] (·=.s (.agg [.sl r.L.length (r.L.flatMap A7)])):=by
 unfold Kh at h
 refine A2 Tryz.func217 R (nt:=31) R (Nbl R) ?_
 intro w0 S0
 refine csr (F2 R R (Bo R Yq (Ak (csr (ld O0 R R R R (sv R (A4 R) ?_))))))
 obtain ⟨v1,hv1,h⟩:=Ae h
 refine A8 R Awp (Aa R (Aa R Af)) (An R) (Rv hv1) (rm 1 R (Ak (Bn (Bn (cj3 (Unit) (fun b2=>[(2,.s (.one (.lp 0 0))),(4,.s (.one (.lp 1 0))),(5,.s (.one (Ii6 v1)))]) (fun b2=>[.box [.sl a0.L.length (a0.L.flatMap A7)],.box [Znl]]) (fun b2=>Jt a0 v1 b2=some r) (fun _=>R) (fun b2 h=>?_) ?_)))))
 ·unfold Jt at h
  refine Bn (csr (fl Tp Aaq R R R R R R (sv R (A4 R) ?_)))
  obtain ⟨u3,hu3,h⟩:=Ae h
  refine sv R (Cb (f:=A7) Wu (fun _=>R) R R R R hu3) ?_
  refine sv R (Ce Agx R) (sv R (B6 ti4 R (.cp _) R) (Ak (cj (Int) (fun b4=>[(2,.s (.one (.lp 0 0))),(4,.s (.one (.lp 1 0))),(5,.s (.one (Ii6 b4)))]) (fun b4=>[.box [.sl a0.L.length (a0.L.flatMap A7)],.box [Znl]]) (fun b4=>Fa a0 b4=some r) (fun _=>R) (fun b4 h=>?_) ?_)))
  ·unfold Fa at h
   refine csr (fl Tp Aaq R R R R R R (sv R (A4 R) ?_))
   obtain ⟨c5,hc5,h⟩:=Ae h
   refine sv R (Xl (f:=A7) (lo:=b4) (hi:=(a0.L.length:Int)) Wu (fun _=>R) R R R (Qh R (T1 hc5).1.1) (by exact R) hc5) ?_
   obtain ⟨v6,hv6,h⟩:=Ae h
   refine H7 (x':=.s (.one (.ls 2 v6.length))) (M':=[.box [.sl a0.L.length (a0.L.flatMap A7)],.box [Znl],.arr 136 3 0 (v6.flatMap A7)]) [] R Azn (.func _) (Aa R Af) (Uo hv6) R R (by decide) R R R ?_
   refine sv R (A3 Yq Ajs (Av R Ay) (.cons _ _ _ _ _ _ _ R R (Nbl R) (.nil _))) (sst Yr R R R R R (Ak (Bs ?_)))
   obtain rfl:=SJ h
   refine ⟨Or.inr R,_,_,_,(Ad (ra O0 R R R) Aj),(by (repeat' first | exact H6.nil _ | apply H6.cons | apply Hy.one | apply Hy.agg | exact C7.nil | exact C7.ls _ _ _ _ _ _ R (Aw (f:=A7) (fun _=>R) _).symm | exact C7.id _ R | exact Cs.nil _ | apply Cs.cons)),?_⟩
   rfl
  ·skip
   refine ccI h R (fun h=>?_) (fun h=>?_)
   ·refine Ap (rm 1 R (sv R (Bm R R) (rm 1 R (Ak ?_))))
    exact ⟨(wI (v1+1)),_,h,⟨R,R,R,trivial⟩,R⟩
   ·refine Bf (Ab ?_)
    exact ⟨v1,_,h,⟨R,R,R,trivial⟩,R⟩
 ·skip
  refine Ap (rm 1 R (sv R (Bt R R) (rm 1 R (ssI 11 h R (fun h=>?_) (fun h=>?_)))))
  ·refine rm 4 R (Ak (Ck R (fun _=>?_) (fun hx=>Bool.noConfusion hx)))
   refine csr (ld O0 R R R R (sst Yr R R R R R (Ak (Bs (Ag ?_)))))
   obtain rfl:=SJ h
   exact dnA R O0 R (.lp _ _ _ R) (Nbl R) R R
  ·refine son R R R (ld O0 R R R R (son R R R ?_))
   obtain ⟨v7,hv7,h⟩:=Ae h
   refine A8 R Asd (Aa R Af) (An R) (O2 hv7) (son R R R (sv R (B1 R) (rm 1 R (Ak (ccI h R (fun h=>?_) (fun h=>?_))))))
   ·refine csr (ld O0 R R R R (sst Yr R R R R R (Ak (Bs (Ag ?_)))))
    obtain rfl:=SJ h
    exact dnA R O0 R (.lp _ _ _ R) (Nbl R) R R
   ·refine Bf (Ab ?_)
    exact ⟨(),_,h,⟨R,R,R,trivial⟩,R⟩
def M9 (a0:Bw) (b2:(List (List UInt8)) × (List Al)):Option Bw :=
 some (Bw.mk b2.1 b2.2 a0.Ts)
def G0 (a0:Bw) (a1:Int) (s3:Int × (List (List UInt8)) × (List Al)):Option (LB (Int × (List (List UInt8)) × (List Al)) ((List (List UInt8)) × (List Al))) :=
 if (decide (s3.1<(a0.Chains.length:Int))) then ((idx a0.Chains s3.1).bind fun u4=>(Kh u4 (if a0.Ts<a1 then a0.Ts else a1)).bind fun v5=>if (decide (0<(v5.L.length:Int))) then ((idx a0.Keys s3.1).bind fun u6=>if (s3.2.1.length+([u6]:List (List UInt8)).length)*24≤140737488355328 then (if (s3.2.2.length+[v5].length)*24≤140737488355328 then (some (.cont ((wI (s3.1+1)),(s3.2.1++([u6]:List (List UInt8))),(s3.2.2++[v5])))) else none) else none) else (some (.cont ((wI (s3.1+1)),s3.2.1,s3.2.2)))) else (some (.brk (s3.2.1,s3.2.2)))
def Kv (a0:Bw) (a1:Int):Option Bw :=
 (Dc a0).bind fun v1=>if (!v1) then (some a0) else ((Cw (G0 a0 a1) fuel (0,([]:List (List UInt8)),([]:List Al))).bind fun e9=>M9 a0 e9)
theorem Vq {a0:Bw} {a1:Int} {r:Bw} (h:Kv a0 a1=some r):Br Tryz.prog 145 [.agg (EL.el a0),.one (Ii6 a1)] (·=.s (.agg (EL.el r))):=by
 unfold Kv at h
 refine A2 Tryz.func145 R (nt:=52) R (Nbl R) ?_
 intro w0 S0
 refine csr (F2 R R (Bo R Afu (Ak (Bn (csr (sv R (lo Yb R R R) ?_))))))
 obtain ⟨v1,hv1,h⟩:=Ae h
 refine A8 R Auh (Aa R Af) (An R) (Lg hv1) (sv R (B1 R) (Ak (ccI h R (fun h=>?_) (fun h=>?_))))
 ·refine csr (ld Yb R R R R (sst Ahp R R R R R (Ak (Bs (Ag ?_)))))
  obtain rfl:=SJ h
  exact dnA R Yb R (.lp _ _ _ R) (Nbl R) R R
 ·refine Bf (Ab (csr (fl Ro ti3 R R R R R R (sv R (A3 Afu Ara (Av R Ay) (.cons _ _ _ _ _ _ _ R R (Nbl R) (.nil _))) (Bo R Afu (sst Ahp R R R R R (Ak (Bn (csr (fl Qt Ajr R R R R R R (sv R (Au Ap3 R) (rm 1 R (Ak ?_)))))))))))))
  refine Yc 56 1 2 0 (by decide) R R ?_
  refine Yc 134 1 2 1 (by decide) R R ?_
  refine cj ((List (List UInt8)) × (List Al)) (fun b2=>[(4,.s (.one (.lp 1 0))),(5,.s (.one (.lp 2 0)))]) (fun b2=>[.box (EL.el a0),.box [Znl,Znl,Ii6 0],.box [.ls 3 b2.1.length,.ls 4 b2.2.length,Ii6 a0.Ts],.arr 56 1 0 (b2.1.flatMap (eL eU8)),.arr 134 1 0 (b2.2.flatMap As)]) (fun b2=>M9 a0 b2=some r) (fun _=>R) (fun b2 h=>?_) ?_
  ·unfold M9 at h
   refine csr (ld Yb R R R R (sst Ahp R R R R R (Ak (Bs ?_))))
   obtain rfl:=SJ h
   refine ⟨Or.inr R,_,_,_,(Ad (ra Yb R R R) Aj),(by (repeat' first | exact H6.nil _ | apply H6.cons | apply Hy.one | apply Hy.agg | exact C7.nil | exact C7.ls _ _ _ _ _ _ R (Aw (f:=(eL eU8)) (fun _=>R) _).symm | exact C7.ls _ _ _ _ _ _ R (Aw (f:=As) (fun _=>R) _).symm | exact C7.id _ R | exact Cs.nil _ | apply Cs.cons)),?_⟩
   rfl
  ·skip
   refine Bq ?_
   obtain ⟨x3,hx3,ho3⟩:=Ae h
   refine lpo (G:=Nat × (Int × (List (List UInt8)) × (List Al))) (fun g=>[(1,.s (.one (Ii6 a1))),(2,.s (.one (.lp 0 0))),(4,.s (.one (.lp 1 0))),(5,.s (.one (.lp 2 0))),(17,.s (.one (.sl a0.Chains.length (a0.Chains.flatMap As)))),(18,.s (.one (Ii6 (a0.Chains.length:Int)))),(19,.s (.one (Ii6 g.2.1)))]) (fun g=>[.box (EL.el a0),.box [Znl,Znl,Ii6 0],.box [.ls 3 g.2.2.1.length,.ls 4 g.2.2.2.length,Ii6 a0.Ts],.arr 56 1 0 (g.2.2.1.flatMap (eL eU8)),.arr 134 1 0 (g.2.2.2.flatMap As)]) (fun g=>Cw (G0 a0 a1) g.1 g.2=some x3) (fun g=>g.1) (fuel,(0,([]:List (List UInt8)),([]:List Al))) hx3 ⟨R,R,R,R,R,R,R,trivial⟩ [] R (fun _=>R) ?_
   clear hx3 h
   rintro ⟨n3,s3⟩ h
   obtain ⟨n3,y3,rfl,h,hk3⟩:=Cy h
   unfold G0 at h
   refine csr (sv R (Bt R R) (Ak (Bn (ccI h R (fun h=>?_) (fun h=>?_)))))
   ·refine Bf (Ab (Bn (Bq (csr (sv R (A4 R) ?_)))))
    obtain ⟨u4,hu4,h⟩:=Ae h
    refine sv R (Cb (f:=As) Ap3 (fun _=>R) R R R R hu4) ?_
    refine sv R (Bz (ys:=[.sl u4.L.length (u4.L.flatMap A7)]) O0 R (.cp _) R R) (Bo R Yq (rm 1 R (sst Yr R R R R R (Ak (csr (ld O0 R R R R (rm 1 R (fl Ro ti3 R R R R R R (sv R (Ahm R R) ?_)))))))))
    obtain ⟨v5,hv5,h⟩:=Ae h
    refine A8 R Axs (Aa R (Aa R Af)) (An R) (Vx hv5) (Bo R Yq (sst Yr R R R R R (Ak (csr (fl Tp Aaq R R R R R R (sv R (Au Wu R) (sv R (C9 R R) (Ak (ccI h R (fun h=>?_) (fun h=>?_))))))))))
    ·refine Bn ?_
     obtain ⟨u6,hu6,h⟩:=Ae h
     obtain ⟨hb7,h⟩:=Cr h
     refine Ku [8,10] [0,1,0,4,0,28,60,124,255,511,1023] [[.box (EL.el a0),.box [Znl,Znl,Ii6 0],.box [.ls 3 s3.2.1.length,.ls 4 s3.2.2.length,Ii6 a0.Ts],.arr 56 1 0 (s3.2.1.flatMap (eL eU8)),.arr 134 1 0 (s3.2.2.flatMap As),.box [.sl u4.L.length (u4.L.flatMap A7)],.box [.sl v5.L.length (v5.L.flatMap A7)]],[.box (EL.el a0),.box [Znl,Znl,Ii6 0],.box [.ls 3 s3.2.1.length,.ls 4 s3.2.2.length,Ii6 a0.Ts],.arr 56 1 0 ((s3.2.1++([u6]:List (List UInt8))).flatMap (eL eU8)),.arr 134 1 0 (s3.2.2.flatMap As),.box [.sl u4.L.length (u4.L.flatMap A7)],.box [.sl v5.L.length (v5.L.flatMap A7)]],[.box (EL.el a0),.box [Znl,Znl,Ii6 0],.box [.ls 3 (s3.2.1++([u6]:List (List UInt8))).length,.ls 4 s3.2.2.length,Ii6 a0.Ts],.arr 56 1 0 ((s3.2.1++([u6]:List (List UInt8))).flatMap (eL eU8)),.arr 134 1 0 (s3.2.2.flatMap As),.box [.sl u4.L.length (u4.L.flatMap A7)],.box [.sl v5.L.length (v5.L.flatMap A7)]]] (by kernel_rfl) mixed (by kernel_rfl) (by decide) R R R R ?_
     refine ev (A9 0 R R) R R (Ac Q8 R) (ev (A9 0 R R) R R (l1 Ac0 R R R) (ev (A9 0 R R) R R (Ac Q8 R) (ev (A9 0 R R) R R (l1 Ac0 R R R) (ev (A9 0 R R) R R (A4 R) (ev (A9 0 R R) R R (Cb (f:=(eL eU8)) S6 (fun _=>R) R R R R hu6) ?_)))))
     refine ev (A9 0 R R) R R (B6 N2 R (.cp _) R) ?_
     refine ed (A9 0 R R) R R (Zl (out:=([u6]:List (List UInt8)).flatMap (eL eU8)) Tryz.underlying25 Afq (Av R Ay) (.cons _ _ _ _ _ _ _ R R (Nbl R) (.nil _)) R (by decide)) ?_
     refine ee (x:=.s (.one (.ls 3 (s3.2.1++([u6]:List (List UInt8))).length))) 0 R R R R R (fun ζ=>?_) ?_
     ·refine Ub (f:=(eL eU8)) (xs:=s3.2.1) (us:=([u6]:List (List UInt8))) R Tryz.underlying25 Afq Asb (fun _=>R) R R (.one _ _ _ _ (.id _ R)) R R R (.sl _ _ _ (Aw (f:=(eL eU8)) (fun _=>R) _)) R R hb7 (by decide) ?_
      exact Rk
     refine ev (A9 1 R R) R R (Ac Q8 R) (ee0 1 R R R R (fun ζ=>?_) ?_)
     ·refine sst Ay6 R R R R R (Pq [.box (EL.el a0),.box [Znl,Znl,Ii6 0],.box [.ls 3 (s3.2.1++([u6]:List (List UInt8))).length,.ls 4 s3.2.2.length,Ii6 a0.Ts],.arr 56 1 0 ((s3.2.1++([u6]:List (List UInt8))).flatMap (eL eU8)),.arr 134 1 0 (s3.2.2.flatMap As),.box [.sl u4.L.length (u4.L.flatMap A7)],.box [.sl v5.L.length (v5.L.flatMap A7)]] R ?_)
      exact Rk
     refine Abf (Ab (Ap (fl Qt Ajr R R R R R R (sv R (lo O0 R R R) ?_))))
     refine Fo R Tryz.underlying26 Ag8 R R (zJ.1 R) (by decide) ?_
     refine Pq [.box (EL.el a0),.box [Znl,Znl,Ii6 0],.box [.ls 3 (s3.2.1++([u6]:List (List UInt8))).length,.ls 4 s3.2.2.length,Ii6 a0.Ts],.arr 56 1 0 ((s3.2.1++([u6]:List (List UInt8))).flatMap (eL eU8)),.arr 134 1 0 (s3.2.2.flatMap As),.box [.sl u4.L.length (u4.L.flatMap A7)],.box [.sl v5.L.length (v5.L.flatMap A7)],.arr 134 1 0 ([v5].flatMap As)] R ?_
     obtain ⟨hb8,h⟩:=Cr h
     refine Ub (f:=As) (xs:=s3.2.2) (us:=[v5]) R Tryz.underlying26 Ag8 Ayy (fun _=>R) R R (.one _ _ _ _ (.ls _ _ _ _ _ _ R (Aw (f:=As) (fun _=>R) [v5]).symm)) R R R (.sl _ _ _ (Aw (f:=As) (fun _=>R) _)) R R hb8 (by decide) ?_
     refine sv R (Ac Qt R) (sst Azq R R R R R (Ki (Ao (Ab (Ap (sv R (Bm R R) (rm 1 R (Ak ?_))))))))
     obtain rfl:=SJ h
     exact ⟨(n3,((wI (s3.1+1)),(s3.2.1++([u6]:List (List UInt8))),(s3.2.2++[v5]))),_,hk3,⟨R,R,R,R,R,R,R,trivial⟩,R,zH _⟩
    ·refine Bf (Ao (Ab (Ap (sv R (Bm R R) (rm 1 R (Ak ?_))))))
     obtain rfl:=SJ h
     exact ⟨(n3,((wI (s3.1+1)),s3.2.1,s3.2.2)),_,hk3,⟨R,R,R,R,R,R,R,trivial⟩,R,zH _⟩
   ·refine Dd (Ar (Ar (Bj (Ab ?_))))
    obtain rfl:=SJ h
    obtain rfl:_=x3:=hk3
    exact ⟨(s3.2.1,s3.2.2),_,ho3,⟨R,R,trivial⟩,R⟩
def Nm (a0:Ah) (a1:Bc) (a2:Int):Option (Ah × Int) :=
 if (decide (1099511627776<a2)) then (some (E2,11)) else ((Md a1.Buf).bind fun v1=>(Dp a0.Cert a1.ID a2 v1).bind fun v2=>if (!decide (v2.2=0)) then (some (E2,v2.2)) else ((Gp a0.Toks a1.Token a1.Attempt a2).bind fun v3=>if (!decide (v3.2=0)) then (some (E2,v3.2)) else ((D4 a0.Store a2 a1.Buf.L).bind fun v4=>if (!decide (v4.2=0)) then (some (E2,v4.2)) else ((Ko a0 a1.ID).bind fun v5=>(Jm v2.1).bind fun v6=>(Ka v6 a2).bind fun v7=>(Kv v4.1 v7).bind fun v8=>some ((Ah.mk v8 v6 v3.1 v5.Open v5.Next),0)))))
theorem Yi {a0:Ah} {a1:Bc} {a2:Int} {r:Ah × Int} (h:Nm a0 a1 a2=some r):Br Tryz.prog 68 [.agg (EL.el a0),.agg (EL.el a1),.one (Ii6 a2)] (·=.tup [.agg (EL.el r.1),.one (Ii6 r.2)]):=by
 unfold Nm at h
 refine A2 Tryz.func68 R (nt:=78) R (Nbl R) ?_
 intro w0 S0
 refine csr (F2 R R (F2 R R (Bo R Qs (rm 1 R (Ak (Bn (csr (rm 1 R (sv R (C9 R R) (Ak (ccI h R (fun h=>?_) (fun h=>?_))))))))))))
 ·refine csr (sv R (A3 Qs Ak3 Ay (.nil _)) (sst Iq R R R R R (rm 1 R (Ak (Bs (Ag ?_))))))
  obtain rfl:=SJ h
  exact dn (Ad (ra De R R R) (Ad (rt R) Aj)) (I8 R) R
 ·refine Bf (Ab (Bn (Ym ?_)))
  obtain ⟨v1,hv1,h⟩:=Ae h
  obtain ⟨v2,hv2,h⟩:=Ae h
  refine Ku [12,13] [0,1,0,4,0,0,32,96,255,511,1023,1023,0,6143,16383] [[.box (EL.el a0),.box (EL.el a1),.box Zba,.hole],[.box (EL.el a0),.box (EL.el a1),.box Zba,.box [Znl,Znl]],[.box (EL.el a0),.box (EL.el a1),.box Zba,.box (EL.el v2.1)]] (by kernel_rfl) mixed (by kernel_rfl) (by decide) R R R R ?_
  refine evs (md:=[.box (EL.el a0),.box (EL.el a1),.box Zba,.dead]) (fun hS=>ev (B9 hS) R R (Ac Sy R) (ev (B9 hS) R R (lo Qq R R R) (ev (B9 hS) R R (Ac Ry R) (ev (B9 hS) R R (l1 ti3 R R R) (emv R R (fun _=>A4 R) ?_))))) ⟨⟨R,⟨R,⟨R,⟨trivial,trivial⟩⟩⟩⟩,⟨⟨R,⟨R,⟨R,⟨trivial,trivial⟩⟩⟩⟩,⟨⟨R,⟨R,⟨R,⟨trivial,trivial⟩⟩⟩⟩,trivial⟩⟩⟩
  refine evs (md:=[.box (EL.el a0),.box (EL.el a1),.box Zba,.dead]) (fun hS=>ev (B9 hS) R R (Ac Ye R) (ev (B9 hS) R R (lo Ag2 R R R) (ed (B9 hS) R R (Db Aw8 (Aa R Af) R (Xp hv1)) (ed (B9 hS) R R (Db Axp (Aa R (Aa R (Aa R (Aa R Af)))) R (Xh hv2)) (emv R R (fun _=>Cc R) ?_))))) ⟨⟨R,⟨R,⟨R,⟨trivial,trivial⟩⟩⟩⟩,⟨⟨R,⟨R,⟨R,⟨trivial,trivial⟩⟩⟩⟩,⟨⟨R,⟨R,⟨R,⟨trivial,trivial⟩⟩⟩⟩,trivial⟩⟩⟩
  refine evs (md:=[.box (EL.el a0),.box (EL.el a1),.box Zba,.dead]) (fun hS=>ev (B9 hS) R R (Ai R R) (ev (B9 hS) R R (Ai R R) (ee (x:=.s (.one (.lp 3 0))) 0 R R R R R (fun ζ=>?_) ?_))) ⟨⟨R,⟨R,⟨R,⟨trivial,trivial⟩⟩⟩⟩,⟨⟨R,⟨R,⟨R,⟨trivial,trivial⟩⟩⟩⟩,⟨⟨R,⟨R,⟨R,⟨trivial,trivial⟩⟩⟩⟩,trivial⟩⟩⟩
  ·refine Ix 3 R Wy R ?_
   exact Rk
  refine ee0 1 R R R R (fun ζ=>?_) ?_
  ·refine sst Xw R R R R R (Pq [.box (EL.el a0),.box (EL.el a1),.box Zba,.box (EL.el v2.1)] R ?_)
   exact Rk
  refine ev (A9 2 R R) R R (Lh R) (Abf (Ab (Bn (csr (rm 1 R (sv R (C6 R R) (Ak (ccI h R (fun h=>?_) (fun h=>?_)))))))))
  ·refine csr (sv R (A3 Qs Ak3 Ay (.nil _)) (rm 1 R (sst Iq R R R R R (rm 1 R (Ak (Bs (Ag ?_)))))))
   obtain rfl:=SJ h
   exact dn (Ad (ra De R R R) (Ad (rt R) Aj)) (I8 R) R
  ·refine Bf (Ab (csr (sv R (Ac Ty R) (ld Oj R R R R (fl Afd ti3 R R R R R R (fl Aip ti3 R R R R R R (sv R (A4 R) ?_)))))))
   obtain ⟨v3,hv3,h⟩:=Ae h
   refine A8 R Aze (Aa R (Aa R (Aa R (Aa R Af)))) (An R) (Uy hv3) (sv R (Cc R) (sv R (Ai R R) (sv R (Ai R R) (Bo R V2 (sst S9 R R R R R (rm 1 R (Ak (Bn (csr (rm 1 R (sv R (C6 R R) (Ak (ccI h R (fun h=>?_) (fun h=>?_))))))))))))))
   ·refine csr (sv R (A3 Qs Ak3 Ay (.nil _)) (rm 1 R (sst Iq R R R R R (rm 1 R (Ak (Bs (Ag ?_)))))))
    obtain rfl:=SJ h
    exact dn (Ad (ra De R R R) (Ad (rt R) Aj)) (I8 R) R
   ·refine Bf (Ab (csr (sv R (Ac Sz R) (ld Yb R R R R (rm 1 R (sv R (Ac Ye R) (sv R (Ac Wo R) (sv R (l1 Ao4 R R R) ?_))))))))
    obtain ⟨v4,hv4,h⟩:=Ae h
    refine A8 R Aw6 (Aa R (Aa R (Aa R Af))) (An R) (Up hv4) (sv R (Cc R) (sv R (Ai R R) (sv R (Ai R R) (Bo R Afu (sst Ahp R R R R R (rm 1 R (Ak (Bn (csr (rm 1 R (sv R (C6 R R) (Ak (ccI h R (fun h=>?_) (fun h=>?_))))))))))))))
    ·refine csr (sv R (A3 Qs Ak3 Ay (.nil _)) (rm 1 R (sst Iq R R R R R (rm 1 R (Ak (Bs (Ag ?_)))))))
     obtain rfl:=SJ h
     exact dn (Ad (ra De R R R) (Ad (rt R) Aj)) (I8 R) R
    ·refine Bf (Ab (csr (ld De R R R R (sv R (Ac Ry R) (sv R (l1 ti3 R R R) ?_)))))
     obtain ⟨v5,hv5,h⟩:=Ae h
     refine A8 R Auv (Aa R (Aa R Af)) (An R) (R6 hv5) (Bo R Qs (sst Iq R R R R R (Ak (csr (ld Oj R R R R (sv R (Ac Ty R) (sst S9 R R R R R (Ak (csr (sv R (lo Qq R R R) ?_))))))))))
     obtain ⟨v6,hv6,h⟩:=Ae h
     refine A8 R Ayb (Aa R Af) (An R) (Ys hv6) (sv R (Ac Sy R) (sst Xw R R R R R (Ak (Bn ?_))))
     obtain ⟨v7,hv7,h⟩:=Ae h
     obtain ⟨v8,hv8,h⟩:=Ae h
     refine Ku [7] [0,0,2,0,14,31,63,127] [[.box (EL.el a0),.box (EL.el a1),.box Zba,.box (EL.el v2.1),.box [.sl v3.1.L.length (v3.1.L.flatMap Am)],.box (EL.el v4.1),.box (EL.el {v5 with Cert:=v6,Toks:=v3.1})],[.box (EL.el a0),.box (EL.el a1),.box Zba,.box (EL.el v2.1),.box [.sl v3.1.L.length (v3.1.L.flatMap Am)],.box (EL.el v4.1),.box [.sl v8.Keys.length (v8.Keys.flatMap (eL eU8)),.sl v8.Chains.length (v8.Chains.flatMap As),Ii6 v8.Ts,.sl v6.Txs.length (v6.Txs.flatMap Bb),.sl v6.Reads.L.length (v6.Reads.L.flatMap Aq),.sl v3.1.L.length (v3.1.L.flatMap Am),.sl v5.Open.length (v5.Open.flatMap Bl),Ii6 v5.Next]]] (by kernel_rfl) mixed (by kernel_rfl) (by decide) R R R R ?_
     refine ev (A9 0 R R) R R (lo Yb R R R) (ev (A9 0 R R) R R (Ac Sy R) (ev (A9 0 R R) R R (lo Qq R R R) (ev (A9 0 R R) R R (A4 R) (ed (A9 0 R R) R R (Db Avd (Aa R (Aa R Af)) R (R9 hv7)) (ed (A9 0 R R) R R (Db Axo (Aa R (Aa R Af)) R (Vq hv8)) (ev (A9 0 R R) R R (Ac Sz R) (ee0 0 R R R R (fun ζ=>?_) ?_)))))))
     ·refine sst Ahp R R R R R (Pq [.box (EL.el a0),.box (EL.el a1),.box Zba,.box (EL.el v2.1),.box [.sl v3.1.L.length (v3.1.L.flatMap Am)],.box (EL.el v4.1),.box [.sl v8.Keys.length (v8.Keys.flatMap (eL eU8)),.sl v8.Chains.length (v8.Chains.flatMap As),Ii6 v8.Ts,.sl v6.Txs.length (v6.Txs.flatMap Bb),.sl v6.Reads.L.length (v6.Reads.L.flatMap Aq),.sl v3.1.L.length (v3.1.L.flatMap Am),.sl v5.Open.length (v5.Open.flatMap Bl),Ii6 v5.Next]] R ?_)
      exact Rk
     refine Abf (Ab (csr (ld De R R R R (sst Iq R R R R R (rm 1 R (Ak (Bs ?_)))))))
     obtain rfl:=SJ h
     exact dn (Ad (ra De R R R) (Ad (rt R) Aj)) (An R) R
def Jk (a0:Ah) (a1:Int):Option (Ah × Int × Int) :=
 (Fc a0 a1).bind fun v1=>if (!decide (v1.2=0)) then ((Dq a0 v1.2).bind fun v2=>some (v2,0,v1.2)) else ((Nm a0 v1.1 (wI (a0.Store.Ts+1))).bind fun v3=>if (!decide (v3.2=0)) then ((Cx a0 v1.1).bind fun v4=>some (v4,0,v3.2)) else (some (v3.1,(wI (a0.Store.Ts+1)),0)))
theorem P1 {a0:Ah} {a1:Int} {r:Ah × Int × Int} (h:Jk a0 a1=some r):Br Tryz.prog 27 [.agg (EL.el a0),.one (Ii6 a1)] (·=.tup [.agg (EL.el r.1),.one (Ii6 r.2.1),.one (Ii6 r.2.2)]):=by
 unfold Jk at h
 refine A2 Tryz.func27 R (nt:=42) R (Nbl R) ?_
 intro w0 S0
 refine csr (F2 R R (Bo R Qs (rm 2 R (Ak (csr (ld De R R R R (sv R (A4 R) ?_)))))))
 obtain ⟨v1,hv1,h⟩:=Ae h
 refine A8 R At5 (Aa R (Aa R Af)) (An R) (Ll hv1) (sv R (Cc R) (sv R (Ai R R) (sv R (Ai R R) (Bo R Aag (sst Aah R R R R R (rm 1 R (Ak (Bn (csr (rm 1 R (sv R (C6 R R) (Ak (ccI h R (fun h=>?_) (fun h=>?_))))))))))))))
 ·refine csr (ld De R R R R (sv R (A4 R) ?_))
  obtain ⟨v2,hv2,h⟩:=Ae h
  refine A8 R Atw (Aa R (Aa R Af)) (An R) (Jp hv2) (rm 1 R (sst Iq R R R R R (rm 2 R (Ak (Bs (Ag ?_))))))
  obtain rfl:=SJ h
  exact dn (Ad (ra De R R R) (Ad (rt R) (Ad (rt R) Aj))) (An R) R
 ·refine Bf (Ab (csr (sv R (Ac Sz R) (fl Ro ti3 R R R R R R (sv R (Bm R R) (rm 1 R (Ak (csr (ld De R R R R (ld Wc R R R R (sv R (A4 R) ?_)))))))))))
  obtain ⟨v3,hv3,h⟩:=Ae h
  refine A8 R A0h (Aa R (Aa R (Aa R Af))) (An R) (Yi hv3) (sv R (Cc R) (sv R (Ai R R) (sv R (Ai R R) (Bo R Qs (sst Iq R R R R R (rm 1 R (Ak (Bn (csr (rm 1 R (sv R (C6 R R) (Ak (ccI h R (fun h=>?_) (fun h=>?_))))))))))))))
  ·refine csr (ld De R R R R (sv R (lo Wc R R R) ?_))
   obtain ⟨v4,hv4,h⟩:=Ae h
   refine A8 R Atz (Aa R (Aa R Af)) (An R) (Ib hv4) (rm 1 R (sst Iq R R R R R (rm 2 R (Ak (Bs (Ag ?_))))))
   obtain rfl:=SJ h
   exact dn (Ad (ra De R R R) (Ad (rt R) (Ad (rt R) Aj))) (An R) R
  ·refine Bf (Ab (csr (ld De R R R R (rm 1 R (sst Iq R R R R R (rm 2 R (Ak (Bs ?_))))))))
   obtain rfl:=SJ h
   exact dn (Ad (ra De R R R) (Ad (rt R) (Ad (rt R) Aj))) (An R) R
def Q3  : Option Bool :=
 (Iu E2 1 1 false).bind fun v1=>(Iu v1.1 2 1 false).bind fun v2=>(Hs v2.1 v1.2.1 [(UInt8.ofBitVec (120#8))]).bind fun v3=>(Hs v3.1 v2.2.1 [(UInt8.ofBitVec (121#8))]).bind fun v4=>(Nw v4.1 v1.2.1 (A6.mk [(UInt8.ofBitVec (121#8))] ([]:List UInt8) false)).bind fun v5=>(Nw v5.1 v2.2.1 (A6.mk [(UInt8.ofBitVec (120#8))] ([]:List UInt8) false)).bind fun v6=>(Jk v6.1 v1.2.1).bind fun v7=>(Jk v7.1 v2.2.1).bind fun v8=>if (decide (v1.2.2=0)) then (if (decide (v2.2.2=0)) then (if (!v3.2.2.1) then (if (decide (v7.2.2=0)) then (if (decide (v7.2.1=1)) then (if (decide (v8.2.2=10)) then (if (decide ((v8.1.Open.length:Int)=0)) then ((Il v8.1).bind fun v9=>some v9) else (some false)) else (some false)) else (some false)) else (some false)) else (some false)) else (some false)) else (some false)
theorem Aas  {r:Bool} (h:Q3=some r):Br Tryz.prog 9 [] (·=.s (.one (.b r))):=by
 unfold Q3 at h
 refine A2 Tryz.func9 R (nt:=109) R (Nbl R) ?_
 intro w0 S0
 refine csr (rm 1 R (Ak (csr (sv R (A3 Qs Ak3 Ay (.nil _)) ?_))))
 obtain ⟨v1,hv1,h⟩:=Ae h
 refine A8 R Awv (Aa R (Aa R (Aa R (Aa R Af)))) (I8 R) (Ow hv1) (sv R (Cc R) (sv R (Ai R R) (sv R (Ai R R) (sv R (Ai R R) (Bo R Qs (sst Iq R R R R R (rm 2 R (Ak (csr (sv R (lo De R R R) ?_))))))))))
 obtain ⟨v2,hv2,h⟩:=Ae h
 refine A8 R Awv (Aa R (Aa R (Aa R (Aa R Af)))) (An R) (Ow hv2) (sv R (Cc R) (sv R (Ai R R) (sv R (Ai R R) (sv R (Ai R R) (sst Iq R R R R R (rm 2 R (Ak (csr (ld De R R R R (sv R (A4 R) ?_))))))))))
 refine Fo R Tryz.underlying56 ei5 R R (zJ.1 R) (by decide) ?_
 refine Pq [.box (EL.el v2.1),.arr 5 1 0 ([(UInt8.ofBitVec (120#8))].flatMap eU8)] R ?_
 refine Y2 R Tryz.underlying56 Tryz.underlying5 R R (Aw (f:=eU8) (fun _=>R) [(UInt8.ofBitVec (120#8))]).symm (by decide) ?_
 obtain ⟨v3,hv3,h⟩:=Ae h
 refine A8 R Auo (Aa R (Aa R (Aa R Af))) (An R) (Oc hv3) (sv R (Cc R) (sv R (Ai R R) (sv R (Ai R R) (sv R (Ai R R) (sv R (Ai R R) (sst Iq R R R R R (rm 3 R (Ak (csr (ld De R R R R (sv R (A4 R) ?_)))))))))))
 refine Fo R Tryz.underlying56 ei5 R R (zJ.1 R) (by decide) ?_
 refine Pq [.box (EL.el v3.1),.dead,.arr 5 1 0 ([(UInt8.ofBitVec (121#8))].flatMap eU8)] R ?_
 refine Y2 R Tryz.underlying56 Tryz.underlying5 R R (Aw (f:=eU8) (fun _=>R) [(UInt8.ofBitVec (121#8))]).symm (by decide) ?_
 obtain ⟨v4,hv4,h⟩:=Ae h
 refine A8 R Auo (Aa R (Aa R (Aa R Af))) (An R) (Oc hv4) (sv R (Cc R) (sv R (Ai R R) (sv R (Ai R R) (sv R (Ai R R) (sv R (Ai R R) (sst Iq R R R R R (Ak (csr (ld De R R R R (sv R (A4 R) ?_))))))))))
 refine Fo R Tryz.underlying56 ei5 R R (zJ.1 R) (by decide) ?_
 refine Pq [.box (EL.el v4.1),.dead,.dead,.arr 5 1 0 ([(UInt8.ofBitVec (121#8))].flatMap eU8)] R ?_
 refine Y2 R Tryz.underlying56 Tryz.underlying5 R R (Aw (f:=eU8) (fun _=>R) [(UInt8.ofBitVec (121#8))]).symm (by decide) ?_
 refine sv R (A3 Aj9 Aww (Av R Ay) (.cons _ _ _ _ _ _ _ R R (Nbl R) (.nil _))) ?_
 obtain ⟨v5,hv5,h⟩:=Ae h
 refine A8 R Ays (Aa R (Aa R (Aa R Af))) (I8 R) (Sr hv5) (sv R (Cc R) (sv R (Ai R R) (sv R (Ai R R) (sst Iq R R R R R (Ak (csr (ld De R R R R (sv R (A4 R) ?_))))))))
 refine Fo R Tryz.underlying56 ei5 R R (zJ.1 R) (by decide) ?_
 refine Pq [.box (EL.el v5.1),.dead,.dead,.dead,.arr 5 1 0 ([(UInt8.ofBitVec (120#8))].flatMap eU8)] R ?_
 refine Y2 R Tryz.underlying56 Tryz.underlying5 R R (Aw (f:=eU8) (fun _=>R) [(UInt8.ofBitVec (120#8))]).symm (by decide) ?_
 refine sv R (A3 Aj9 Aww (Av R Ay) (.cons _ _ _ _ _ _ _ R R (Nbl R) (.nil _))) ?_
 obtain ⟨v6,hv6,h⟩:=Ae h
 refine A8 R Ays (Aa R (Aa R (Aa R Af))) (I8 R) (Sr hv6) (sv R (Cc R) (sv R (Ai R R) (sv R (Ai R R) (sst Iq R R R R R (Ak (csr (ld De R R R R (sv R (A4 R) ?_))))))))
 obtain ⟨v7,hv7,h⟩:=Ae h
 refine A8 R Ay0 (Aa R (Aa R Af)) (An R) (P1 hv7) (sv R (Cc R) (sv R (Ai R R) (sv R (Ai R R) (sv R (Ai R R) (sst Iq R R R R R (rm 2 R (Ak (csr (ld De R R R R (sv R (A4 R) ?_))))))))))
 obtain ⟨v8,hv8,h⟩:=Ae h
 refine A8 R Ay0 (Aa R (Aa R Af)) (An R) (P1 hv8) (sv R (Cc R) (sv R (Ai R R) (sv R (Ai R R) (sv R (Ai R R) (sst Iq R R R R R (rm 2 R (Ak (csr (rm 1 R (sv R (B0 R R) (rm 1 R (ssI 79 h R (fun h=>?_) (fun h=>?_)))))))))))))
 ·refine rm 1 R (son R R R (sv R (B0 R R) (rm 2 R (ssI 83 h R (fun h=>?_) (fun h=>?_)))))
  ·refine rm 1 R (son R R R (sv R (B1 R) (rm 2 R (ssI 87 h R (fun h=>?_) (fun h=>?_)))))
   ·refine rm 1 R (son R R R (sv R (B0 R R) (rm 2 R (ssI 91 h R (fun h=>?_) (fun h=>?_)))))
    ·refine rm 1 R (son R R R (sv R (B0 R R) (rm 2 R (ssI 95 h R (fun h=>?_) (fun h=>?_)))))
     ·refine rm 1 R (son R R R (sv R (B0 R R) (rm 2 R (ssI 99 h R (fun h=>?_) (fun h=>?_)))))
      ·refine son R R R (sv R (Ac Rc R) (son R R R (sv R (l1 Ail R R R) (son R R R (sv R (Au Y4 R) (son R R R (sv R (B0 R R) (rm 2 R (ssI 105 h R (fun h=>?_) (fun h=>?_))))))))))
       ·refine son R R R (ld De R R R R (son R R R ?_))
        obtain ⟨v9,hv9,h⟩:=Ae h
        refine A8 R Aub (Aa R Af) (An R) (Nk hv9) (rm 2 R (Ak (Bs ?_)))
        obtain rfl:=SJ h
        exact dnT R R R R
       ·refine rm 4 R (Ak (Bs ?_))
        obtain rfl:=SJ h
        exact dnT R R R R
      ·refine rm 10 R (Ak (Bs ?_))
       obtain rfl:=SJ h
       exact dnT R R R R
     ·refine rm 14 R (Ak (Bs ?_))
      obtain rfl:=SJ h
      exact dnT R R R R
    ·refine rm 18 R (Ak (Bs ?_))
     obtain rfl:=SJ h
     exact dnT R R R R
   ·refine rm 22 R (Ak (Bs ?_))
    obtain rfl:=SJ h
    exact dnT R R R R
  ·refine rm 26 R (Ak (Bs ?_))
   obtain rfl:=SJ h
   exact dnT R R R R
 ·refine rm 30 R (Ak (Bs ?_))
  obtain rfl:=SJ h
  exact dnT R R R R
def Oh (a0:Bg):Option Bool :=
 if (decide ((a0.Lo.length:Int)≤100)) then (some (decide ((a0.Hi.length:Int)≤100))) else (some false)
theorem Zd {a0:Bg} {r:Bool} (h:Oh a0=some r):Br Tryz.prog 29 [.agg (EL.el a0)] (·=.s (.one (.b r))):=by
 unfold Oh at h
 refine A2 Tryz.func29 R (nt:=13) R (Nbl R) ?_
 intro w0 S0
 refine csr (F2 R R (rm 1 R (Ak (csr (fl Aa7 N2 R R R R R R (sv R (Au Xb R) (sv R (Dl R R) (rm 1 R (ssI 7 h R (fun h=>?_) (fun h=>?_))))))))))
 ·refine son R R R (sv R (Ac Ya R) (son R R R (sv R (l1 N2 R R R) (son R R R (sv R (Au Xb R) (son R R R (sv R (Dl R R) (rm 2 R (Ak (Bs ?_))))))))))
  obtain rfl:=SJ h
  exact dnT R R R R
 ·refine rm 6 R (Ak (Bs ?_))
  obtain rfl:=SJ h
  exact dnT R R R R
def Py (b1:Unit):Option Bool :=
 some true
def Ld (a0:List Cv) (s2:Int):Option (LR (Int) (Unit) (Bool)) :=
 if (decide (s2<(a0.length:Int))) then ((idx a0 s2).bind fun u3=>(Oh u3.Rng).bind fun v4=>if (!v4) then (some (.ret false)) else ((idx a0 s2).bind fun u5=>if (decide (50<(u5.Key.length:Int))) then (some (.ret false)) else ((idx a0 s2).bind fun u6=>if (decide (100<(u6.Val.length:Int))) then (some (.ret false)) else (some (.cont (wI (s2+1))))))) else (some (.brk ()))
def M6 (a0:List Cv):Option Bool :=
 if (decide (80<(a0.length:Int))) then (some false) else ((Lj (Ld a0) fuel 0).bind fun x=>match x with | .inl r=>some r | .inr e7=>Py e7)
theorem T6 {a0:List Cv} {r:Bool} (h:M6 a0=some r):Br Tryz.prog 10 [.one (.sl a0.length (a0.flatMap Ch))] (·=.s (.one (.b r))):=by
 unfold M6 at h
 refine A2 Tryz.func10 R (nt:=38) R (Nbl R) ?_
 intro w0 S0
 refine csr (rm 1 R (Ak (Bn (csr (rm 1 R (sv R (Au Aa1 R) (sv R (C9 R R) (Ak (ccI h R (fun h=>?_) (fun h=>?_))))))))))
 ·refine csr (rm 1 R (Ak (Bs (Ag ?_))))
  obtain rfl:=SJ h
  exact dnT R R R R
 ·refine Bf (Ab (Bn (csr (rm 1 R (Ak (cj (Unit) (fun b1=>[]) (fun b1=>[]) (fun b1=>Py b1=some r) (fun _=>R) (fun b1 h=>?_) ?_))))))
  ·unfold Py at h
   refine csr (rm 1 R (Ak (Bs ?_)))
   obtain rfl:=SJ h
   exact dnT R R R R
  ·skip
   refine Bq ?_
   obtain ⟨x2,hx2,ho2⟩:=Ae h
   refine lpo (G:=Nat × (Int)) (fun g=>[(0,.s (.one (.sl a0.length (a0.flatMap Ch)))),(3,.s (.one (Ii6 g.2)))]) (fun g=>[]) (fun g=>Lj (Ld a0) g.1 g.2=some x2) (fun g=>g.1) (fuel,0) hx2 ⟨R,R,trivial⟩ [] R (fun _=>R) ?_
   clear hx2 h
   rintro ⟨n2,s2⟩ h
   obtain ⟨n2,y2,rfl,h,hk2⟩:=Fh h
   unfold Ld at h
   refine Bn (csr (rm 2 R (sv R (Au Aa1 R) (sv R (Bt R R) (Ak (ccI h R (fun h=>?_) (fun h=>?_)))))))
   ·refine Bf (Ab (Bn (Bq (csr (rm 1 R (sv R (A4 R) ?_))))))
    obtain ⟨u3,hu3,h⟩:=Ae h
    refine sv R (Cb (f:=Ch) Aa1 (fun _=>R) R R R R hu3) ?_
    refine sv R (Ce Aqn R) (sv R (Bz (ys:=[.sl u3.Rng.Lo.length (u3.Rng.Lo.flatMap eU8),.sl u3.Rng.Hi.length (u3.Rng.Hi.flatMap eU8),.b u3.Rng.Open]) Acz R (.cp _) R R) ?_)
    obtain ⟨v4,hv4,h⟩:=Ae h
    refine A8 R A0s (Aa R Af) (An R) (Zd hv4) (sv R (B1 R) (rm 1 R (ssI 20 h R (fun h=>?_) (fun h=>?_))))
    ·refine rm 17 R (Ak (Ck R (fun _=>?_) (fun hx=>Bool.noConfusion hx)))
     refine csr (rm 1 R (Ak (Bs (A0 (Ag (Ag (A0 (Ag ?_))))))))
     obtain rfl:=SJ h
     obtain rfl:Sum.inl _=x2:=hk2
     replace ho2:some _=some _:=ho2
     obtain rfl:=zD ho2
     exact dnT R R R R
    ·refine rm 2 R (son R R R ?_)
     obtain ⟨u5,hu5,h⟩:=Ae h
     refine sv R (Cb (f:=Ch) Aa1 (fun _=>R) R R R R hu5) ?_
     refine son R R R (sv R (Ce Anb R) (son R R R (sv R (B6 N2 R (.cp _) R) (son R R R (sv R (Au Xb R) (son R R R (sv R (C9 R R) (rm 2 R (ssI 29 h R (fun h=>?_) (fun h=>?_))))))))))
     ·refine rm 8 R (Ak (Ck R (fun _=>?_) (fun hx=>Bool.noConfusion hx)))
      refine csr (rm 1 R (Ak (Bs (A0 (Ag (Ag (A0 (Ag ?_))))))))
      obtain rfl:=SJ h
      obtain rfl:Sum.inl _=x2:=hk2
      replace ho2:some _=some _:=ho2
      obtain rfl:=zD ho2
      exact dnT R R R R
     ·refine rm 2 R (son R R R ?_)
      obtain ⟨u6,hu6,h⟩:=Ae h
      refine sv R (Cb (f:=Ch) Aa1 (fun _=>R) R R R R hu6) ?_
      refine son R R R (sv R (Ce Aqv R) (son R R R (sv R (B6 N2 R (.cp _) R) (son R R R (sv R (Au Xb R) (son R R R (sv R (C9 R R) (rm 1 R (Ak (ccI h R (fun h=>?_) (fun h=>?_)))))))))))
      ·refine csr (rm 1 R (Ak (Bs (A0 (Ag (Ag (A0 (Ag ?_))))))))
       obtain rfl:=SJ h
       obtain rfl:Sum.inl _=x2:=hk2
       replace ho2:some _=some _:=ho2
       obtain rfl:=zD ho2
       exact dnT R R R R
      ·refine Bf (Ao (Ab (Ap (rm 1 R (sv R (Bm R R) (rm 1 R (Ak ?_)))))))
       obtain rfl:=SJ h
       exact ⟨(n2,(wI (s2+1))),_,hk2,⟨R,R,trivial⟩,R,zH _⟩
   ·refine Dd (Ar (Ar (Bj (Ab ?_))))
    obtain rfl:=SJ h
    obtain rfl:_=x2:=hk2
    exact ⟨(),_,ho2,trivial,R⟩
def O8 (b2:(List B7)):Option (List B7) :=
 some b2
def Km (a0:Bw) (a1:Bg) (a2:Int) (a3:Int) (s3:Int × (List B7)):Option (LB (Int × (List B7)) ((List B7))) :=
 if (decide (s3.1<(a0.Keys.length:Int))) then ((idx a0.Keys s3.1).bind fun u4=>if (decide (a3≤(s3.2.length:Int))) then (some (.brk s3.2)) else ((G4 a1 u4).bind fun v5=>if (!v5) then (some (.cont ((wI (s3.1+1)),s3.2))) else ((idx a0.Chains s3.1).bind fun u6=>(E0 u6 a2).bind fun v7=>if v7.2 then (if (s3.2.length+[(B7.mk u4 v7.1)].length)*48≤140737488355328 then (some (.cont ((wI (s3.1+1)),(s3.2++[(B7.mk u4 v7.1)])))) else none) else (some (.cont ((wI (s3.1+1)),s3.2)))))) else (some (.brk s3.2))
def Lk (a0:Bw) (a1:Bg) (a2:Int) (a3:Int):Option (List B7) :=
 (Dc a0).bind fun v1=>if (!v1) then (some ([]:List B7)) else ((Cw (Km a0 a1 a2 a3) fuel (0,([]:List B7))).bind fun e9=>O8 e9)
theorem Yy {a0:Bw} {a1:Bg} {a2:Int} {a3:Int} {r:(List B7)} (h:Lk a0 a1 a2 a3=some r):Br Tryz.prog 54 [.agg (EL.el a0),.agg (EL.el a1),.one (Ii6 a2),.one (Ii6 a3)] (·=.s (.one (.sl r.length (r.flatMap Cg)))):=by
 unfold Lk at h
 refine A2 Tryz.func54 R (nt:=54) R (Nbl R) ?_
 intro w0 S0
 refine csr (F2 R R (F2 R R (rm 1 R (Ak ?_))))
 refine Ava (fun _ _ h=>by rcases h with ⟨h | h,_⟩ <;> cases h) ?_
 refine Bn (csr (sv R (lo Yb R R R) ?_))
 obtain ⟨v1,hv1,h⟩:=Ae h
 refine A8 R Auh (Aa R Af) (An R) (Lg hv1) (sv R (B1 R) (Ak (ccI h R (fun h=>?_) (fun h=>?_))))
 ·refine csr (rm 1 R (Ak (Bs (Ag ?_))))
  obtain rfl:=SJ h
  exact dn (Ad (rt R) Aj) (I8 R) R
 ·refine Bf (Ab (csr (rm 1 R (Ak (Bn (Aum (Ab (Bn (csr (fl Q8 Ac0 R R R R R R (sv R (Au S6 R) (rm 1 R (Ak ?_)))))))))))))
  refine Dh 157 2 9 (by decide) R ?_
  refine cj ((List B7)) (fun b2=>[(9,.s (.one (.ls 2 b2.length)))]) (fun b2=>[.box (EL.el a0),.box (EL.el a1),.arr 157 2 0 (b2.flatMap Cg)]) (fun b2=>O8 b2=some r) (fun _=>R) (fun b2 h=>?_) ?_
  ·unfold O8 at h
   refine csr (rm 2 R (Ak (Bs ?_)))
   obtain rfl:=SJ h
   refine ⟨Or.inr R,_,_,_,(Ad (rt R) Aj),(by (repeat' first | exact H6.nil _ | apply H6.cons | apply Hy.one | apply Hy.agg | exact C7.nil | exact C7.ls _ _ _ _ _ _ R (Aw (f:=Cg) (fun _=>R) _).symm | exact C7.id _ R | exact Cs.nil _ | apply Cs.cons)),?_⟩
   rfl
  ·skip
   refine Bq ?_
   obtain ⟨x3,hx3,ho3⟩:=Ae h
   refine lpo (G:=Nat × (Int × (List B7))) (fun g=>[(2,.s (.one (Ii6 a2))),(3,.s (.one (Ii6 a3))),(4,.s (.one (.lp 0 0))),(5,.s (.one (.lp 1 0))),(9,.s (.one (.ls 2 g.2.2.length))),(18,.s (.one (.sl a0.Keys.length (a0.Keys.flatMap (eL eU8))))),(19,.s (.one (Ii6 (a0.Keys.length:Int)))),(20,.s (.one (Ii6 g.2.1)))]) (fun g=>[.box (EL.el a0),.box (EL.el a1),.arr 157 2 0 (g.2.2.flatMap Cg)]) (fun g=>Cw (Km a0 a1 a2 a3) g.1 g.2=some x3) (fun g=>g.1) (fuel,(0,([]:List B7))) hx3 ⟨R,R,R,R,R,R,R,R,trivial⟩ [] R (fun _=>R) ?_
   clear hx3 h
   rintro ⟨n3,s3⟩ h
   obtain ⟨n3,y3,rfl,h,hk3⟩:=Cy h
   unfold Km at h
   refine csr (sv R (Bt R R) (Ak (Bn (ccI h R (fun h=>?_) (fun h=>?_)))))
   ·refine Bf (Ab (Bn (Bq (csr (sv R (A4 R) ?_)))))
    obtain ⟨u4,hu4,h⟩:=Ae h
    refine sv R (Cb (f:=(eL eU8)) S6 (fun _=>R) R R R R hu4) ?_
    refine sv R (B6 N2 R (.cp _) R) (rm 2 R (Ak (Bn (Bq (csr (rm 1 R (sv R (Hj Asi R R (Aw (f:=Cg) (fun _=>R) _).symm) ?_)))))))
    refine rm 1 R (sv R (Hn R R) (rm 1 R (Ak (ccI h R (fun h=>?_) (fun h=>?_)))))
    ·refine Dd (Xj R (Ar (Xj R (Ar (Ar (Bj (Ab ?_)))))))
     obtain rfl:=SJ h
     obtain rfl:_=x3:=hk3
     exact ⟨s3.2,_,ho3,⟨R,trivial⟩,R⟩
    ·refine csr (ld Acz R R R R (sv R (A4 R) ?_))
     obtain ⟨v5,hv5,h⟩:=Ae h
     refine A8 R Am1 (Aa R (Aa R Af)) (An R) (Mp hv5) (sv R (B1 R) (rm 1 R (Ak (ccI h R (fun h=>?_) (fun h=>?_)))))
     ·refine Dd (Xj R (Ar (Bj (Ab (Ap (sv R (Bm R R) (rm 1 R (Ak ?_))))))))
      obtain rfl:=SJ h
      exact ⟨(n3,((wI (s3.1+1)),s3.2)),_,hk3,⟨R,R,R,R,R,R,R,R,trivial⟩,R,zH _⟩
     ·refine Bf (Ao (Ab (csr (fl Qt Ajr R R R R R R (sv R (A4 R) ?_)))))
      obtain ⟨u6,hu6,h⟩:=Ae h
      refine sv R (Cb (f:=As) Ap3 (fun _=>R) R R R R hu6) ?_
      refine sv R (Bz (ys:=[.sl u6.L.length (u6.L.flatMap A7)]) O0 R (.cp _) R R) (sv R (A4 R) ?_)
      obtain ⟨v7,hv7,h⟩:=Ae h
      refine A8 R Az3 (Aa R (Aa R Af)) (An R) (Ru hv7) (sv R (Cc R) (sv R (Ai R R) (sv R (Ai R R) (rm 2 R (Ak (csr (rm 1 R (Ak (ccI h R (fun h=>?_) (fun h=>?_))))))))))
      ·refine Ap (rm 3 R (sv R (A3 Anr At7 (Av R (Av R Ay)) (.cons _ _ _ _ _ _ _ R R (Nbl R) (.cons _ _ _ _ _ _ _ R R (Nbl R) (.nil _)))) ?_))
       refine Fo R Tryz.underlying61 Aod R R (zJ.1 R) (by decide) ?_
       refine Pq [.box (EL.el a0),.box (EL.el a1),.arr 157 2 0 (s3.2.flatMap Cg),.arr 157 2 0 ([(B7.mk u4 v7.1)].flatMap Cg)] R ?_
       obtain ⟨hb8,h⟩:=Cr h
       refine Ub (f:=Cg) (xs:=s3.2) (us:=[(B7.mk u4 v7.1)]) R Tryz.underlying61 Aod Azu (fun _=>R) R R (.one _ _ _ _ (.ls _ _ _ _ _ _ R (Aw (f:=Cg) (fun _=>R) [(B7.mk u4 v7.1)]).symm)) R R R (.sl _ _ _ (Aw (f:=Cg) (fun _=>R) _)) R R hb8 (by decide) ?_
       refine rm 1 R (Ki (Ao (Ab (Ap (sv R (Bm R R) (rm 1 R (Ak ?_)))))))
       obtain rfl:=SJ h
       exact ⟨(n3,((wI (s3.1+1)),(s3.2++[(B7.mk u4 v7.1)]))),_,hk3,⟨R,R,R,R,R,R,R,R,trivial⟩,R,zH _⟩
      ·refine Bf (Ao (Ab (Ap (sv R (Bm R R) (rm 1 R (Ak ?_))))))
       obtain rfl:=SJ h
       exact ⟨(n3,((wI (s3.1+1)),s3.2)),_,hk3,⟨R,R,R,R,R,R,R,R,trivial⟩,R,zH _⟩
   ·refine Dd (Ar (Ar (Bj (Ab ?_))))
    obtain rfl:=SJ h
    obtain rfl:_=x3:=hk3
    exact ⟨s3.2,_,ho3,⟨R,trivial⟩,R⟩
def Ou (a0:Ah) (a2:Bg) (a3:Int) (v1:Bc × Int) (b3:Unit):Option (Ah × (List B7) × Int) :=
 (G7 a0 v1.1 a2).bind fun v4=>if (!decide (v4.2=0)) then (some (v4.1,([]:List B7),v4.2)) else ((Lk v4.1.Store a2 v1.1.Snap 128).bind fun v5=>(F6 v1.1.Buf v5 a2 a3).bind fun v6=>some (v4.1,v6,0))
def Pl (a0:Ah) (a1:Int) (a2:Bg) (a3:Int):Option (Ah × (List B7) × Int) :=
 (Fc a0 a1).bind fun v1=>if (!decide (v1.2=0)) then ((Dq a0 v1.2).bind fun v2=>some (v2,([]:List B7),v1.2)) else ((D3 a2).bind fun v7=>if (!v7) then (some (a0,([]:List B7),1)) else ((G5 a2).bind fun v8=>if v8 then (some (a0,([]:List B7),1)) else (Ou a0 a2 a3 v1 ())))
theorem Aax {a0:Ah} {a1:Int} {a2:Bg} {a3:Int} {r:Ah × (List B7) × Int} (h:Pl a0 a1 a2 a3=some r):Br Tryz.prog 30 [.agg (EL.el a0),.one (Ii6 a1),.agg (EL.el a2),.one (Ii6 a3)] (·=.tup [.agg (EL.el r.1),.one (.sl r.2.1.length (r.2.1.flatMap Cg)),.one (Ii6 r.2.2)]):=by
 unfold Pl at h
 refine A2 Tryz.func30 R (nt:=58) R (Nbl R) ?_
 intro w0 S0
 refine csr (F2 R R (F2 R R (Bo R Qs (rm 2 R (Ak (csr (ld De R R R R (sv R (A4 R) ?_))))))))
 obtain ⟨v1,hv1,h⟩:=Ae h
 refine A8 R At5 (Aa R (Aa R Af)) (An R) (Ll hv1) (sv R (Cc R) (sv R (Ai R R) (sv R (Ai R R) (Bo R Aag (sst Aah R R R R R (rm 1 R (Ak (Bn (csr (rm 1 R (sv R (C6 R R) (Ak (ccI h R (fun h=>?_) (fun h=>?_))))))))))))))
 ·refine csr (ld De R R R R (sv R (A4 R) ?_))
  obtain ⟨v2,hv2,h⟩:=Ae h
  refine A8 R Atw (Aa R (Aa R Af)) (An R) (Jp hv2) (rm 1 R (sst Iq R R R R R (rm 2 R (Ak (Bs (Ag ?_))))))
  obtain rfl:=SJ h
  exact dn (Ad (ra De R R R) (Ad (rt R) (Ad (rt R) Aj))) (I8 R) R
 ·refine Bf (Ab (Bn (Bn (cj3 (Unit) (fun b3=>[(3,.s (.one (Ii6 a3))),(4,.s (.one (.lp 0 0))),(6,.s (.one (.lp 1 0))),(8,.s (.one (.lp 2 0))),(11,.s (.one (.lp 3 0)))]) (fun b3=>[.box (EL.el a0),.box (EL.el a2),.box Zba,.box (EL.el v1.1)]) (fun b3=>Ou a0 a2 a3 v1 b3=some r) (fun _=>R) (fun b3 h=>?_) ?_))))
  ·unfold Ou at h
   refine csr (ld De R R R R (ld Wc R R R R (sv R (lo Acz R R R) ?_)))
   obtain ⟨v4,hv4,h⟩:=Ae h
   refine A8 R Azv (Aa R (Aa R (Aa R Af))) (An R) (U1 hv4) (sv R (Cc R) (sv R (Ai R R) (sv R (Ai R R) (sst Iq R R R R R (rm 1 R (Ak (Bn (csr (rm 1 R (sv R (C6 R R) (Ak (ccI h R (fun h=>?_) (fun h=>?_)))))))))))))
   ·refine csr (ld De R R R R (rm 1 R (sst Iq R R R R R (rm 2 R (Ak (Bs (Ag ?_)))))))
    obtain rfl:=SJ h
    exact dn (Ad (ra De R R R) (Ad (rt R) (Ad (rt R) Aj))) (I8 R) R
   ·refine Bf (Ab (csr (sv R (Ac Sz R) (ld Yb R R R R (ld Acz R R R R (sv R (Ac Ahw R) (sv R (l1 ti3 R R R) ?_)))))))
    obtain ⟨v5,hv5,h⟩:=Ae h
    refine A8 R A0y (Aa R (Aa R (Aa R (Aa R Af)))) (An R) (Yy hv5) (rm 1 R (Ak (Bn ?_)))
    obtain ⟨v6,hv6,h⟩:=Ae h
    refine Ku [7] [0,0,2,0,0,0,62,127,255,511] [[.box (EL.el v4.1),.box (EL.el a2),.box Zba,.box (EL.el v1.1)],[.box (EL.el v4.1),.box (EL.el a2),.box (EL.el v4.1),.box (EL.el v1.1)]] (by kernel_rfl) mixed (by kernel_rfl) (by decide) R R R R ?_
    refine ev (A9 0 R R) R R (lo De R R R) (ev (A9 0 R R) R R (Ac Ye R) (ev (A9 0 R R) R R (lo Ag2 R R R) (ev (A9 0 R R) R R (A4 R) (ev (A9 0 R R) R R (lo Acz R R R) (ev (A9 0 R R) R R (A4 R) (ed (A9 0 R R) R R (Db A0k (Aa R (Aa R (Aa R (Aa R Af)))) R (Xs hv6)) (ee0 0 R R R R (fun ζ=>?_) ?_)))))))
    ·refine sst Iq R R R R R (Pq [.box (EL.el v4.1),.box (EL.el a2),.box (EL.el v4.1),.box (EL.el v1.1)] R ?_)
     exact Rk
    refine ev (A9 1 R R) R R (Lh R) (ev (A9 1 R R) R R (Lh R) (Abf (Ab (Bs ?_))))
    obtain rfl:=SJ h
    exact dn (Ad (ra De R R R) (Ad (rt R) (Ad (rt R) Aj))) (An R) R
  ·skip
   refine Ap (sv R (lo Acz R R R) ?_)
   obtain ⟨v7,hv7,h⟩:=Ae h
   refine A8 R Azr (Aa R Af) (An R) (P6 hv7) (sv R (B1 R) (rm 1 R (ssI 29 h R (fun h=>?_) (fun h=>?_))))
   ·refine rm 3 R (Ak (Ck R (fun _=>?_) (fun hx=>Bool.noConfusion hx)))
    refine csr (ld De R R R R (sst Iq R R R R R (rm 2 R (Ak (Bs (Ag ?_))))))
    obtain rfl:=SJ h
    exact dn (Ad (ra De R R R) (Ad (rt R) (Ad (rt R) Aj))) (I8 R) R
   ·refine son R R R (ld Acz R R R R (son R R R ?_))
    obtain ⟨v8,hv8,h⟩:=Ae h
    refine A8 R Azx (Aa R Af) (An R) (Sw hv8) (rm 1 R (Ak (ccI h R (fun h=>?_) (fun h=>?_))))
    ·refine csr (ld De R R R R (sst Iq R R R R R (rm 2 R (Ak (Bs (Ag ?_))))))
     obtain rfl:=SJ h
     exact dn (Ad (ra De R R R) (Ad (rt R) (Ad (rt R) Aj))) (I8 R) R
    ·refine Bf (Ab ?_)
     exact ⟨(),_,h,⟨R,R,R,R,R,trivial⟩,R⟩
def N4 (a0:Ah) (a1:Int):Option (Ah × Int) :=
 (Fc a0 a1).bind fun v1=>if (!decide (v1.2=0)) then ((Dq a0 v1.2).bind fun v2=>some (v2,v1.2)) else ((Cx a0 v1.1).bind fun v3=>some (v3,0))
theorem Zs {a0:Ah} {a1:Int} {r:Ah × Int} (h:N4 a0 a1=some r):Br Tryz.prog 26 [.agg (EL.el a0),.one (Ii6 a1)] (·=.tup [.agg (EL.el r.1),.one (Ii6 r.2)]):=by
 unfold N4 at h
 refine A2 Tryz.func26 R (nt:=23) R (Nbl R) ?_
 intro w0 S0
 refine csr (F2 R R (Bo R Qs (rm 1 R (Ak (csr (ld De R R R R (sv R (A4 R) ?_)))))))
 obtain ⟨v1,hv1,h⟩:=Ae h
 refine A8 R At5 (Aa R (Aa R Af)) (An R) (Ll hv1) (sv R (Cc R) (sv R (Ai R R) (sv R (Ai R R) (Bo R Aag (sst Aah R R R R R (rm 1 R (Ak (Bn (csr (rm 1 R (sv R (C6 R R) (Ak (ccI h R (fun h=>?_) (fun h=>?_))))))))))))))
 ·refine csr (ld De R R R R (sv R (A4 R) ?_))
  obtain ⟨v2,hv2,h⟩:=Ae h
  refine A8 R Atw (Aa R (Aa R Af)) (An R) (Jp hv2) (rm 1 R (sst Iq R R R R R (rm 1 R (Ak (Bs (Ag ?_))))))
  obtain rfl:=SJ h
  exact dn (Ad (ra De R R R) (Ad (rt R) Aj)) (An R) R
 ·refine Bf (Ab (csr (ld De R R R R (sv R (lo Wc R R R) ?_))))
  obtain ⟨v3,hv3,h⟩:=Ae h
  refine A8 R Atz (Aa R (Aa R Af)) (An R) (Ib hv3) (sst Iq R R R R R (rm 1 R (Ak (Bs ?_))))
  obtain rfl:=SJ h
  exact dn (Ad (ra De R R R) (Ad (rt R) Aj)) (An R) R
def Fv (v2:Bi × Int × Int) (b6:Ah):Option (Ah × Int × Int) :=
 some (b6,v2.2.1,0)
def Ni (a0:Ah) (a1:Int) (a2:Int):Option (Ah × Int × Int) :=
 (Il a0).bind fun v1=>if (!v1) then (some (E2,0,1)) else ((Ct a0.Toks a1 a2).bind fun v2=>if (!decide (v2.2.2=0)) then ((Dq a0 v2.2.2).bind fun v3=>some (v3,0,v2.2.2)) else ((Ex v2.1 a1).bind fun v4=>(Kg ({a0 with Toks:=v2.1}) a1).bind fun v5=>if v5.2 then (if (decide (v4.1.State=3)) then (if (decide (v5.1.Attempt≤v4.1.Attempt)) then ((Cx ({a0 with Toks:=v2.1}) v5.1).bind fun v7=>Fv v2 v7) else (Fv v2 ({a0 with Toks:=v2.1}))) else (Fv v2 ({a0 with Toks:=v2.1}))) else (Fv v2 ({a0 with Toks:=v2.1}))))
theorem Yp {a0:Ah} {a1:Int} {a2:Int} {r:Ah × Int × Int} (h:Ni a0 a1 a2=some r):Br Tryz.prog 31 [.agg (EL.el a0),.one (Ii6 a1),.one (Ii6 a2)] (·=.tup [.agg (EL.el r.1),.one (Ii6 r.2.1),.one (Ii6 r.2.2)]):=by
 unfold Ni at h
 refine A2 Tryz.func31 R (nt:=67) R (Nbl R) ?_
 intro w0 S0
 refine csr (F2 R R (Bo R Qs (rm 2 R (Ak (Bn (csr (sv R (lo De R R R) ?_)))))))
 obtain ⟨v1,hv1,h⟩:=Ae h
 refine A8 R Aub (Aa R Af) (An R) (Nk hv1) (sv R (B1 R) (Ak (ccI h R (fun h=>?_) (fun h=>?_))))
 ·refine csr (sv R (A3 Qs Ak3 Ay (.nil _)) (sst Iq R R R R R (rm 2 R (Ak (Bs (Ag ?_))))))
  obtain rfl:=SJ h
  exact dn (Ad (ra De R R R) (Ad (rt R) (Ad (rt R) Aj))) (I8 R) R
 ·refine Bf (Ab (csr (sv R (Ac Ty R) (ld Oj R R R R (rm 1 R (sv R (A4 R) ?_))))))
  obtain ⟨v2,hv2,h⟩:=Ae h
  refine A8 R Az0 (Aa R (Aa R (Aa R Af))) (An R) (Q6 hv2) (sv R (Cc R) (sv R (Ai R R) (sv R (Ai R R) (sv R (Ai R R) (Bo R V2 (sst S9 R R R R R (rm 2 R (Ak (Bn (csr (rm 1 R (sv R (C6 R R) (Ak (ccI h R (fun h=>?_) (fun h=>?_)))))))))))))))
  ·refine csr (ld De R R R R (sv R (A4 R) ?_))
   obtain ⟨v3,hv3,h⟩:=Ae h
   refine A8 R Atw (Aa R (Aa R Af)) (An R) (Jp hv3) (rm 1 R (sst Iq R R R R R (rm 2 R (Ak (Bs (Ag ?_))))))
   obtain rfl:=SJ h
   exact dn (Ad (ra De R R R) (Ad (rt R) (Ad (rt R) Aj))) (An R) R
  ·refine Bf (Ab (csr (ld Oj R R R R (sv R (Ac Ty R) (sst S9 R R R R R (Ak (csr (ld Oj R R R R (sv R (A4 R) ?_)))))))))
   obtain ⟨v4,hv4,h⟩:=Ae h
   refine A8 R Awg (Aa R (Aa R Af)) (An R) (Kp hv4) (sv R (Cc R) (sv R (Ai R R) (sv R (Ai R R) (Bo R Vz (sst Aao R R R R R (rm 1 R (Ak (Bn (csr (ld De R R R R (sv R (A4 R) ?_)))))))))))
   obtain ⟨v5,hv5,h⟩:=Ae h
   refine A8 R Az2 (Aa R (Aa R Af)) (An R) (Sd hv5) (sv R (Cc R) (sv R (Ai R R) (sv R (Ai R R) (Bo R Aag (sst Aah R R R R R (rm 1 R (Ak (Bn (cj3 (Ah) (fun b6=>[(3,.s (.one (.lp 0 0))),(6,.s (.one (.lp 1 0))),(10,.s (.one (Ii6 v2.2.1)))]) (fun b6=>[.box (EL.el b6),.box Zba,.box [.sl v2.1.L.length (v2.1.L.flatMap Am)],.box (EL.el v4.1),.box (EL.el v5.1)]) (fun b6=>Fv v2 b6=some r) (fun _=>R) (fun b6 h=>?_) ?_)))))))))
   ·unfold Fv at h
    refine csr (ld De R R R R (rm 1 R (sst Iq R R R R R (rm 2 R (Ak (Bs ?_))))))
    obtain rfl:=SJ h
    exact dn (Ad (ra De R R R) (Ad (rt R) (Ad (rt R) Aj))) (An R) R
   ·skip
    refine Ap (rm 2 R (ssI 50 h R (fun h=>?_) (fun h=>?_)))
    ·refine son R R R (sv R (Ac Vv R) (son R R R (sv R (l1 ti3 R R R) (son R R R (sv R (B0 R R) (rm 2 R (ssI 55 h R (fun h=>?_) (fun h=>?_))))))))
     ·refine son R R R (sv R (Ac Aip R) (son R R R (sv R (l1 ti3 R R R) (son R R R (sv R (Ac Va R) (son R R R (sv R (l1 ti3 R R R) (son R R R (sv R (Dl R R) (rm 1 R (Ak (ccI h R (fun h=>?_) (fun h=>?_)))))))))))))
      ·refine Ap (ld De R R R R (sv R (lo Wc R R R) ?_))
       obtain ⟨v7,hv7,h⟩:=Ae h
       refine A8 R Atz (Aa R (Aa R Af)) (An R) (Ib hv7) (sst Iq R R R R R (Ak ?_))
       exact ⟨v7,_,h,⟨R,R,R,trivial⟩,R⟩
      ·refine Bf (Ab ?_)
       exact ⟨{a0 with Toks:=v2.1},_,h,⟨R,R,R,trivial⟩,R⟩
     ·refine rm 6 R (Ak (Ck R (fun hx=>Bool.noConfusion hx) (fun _=>?_)))
      refine Bf (Ab ?_)
      exact ⟨{a0 with Toks:=v2.1},_,h,⟨R,R,R,trivial⟩,R⟩
    ·refine rm 11 R (Ak (Ck R (fun hx=>Bool.noConfusion hx) (fun _=>?_)))
     refine Bf (Ab ?_)
     exact ⟨{a0 with Toks:=v2.1},_,h,⟨R,R,R,trivial⟩,R⟩
def Jv (a0:Int) (b1:Unit):Option (List A5) :=
 if (decide (0<(wI (a0-(wI (0-0)))))) then (if 0<(wI (a0-(wI (0-0))))∧(wI (a0-(wI (0-0))))*((32:Nat):Int)≤281474976710656 then (if (0:Int)≤0∧0≤((List.replicate (wI (a0-(wI (0-0)))).toNat (A5.mk 0 0 0 0)).length:Int) then (some ((List.replicate (wI (a0-(wI (0-0)))).toNat (A5.mk 0 0 0 0)).take (0:Int).toNat)) else none) else none) else (some ([]:List A5))
def Kl (a0:Int):Option (List A5) :=
 if (decide (a0<0)) then none else (Jv a0 ())
theorem Vj {a0:Int} {r:(List A5)} (h:Kl a0=some r):Dn Tryz.prog 220 [] [.one (Znl),.one (Ii6 a0)] (fun y m'=>y=.s (.one (.ls 0 r.length))∧m'=[.arr 145 4 0 (r.flatMap Am)]):=by
 unfold Kl at h
 refine Dk Tryz.func220 R (nt:=27) R (Nbl R) ?_
 intro w0 S0 X0 H0
 refine csr (rm 1 R (Ak (Bn (csr (rm 1 R (sv R (Bt R R) (Ak (cj (Unit) (fun b1=>[(0,.s (.one (Znl))),(1,.s (.one (Ii6 a0)))]) (fun b1=>[]) (fun b1=>Jv a0 b1=some r) (fun _=>R) (fun b1 h=>?_) ?_))))))))
 ·unfold Jv at h
  refine Bn (csr (rm 2 R (sv R (Gs Abp R) (rm 1 R (sv R (Fu Abp R) (sv R (Nt R R) (sv R (Nt R R) (rm 1 R (Ak (csr (rm 1 R (sv R (C9 R R) (Ak (ccI h R (fun h=>?_) (fun h=>?_)))))))))))))))
  ·refine Ap (rm 2 R (sv R (Gs Abp R) (sv R (M0 Abp R R) (sv R (A4 R) ?_))))
   obtain ⟨hm2,h⟩:=Cr h
   refine Avo (f:=Am) (z:=(A5.mk 0 0 0 0)) R Tryz.underlying35 Aks Tryz.underlying3 (fun _=>R) R R R hm2 (by decide) ?_
   refine rm 1 R (sv R (Fu Abp R) ?_)
   obtain ⟨hs3,h⟩:=Cr h
   refine Aa4 (f:=Am) R Abp (fun _=>R) R R R R R hs3 ?_
   refine rm 1 R (Ak (csr (rm 2 R (Ak (Bs ?_)))))
   obtain rfl:=SJ h
   exact ⟨Or.inr R,_,[1],[.one (.ls 0 ((List.replicate (wI (a0-(wI (0-0)))).toNat (A5.mk 0 0 0 0)).take (0:Int).toNat).length)],[.arr 145 4 0 (((List.replicate (wI (a0-(wI (0-0)))).toNat (A5.mk 0 0 0 0)).take (0:Int).toNat).flatMap Am)],(Ad (rt R) Aj),R,R,⟨by decide,R⟩,R,R,⟨R,R⟩⟩
  ·refine Bf (Ab (csr (rm 2 R (Ak ?_))))
   refine Dh 145 4 4 (by decide) R ?_
   refine Bs ?_
   obtain rfl:=SJ h
   exact ⟨Or.inr R,_,[0],[.one (.ls 0 ([]:List A5).length)],[.arr 145 4 0 (([]:List A5).flatMap Am)],(Ad (rt R) Aj),R,R,⟨by decide,R⟩,R,R,⟨R,R⟩⟩
 ·skip
  refine ccI h R (fun h=>?_) (fun h=>?_)
  ·cases h
  ·refine Bf (Ab ?_)
   exact ⟨(),_,h,⟨R,R,trivial⟩,R⟩
def Mm (b3:(List A5)):Option (List A5) :=
 some b3
def El (a0:List (List A5)) (s4:Int × (List A5)):Option (LB (Int × (List A5)) ((List A5))) :=
 if (decide (s4.1<(a0.length:Int))) then ((idx a0 s4.1).bind fun u5=>if (s4.2.length+u5.length)*32≤140737488355328 then (some (.cont ((wI (s4.1+1)),(s4.2++u5)))) else none) else (some (.brk s4.2))
def Ir (a0:List (List A5)) (b1:Int):Option (List A5) :=
 (Kl b1).bind fun v2=>(Cw (El a0) fuel (0,v2)).bind fun e7=>Mm e7
def Eu (a0:List (List A5)) (s8:Int × Int):Option (LB (Int × Int) (Int)) :=
 if (decide (s8.2<(a0.length:Int))) then ((idx a0 s8.2).bind fun u9=>if (decide ((wI (s8.1+(u9.length:Int)))<0)) then none else (some (.cont ((wI (s8.1+(u9.length:Int))),(wI (s8.2+1)))))) else (some (.brk s8.1))
def I9 (a0:List (List A5)):Option (List A5) :=
 (Cw (Eu a0) fuel (0,0)).bind fun e10=>Ir a0 e10
theorem Um {a0:List (List A5)} {r:(List A5)} (h:I9 a0=some r):Br Tryz.prog 151 [.one (.sl a0.length (a0.flatMap (eL Am)))] (·=.s (.one (.sl r.length (r.flatMap Am)))):=by
 unfold I9 at h
 refine A2 Tryz.func151 R (nt:=36) R (Nbl R) ?_
 intro w0 S0
 refine csr (rm 1 R (Ak (csr (rm 1 R (Ak (Bn (csr (rm 1 R (sv R (Au Aqb R) (rm 1 R (Ak (cj (Int) (fun b1=>[(0,.s (.one (.sl a0.length (a0.flatMap (eL Am))))),(3,.s (.one (Ii6 b1)))]) (fun b1=>[]) (fun b1=>Ir a0 b1=some r) (fun _=>R) (fun b1 h=>?_) ?_))))))))))))
 ·unfold Ir at h
  refine csr (sv R (A4 R) ?_)
  obtain ⟨v2,hv2,h⟩:=Ae h
  refine H7 (x':=.s (.one (.ls 0 v2.length))) (M':=[.arr 145 4 0 (v2.flatMap Am)]) [] R Axk (.func _) (Aa R (Aa R Af)) (Vj hv2) R R (by decide) R R R ?_
  refine rm 1 R (Ak (Bn (csr (rm 1 R (sv R (Au Aqb R) (rm 1 R (Ak (cj ((List A5)) (fun b3=>[(6,.s (.one (.ls 0 b3.length)))]) (fun b3=>[.arr 145 4 0 (b3.flatMap Am)]) (fun b3=>Mm b3=some r) (fun _=>R) (fun b3 h=>?_) ?_))))))))
  ·unfold Mm at h
   refine csr (rm 2 R (Ak (Bs ?_)))
   obtain rfl:=SJ h
   refine ⟨Or.inr R,_,_,_,(Ad (rt R) Aj),(by (repeat' first | exact H6.nil _ | apply H6.cons | apply Hy.one | apply Hy.agg | exact C7.nil | exact C7.ls _ _ _ _ _ _ R (Aw (f:=Am) (fun _=>R) _).symm | exact C7.id _ R | exact Cs.nil _ | apply Cs.cons)),?_⟩
   rfl
  ·skip
   refine Bq ?_
   obtain ⟨x4,hx4,ho4⟩:=Ae h
   refine lpo (G:=Nat × (Int × (List A5))) (fun g=>[(6,.s (.one (.ls 0 g.2.2.length))),(25,.s (.one (.sl a0.length (a0.flatMap (eL Am))))),(26,.s (.one (Ii6 (a0.length:Int)))),(27,.s (.one (Ii6 g.2.1)))]) (fun g=>[.arr 145 4 0 (g.2.2.flatMap Am)]) (fun g=>Cw (El a0) g.1 g.2=some x4) (fun g=>g.1) (fuel,(0,v2)) hx4 ⟨R,R,R,R,trivial⟩ [] R (fun _=>R) ?_
   clear hx4 h
   rintro ⟨n4,s4⟩ h
   obtain ⟨n4,y4,rfl,h,hk4⟩:=Cy h
   unfold El at h
   refine csr (sv R (Bt R R) (Ak (Bn (ccI h R (fun h=>?_) (fun h=>?_)))))
   ·refine Bf (Ab (Bn (Bq (Bn (Ap ?_)))))
    obtain ⟨u5,hu5,h⟩:=Ae h
    refine sv R (Cb (f:=(eL Am)) Aqb (fun _=>R) R R R R hu5) ?_
    refine sv R (B6 Akv R (.cp _) R) (rm 1 R (Ak (Ap (rm 1 R (sv R (A4 R) ?_)))))
    obtain ⟨hb6,h⟩:=Cr h
    refine Ub (f:=Am) (xs:=s4.2) (us:=u5) R Tryz.underlying35 Aks Ayk (fun _=>R) R R (.one _ _ _ _ (.id _ R)) R R R (.sl _ _ _ (Aw (f:=Am) (fun _=>R) _)) R R hb6 (by decide) ?_
    refine rm 1 R (Ki (Ao (Ab (Ap (sv R (Bm R R) (rm 1 R (Ak ?_)))))))
    obtain rfl:=SJ h
    exact ⟨(n4,((wI (s4.1+1)),(s4.2++u5))),_,hk4,⟨R,R,R,R,trivial⟩,R,zH _⟩
   ·refine Dd (Ar (Ar (Bj (Ab ?_))))
    obtain rfl:=SJ h
    obtain rfl:_=x4:=hk4
    exact ⟨s4.2,_,ho4,⟨R,trivial⟩,R⟩
 ·skip
  refine Bq ?_
  obtain ⟨x8,hx8,ho8⟩:=Ae h
  refine lpo (G:=Nat × (Int × Int)) (fun g=>[(0,.s (.one (.sl a0.length (a0.flatMap (eL Am))))),(3,.s (.one (Ii6 g.2.1))),(9,.s (.one (.sl a0.length (a0.flatMap (eL Am))))),(10,.s (.one (Ii6 (a0.length:Int)))),(11,.s (.one (Ii6 g.2.2)))]) (fun g=>[]) (fun g=>Cw (Eu a0) g.1 g.2=some x8) (fun g=>g.1) (fuel,(0,0)) hx8 ⟨R,R,R,R,R,trivial⟩ [] R (fun _=>R) ?_
  clear hx8 h
  rintro ⟨n8,s8⟩ h
  obtain ⟨n8,y8,rfl,h,hk8⟩:=Cy h
  unfold Eu at h
  refine csr (sv R (Bt R R) (Ak (Bn (ccI h R (fun h=>?_) (fun h=>?_)))))
  ·refine Bf (Ab (Bn (Bq (Bn (Ap ?_)))))
   obtain ⟨u9,hu9,h⟩:=Ae h
   refine sv R (Cb (f:=(eL Am)) Aqb (fun _=>R) R R R R hu9) ?_
   refine sv R (B6 Akv R (.cp _) R) (rm 1 R (Ak (csr (rm 2 R (sv R (Au Abp R) (sv R (Bm R R) (rm 1 R (Ak (csr (rm 1 R (sv R (Bt R R) (Ak (ccI h R (fun h=>?_) (fun h=>?_))))))))))))))
   ·cases h
   ·refine Bf (Ao (Ab (Ap (sv R (Bm R R) (rm 1 R (Ak ?_))))))
    obtain rfl:=SJ h
    exact ⟨(n8,((wI (s8.1+(u9.length:Int))),(wI (s8.2+1)))),_,hk8,⟨R,R,R,R,R,trivial⟩,R,zH _⟩
  ·refine Dd (Ar (Ar (Bj (Ab ?_))))
   obtain rfl:=SJ h
   obtain rfl:_=x8:=hk8
   exact ⟨s8.1,_,ho8,⟨R,R,trivial⟩,R⟩
def I5 (a0:Bi) (a1:Int) (b1:Unit):Option (Bi × Int) :=
 (Ex a0 a1).bind fun v2=>if (!v2.2) then (some (Cp,6)) else (if (decide (v2.1.State=1)) then (some (Cp,7)) else ((Et a0 a1).bind fun v3=>(cut a0.L 0 v3).bind fun c4=>(cut a0.L (wI (v3+1)) (a0.L.length:Int)).bind fun c5=>(I9 ([c4,c5]:List (List A5))).bind fun v6=>some ((Bi.mk v6),0)))
def Gj (a0:Bi) (a1:Int):Option (Bi × Int) :=
 (Da a0).bind fun v7=>if (!v7) then (some (Cp,1)) else ((Cq a1 0).bind fun v8=>if (!v8) then (some (Cp,1)) else (I5 a0 a1 ()))
theorem Ux {a0:Bi} {a1:Int} {r:Bi × Int} (h:Gj a0 a1=some r):Br Tryz.prog 75 [.agg [.sl a0.L.length (a0.L.flatMap Am)],.one (Ii6 a1)] (·=.tup [.agg [.sl r.1.L.length (r.1.L.flatMap Am)],.one (Ii6 r.2)]):=by
 unfold Gj at h
 refine A2 Tryz.func75 R (nt:=48) R (Nbl R) ?_
 intro w0 S0
 refine csr (F2 R R (Bo R V2 (rm 1 R (Ak (Bn (Bn (cj3 (Unit) (fun b1=>[(1,.s (.one (Ii6 a1))),(2,.s (.one (.lp 0 0))),(4,.s (.one (.lp 1 0)))]) (fun b1=>[.box [.sl a0.L.length (a0.L.flatMap Am)],.box [Znl]]) (fun b1=>I5 a0 a1 b1=some r) (fun _=>R) (fun b1 h=>?_) ?_)))))))
 ·unfold I5 at h
  refine csr (ld Oj R R R R (sv R (A4 R) ?_))
  obtain ⟨v2,hv2,h⟩:=Ae h
  refine A8 R Awg (Aa R (Aa R Af)) (An R) (Kp hv2) (sv R (Cc R) (sv R (Ai R R) (sv R (Ai R R) (Bo R Vz (sst Aao R R R R R (rm 1 R (Ak (Bn (Bq (csr (rm 1 R (sv R (B1 R) (rm 1 R (Ak (ccI h R (fun h=>?_) (fun h=>?_))))))))))))))))
  ·refine csr (sv R (A3 V2 Abr Ay (.nil _)) (sst S9 R R R R R (rm 1 R (Ak (Bs (A0 (Ag ?_)))))))
   obtain rfl:=SJ h
   exact dn (Ad (ra Oj R R R) (Ad (rt R) Aj)) (I8 R) R
  ·refine csr (fl Vv ti3 R R R R R R (sv R (B0 R R) (rm 1 R (Ak (ccI h R (fun h=>?_) (fun h=>?_))))))
   ·refine csr (sv R (A3 V2 Abr Ay (.nil _)) (sst S9 R R R R R (rm 1 R (Ak (Bs (A0 (Ag ?_)))))))
    obtain rfl:=SJ h
    exact dn (Ad (ra Oj R R R) (Ad (rt R) Aj)) (I8 R) R
   ·refine Bf (Ao (Ab (csr (ld Oj R R R R (sv R (A4 R) ?_)))))
    obtain ⟨v3,hv3,h⟩:=Ae h
    refine A8 R Aqc (Aa R (Aa R Af)) (An R) (La hv3) (rm 1 R (Ak (Bn ?_)))
    obtain ⟨c4,hc4,h⟩:=Ae h
    obtain ⟨c5,hc5,h⟩:=Ae h
    obtain ⟨v6,hv6,h⟩:=Ae h
    refine Ku [12] [0,1,0,7,0,16,0,64,240,511,1023,2047,4095,8191] [[.box [.sl a0.L.length (a0.L.flatMap Am)],.box [Znl],.box (EL.el v2.1)],[.box [.sl a0.L.length (a0.L.flatMap Am)],.box [.sl v6.length (v6.flatMap Am)],.box (EL.el v2.1)]] (by kernel_rfl) mixed (by kernel_rfl) (by decide) R R R R ?_
    refine ev (A9 0 R R) R R (Ac U4 R) (ev (A9 0 R R) R R (l1 Akv R R R) (ev (A9 0 R R) R R (A4 R) (ev (A9 0 R R) R R (Xl (f:=Am) (lo:=0) (hi:=v3) Abp (fun _=>R) R R R T9 (Qh R (Int.le_trans (T1 hc4).1.1 (T1 hc4).1.2.1)) hc4) ?_)))
    refine ev (A9 0 R R) R R (Ac U4 R) (ev (A9 0 R R) R R (l1 Akv R R R) (ev (A9 0 R R) R R (A4 R) (ev (A9 0 R R) R R (Bm R R) ?_)))
    refine ev (A9 0 R R) R R (Xl (f:=Am) (lo:=(wI (v3+1))) (hi:=(a0.L.length:Int)) Abp (fun _=>R) R R R (Qh R (T1 hc5).1.1) (by exact R) hc5) ?_
    refine ed (A9 0 R R) R R (Zl (out:=([c4,c5]:List (List A5)).flatMap (eL Am)) Tryz.underlying337 A0z (Av R (Av R Ay)) (.cons _ _ _ _ _ _ _ R R (Nbl R) (.cons _ _ _ _ _ _ _ R R (Nbl R) (.nil _))) R (by decide)) ?_
    refine ed (A9 0 R R) R R (Db Ayc (Aa R Af) R (Um hv6)) (ev (A9 0 R R) R R (A3 V2 Abr (Av R Ay) (.cons _ _ _ _ _ _ _ R R (Nbl R) (.nil _))) (ee0 0 R R R R (fun ζ=>?_) ?_))
    ·refine sst S9 R R R R R (Pq [.box [.sl a0.L.length (a0.L.flatMap Am)],.box [.sl v6.length (v6.flatMap Am)],.box (EL.el v2.1)] R ?_)
     exact Rk
    refine ev (A9 1 R R) R R (Lh R) (Abf (Ab (Bs ?_)))
    obtain rfl:=SJ h
    exact dn (Ad (ra Oj R R R) (Ad (rt R) Aj)) (An R) R
 ·skip
  refine Ap (sv R (lo Oj R R R) ?_)
  obtain ⟨v7,hv7,h⟩:=Ae h
  refine A8 R Avj (Aa R Af) (An R) (Kb hv7) (sv R (B1 R) (rm 1 R (ssI 12 h R (fun h=>?_) (fun h=>?_))))
  ·refine rm 4 R (Ak (Ck R (fun _=>?_) (fun hx=>Bool.noConfusion hx)))
   refine csr (sv R (A3 V2 Abr Ay (.nil _)) (sst S9 R R R R R (rm 1 R (Ak (Bs (Ag ?_))))))
   obtain rfl:=SJ h
   exact dn (Ad (ra Oj R R R) (Ad (rt R) Aj)) (I8 R) R
  ·refine rm 1 R (son R R R ?_)
   obtain ⟨v8,hv8,h⟩:=Ae h
   refine A8 R Ajg (Aa R (Aa R Af)) (An R) (Ed hv8) (son R R R (sv R (B1 R) (rm 1 R (Ak (ccI h R (fun h=>?_) (fun h=>?_))))))
   ·refine csr (sv R (A3 V2 Abr Ay (.nil _)) (sst S9 R R R R R (rm 1 R (Ak (Bs (Ag ?_))))))
    obtain rfl:=SJ h
    exact dn (Ad (ra Oj R R R) (Ad (rt R) Aj)) (I8 R) R
   ·refine Bf (Ab ?_)
    exact ⟨(),_,h,⟨R,R,R,trivial⟩,R⟩
def Me (a0:Ah) (a1:Int):Option (Ah × Int) :=
 (Il a0).bind fun v1=>if (!v1) then (some (E2,1)) else ((Gj a0.Toks a1).bind fun v2=>if (!decide (v2.2=0)) then ((Dq a0 v2.2).bind fun v3=>some (v3,v2.2)) else (some ({a0 with Toks:=v2.1},0)))
theorem Xg {a0:Ah} {a1:Int} {r:Ah × Int} (h:Me a0 a1=some r):Br Tryz.prog 32 [.agg (EL.el a0),.one (Ii6 a1)] (·=.tup [.agg (EL.el r.1),.one (Ii6 r.2)]):=by
 unfold Me at h
 refine A2 Tryz.func32 R (nt:=28) R (Nbl R) ?_
 intro w0 S0
 refine csr (F2 R R (Bo R Qs (rm 1 R (Ak (Bn (csr (sv R (lo De R R R) ?_)))))))
 obtain ⟨v1,hv1,h⟩:=Ae h
 refine A8 R Aub (Aa R Af) (An R) (Nk hv1) (sv R (B1 R) (Ak (ccI h R (fun h=>?_) (fun h=>?_))))
 ·refine csr (sv R (A3 Qs Ak3 Ay (.nil _)) (sst Iq R R R R R (rm 1 R (Ak (Bs (Ag ?_))))))
  obtain rfl:=SJ h
  exact dn (Ad (ra De R R R) (Ad (rt R) Aj)) (I8 R) R
 ·refine Bf (Ab (csr (sv R (Ac Ty R) (ld Oj R R R R (sv R (A4 R) ?_)))))
  obtain ⟨v2,hv2,h⟩:=Ae h
  refine A8 R A02 (Aa R (Aa R Af)) (An R) (Ux hv2) (sv R (Cc R) (sv R (Ai R R) (sv R (Ai R R) (Bo R V2 (sst S9 R R R R R (rm 1 R (Ak (Bn (csr (rm 1 R (sv R (C6 R R) (Ak (ccI h R (fun h=>?_) (fun h=>?_))))))))))))))
  ·refine csr (ld De R R R R (sv R (A4 R) ?_))
   obtain ⟨v3,hv3,h⟩:=Ae h
   refine A8 R Atw (Aa R (Aa R Af)) (An R) (Jp hv3) (rm 1 R (sst Iq R R R R R (rm 1 R (Ak (Bs (Ag ?_))))))
   obtain rfl:=SJ h
   exact dn (Ad (ra De R R R) (Ad (rt R) Aj)) (An R) R
  ·refine Bf (Ab (csr (ld Oj R R R R (sv R (Ac Ty R) (sst S9 R R R R R (Ak (csr (ld De R R R R (sst Iq R R R R R (rm 1 R (Ak (Bs ?_))))))))))))
   obtain rfl:=SJ h
   exact dn (Ad (ra De R R R) (Ad (rt R) Aj)) (An R) R
def Nz (a0:Ah) (a1:Cv) (a2:Int):Option (Ah × I4) :=
 if (decide (a1.What≤1)) then ((Iu a0 a1.Token a1.Attempt a1.RO).bind fun v1=>some (v1.1,(I4.mk v1.2.1 false ([]:List UInt8) ([]:List B7) v1.2.2))) else (if (decide (a1.What≤3)) then ((Hs a0 a2 a1.Key).bind fun v2=>some (v2.1,(I4.mk 0 v2.2.2.1 v2.2.1 ([]:List B7) v2.2.2.2))) else (if (decide (a1.What=4)) then ((Pl a0 a2 a1.Rng 8).bind fun v3=>some (v3.1,(I4.mk 0 false ([]:List UInt8) v3.2.1 v3.2.2))) else (if (decide (a1.What≤7)) then ((Nw a0 a2 (A6.mk a1.Key a1.Val a1.Del)).bind fun v4=>some (v4.1,(I4.mk 0 false ([]:List UInt8) ([]:List B7) v4.2))) else (if (decide (a1.What≤10)) then ((Jk a0 a2).bind fun v5=>some (v5.1,(I4.mk v5.2.1 false ([]:List UInt8) ([]:List B7) v5.2.2))) else (if (decide (a1.What=11)) then ((N4 a0 a2).bind fun v6=>some (v6.1,(I4.mk 0 false ([]:List UInt8) ([]:List B7) v6.2))) else (if (decide (a1.What=12)) then ((Ni a0 a1.Token a1.Attempt).bind fun v7=>some (v7.1,(I4.mk v7.2.1 false ([]:List UInt8) ([]:List B7) v7.2.2))) else ((Me a0 a1.Token).bind fun v8=>some (v8.1,(I4.mk 0 false ([]:List UInt8) ([]:List B7) v8.2)))))))))
theorem X3 {a0:Ah} {a1:Cv} {a2:Int} {r:Ah × I4} (h:Nz a0 a1 a2=some r):Br Tryz.prog 11 [.agg (EL.el a0),.agg (EL.el a1),.one (Ii6 a2)] (·=.tup [.agg (EL.el r.1),.agg (EL.el r.2)]):=by
 unfold Nz at h
 refine A2 Tryz.func11 R (nt:=162) R (Nbl R) ?_
 intro w0 S0
 refine csr (F2 R R (F2 R R (Bo R Qs (Bo R Aj8 (Ak (Bn (Bq (csr (fl Sc ti3 R R R R R R (sv R (Dl R R) (rm 1 R (Ak (ccI h R (fun h=>?_) (fun h=>?_))))))))))))))
 ·refine csr (ld De R R R R (fl Adn ti3 R R R R R R (fl Are ti3 R R R R R R (sv R (Ac Aut R) (sv R (l1 ti4 R R R) ?_)))))
  obtain ⟨v1,hv1,h⟩:=Ae h
  refine A8 R Awv (Aa R (Aa R (Aa R (Aa R Af)))) (An R) (Ow hv1) (sv R (Cc R) (sv R (Ai R R) (sv R (Ai R R) (sv R (Ai R R) (Bo R Qs (sst Iq R R R R R (rm 2 R (Ak (csr (ld De R R R R (rm 2 R (sv R (A3 Aj8 Aq6 (Av R (Av R Ay)) (.cons _ _ _ _ _ _ _ R R (Nbl R) (.cons _ _ _ _ _ _ _ R R (Nbl R) (.nil _)))) (sst Iq R R R R R (sst An6 R R R R R (Ak (Bs (A0 (Ag ?_))))))))))))))))))
  obtain rfl:=SJ h
  exact dn (Ad (ra De R R R) (Ad (ra Aon R R R) Aj)) (I8 R) R
 ·refine csr (fl Sc ti3 R R R R R R (sv R (Dl R R) (rm 1 R (Ak (ccI h R (fun h=>?_) (fun h=>?_))))))
  ·refine csr (ld De R R R R (rm 1 R (sv R (Ac Anb R) (sv R (l1 N2 R R R) ?_))))
   obtain ⟨v2,hv2,h⟩:=Ae h
   refine A8 R Auo (Aa R (Aa R (Aa R Af))) (An R) (Oc hv2) (sv R (Cc R) (sv R (Ai R R) (sv R (Ai R R) (sv R (Ai R R) (sv R (Ai R R) (Bo R Qs (sst Iq R R R R R (rm 3 R (Ak (csr (ld De R R R R (rm 3 R (sv R (A3 Aj8 Aq6 (Av R (Av R (Av R Ay))) (.cons _ _ _ _ _ _ _ R R (Nbl R) (.cons _ _ _ _ _ _ _ R R (Nbl R) (.cons _ _ _ _ _ _ _ R R (Nbl R) (.nil _))))) (sst Iq R R R R R (sst An6 R R R R R (Ak (Bs (A0 (Ag ?_)))))))))))))))))))
   obtain rfl:=SJ h
   exact dn (Ad (ra De R R R) (Ad (ra Aon R R R) Aj)) (I8 R) R
  ·refine csr (fl Sc ti3 R R R R R R (sv R (B0 R R) (rm 1 R (Ak (ccI h R (fun h=>?_) (fun h=>?_))))))
   ·refine csr (ld De R R R R (rm 1 R (sv R (Ac Aqn R) (sv R (lo Acz R R R) ?_))))
    obtain ⟨v3,hv3,h⟩:=Ae h
    refine A8 R A0b (Aa R (Aa R (Aa R (Aa R Af)))) (An R) (Aax hv3) (sv R (Cc R) (sv R (Ai R R) (sv R (Ai R R) (sv R (Ai R R) (Bo R Qs (sst Iq R R R R R (rm 2 R (Ak (csr (ld De R R R R (rm 2 R (sv R (A3 Aj8 Aq6 (Av R (Av R Ay)) (.cons _ _ _ _ _ _ _ R R (Nbl R) (.cons _ _ _ _ _ _ _ R R (Nbl R) (.nil _)))) (sst Iq R R R R R (sst An6 R R R R R (Ak (Bs (A0 (Ag ?_))))))))))))))))))
    obtain rfl:=SJ h
    exact dn (Ad (ra De R R R) (Ad (ra Aon R R R) Aj)) (I8 R) R
   ·refine csr (fl Sc ti3 R R R R R R (sv R (Dl R R) (rm 1 R (Ak (ccI h R (fun h=>?_) (fun h=>?_))))))
    ·refine csr (ld De R R R R (rm 1 R (fl Anb N2 R R R R R R (fl Aqv N2 R R R R R R (fl Awb ti4 R R R R R R (sv R (A3 Aj9 Aww (Av R (Av R (Av R Ay))) (.cons _ _ _ _ _ _ _ R R (Nbl R) (.cons _ _ _ _ _ _ _ R R (Nbl R) (.cons _ _ _ _ _ _ _ R R (Nbl R) (.nil _))))) ?_))))))
     obtain ⟨v4,hv4,h⟩:=Ae h
     refine A8 R Ays (Aa R (Aa R (Aa R Af))) (An R) (Sr hv4) (sv R (Cc R) (sv R (Ai R R) (sv R (Ai R R) (Bo R Qs (sst Iq R R R R R (rm 1 R (Ak (csr (ld De R R R R (rm 1 R (sv R (A3 Aj8 Aq6 (Av R Ay) (.cons _ _ _ _ _ _ _ R R (Nbl R) (.nil _))) (sst Iq R R R R R (sst An6 R R R R R (Ak (Bs (A0 (Ag ?_)))))))))))))))))
     obtain rfl:=SJ h
     exact dn (Ad (ra De R R R) (Ad (ra Aon R R R) Aj)) (I8 R) R
    ·refine csr (fl Sc ti3 R R R R R R (sv R (Dl R R) (rm 1 R (Ak (ccI h R (fun h=>?_) (fun h=>?_))))))
     ·refine csr (ld De R R R R (sv R (A4 R) ?_))
      obtain ⟨v5,hv5,h⟩:=Ae h
      refine A8 R Ay0 (Aa R (Aa R Af)) (An R) (P1 hv5) (sv R (Cc R) (sv R (Ai R R) (sv R (Ai R R) (sv R (Ai R R) (Bo R Qs (sst Iq R R R R R (rm 2 R (Ak (csr (ld De R R R R (rm 2 R (sv R (A3 Aj8 Aq6 (Av R (Av R Ay)) (.cons _ _ _ _ _ _ _ R R (Nbl R) (.cons _ _ _ _ _ _ _ R R (Nbl R) (.nil _)))) (sst Iq R R R R R (sst An6 R R R R R (Ak (Bs (A0 (Ag ?_))))))))))))))))))
      obtain rfl:=SJ h
      exact dn (Ad (ra De R R R) (Ad (ra Aon R R R) Aj)) (I8 R) R
     ·refine csr (fl Sc ti3 R R R R R R (sv R (B0 R R) (rm 1 R (Ak (ccI h R (fun h=>?_) (fun h=>?_))))))
      ·refine csr (ld De R R R R (sv R (A4 R) ?_))
       obtain ⟨v6,hv6,h⟩:=Ae h
       refine A8 R A05 (Aa R (Aa R Af)) (An R) (Zs hv6) (sv R (Cc R) (sv R (Ai R R) (sv R (Ai R R) (Bo R Qs (sst Iq R R R R R (rm 1 R (Ak (csr (ld De R R R R (rm 1 R (sv R (A3 Aj8 Aq6 (Av R Ay) (.cons _ _ _ _ _ _ _ R R (Nbl R) (.nil _))) (sst Iq R R R R R (sst An6 R R R R R (Ak (Bs (A0 (Ag ?_)))))))))))))))))
       obtain rfl:=SJ h
       exact dn (Ad (ra De R R R) (Ad (ra Aon R R R) Aj)) (I8 R) R
      ·refine csr (fl Sc ti3 R R R R R R (sv R (B0 R R) (rm 1 R (Ak (ccI h R (fun h=>?_) (fun h=>?_))))))
       ·refine csr (ld De R R R R (fl Adn ti3 R R R R R R (sv R (Ac Are R) (sv R (l1 ti3 R R R) ?_))))
        obtain ⟨v7,hv7,h⟩:=Ae h
        refine A8 R A0e (Aa R (Aa R (Aa R Af))) (An R) (Yp hv7) (sv R (Cc R) (sv R (Ai R R) (sv R (Ai R R) (sv R (Ai R R) (Bo R Qs (sst Iq R R R R R (rm 2 R (Ak (csr (ld De R R R R (rm 2 R (sv R (A3 Aj8 Aq6 (Av R (Av R Ay)) (.cons _ _ _ _ _ _ _ R R (Nbl R) (.cons _ _ _ _ _ _ _ R R (Nbl R) (.nil _)))) (sst Iq R R R R R (sst An6 R R R R R (Ak (Bs (A0 (Ag ?_))))))))))))))))))
        obtain rfl:=SJ h
        exact dn (Ad (ra De R R R) (Ad (ra Aon R R R) Aj)) (I8 R) R
       ·refine Bf (Ao (Ab (csr (ld De R R R R (sv R (Ac Adn R) (sv R (l1 ti3 R R R) ?_))))))
        obtain ⟨v8,hv8,h⟩:=Ae h
        refine A8 R Az8 (Aa R (Aa R Af)) (An R) (Xg hv8) (sv R (Cc R) (sv R (Ai R R) (sv R (Ai R R) (Bo R Qs (sst Iq R R R R R (rm 1 R (Ak (csr (ld De R R R R (rm 1 R (sv R (A3 Aj8 Aq6 (Av R Ay) (.cons _ _ _ _ _ _ _ R R (Nbl R) (.nil _))) (sst Iq R R R R R (sst An6 R R R R R (Ak (Bs ?_)))))))))))))))
        obtain rfl:=SJ h
        exact dn (Ad (ra De R R R) (Ad (ra Aon R R R) Aj)) (I8 R) R
def O3 (b1:Ah × (List B2)):Option (Ah × (List B2)) :=
 some (b1.1,b1.2)
def Dv (s2:Int × Ah × (List B2) × (List B2)) (v5:Ah × I4) (b9:(List B2) × (List B2)):Option (LB (Int × Ah × (List B2) × (List B2)) (Ah × (List B2))) :=
 some (.cont ((wI (s2.1+1)),v5.1,b9.1,b9.2))
def Du (a0:List Cv) (s2:Int × Ah × (List B2) × (List B2)) (b3:Int) (v5:Ah × I4) (b8:(List B2)):Option (LB (Int × Ah × (List B2) × (List B2)) (Ah × (List B2))) :=
 (idx a0 s2.1).bind fun u10=>if (decide (7<u10.What)) then ((idx a0 s2.1).bind fun u11=>if (decide (u11.What≤10)) then (if (decide (v5.2.e_=0)) then (if (decide (b3<(b8.length:Int))) then ((idx b8 b3).bind fun u12=>(idx (b8.set b3.toNat ({u12 with end_:=v5.2.n_})) b3).bind fun u13=>if (s2.2.2.1.length+[u13].length)*48≤140737488355328 then (Dv s2 v5 ((s2.2.2.1++[u13]),(b8.set b3.toNat ({u12 with end_:=v5.2.n_})))) else none) else (Dv s2 v5 (s2.2.2.1,b8))) else (Dv s2 v5 (s2.2.2.1,b8))) else (Dv s2 v5 (s2.2.2.1,b8))) else (Dv s2 v5 (s2.2.2.1,b8))
def Fz (a0:List Cv) (s2:Int × Ah × (List B2) × (List B2)) (b3:Int) (v5:Ah × I4) (b7:(List B2)):Option (LB (Int × Ah × (List B2) × (List B2)) (Ah × (List B2))) :=
 (idx a0 s2.1).bind fun u15=>if (decide (1<u15.What)) then ((idx a0 s2.1).bind fun u16=>if (decide (u16.What≤7)) then (if (decide (v5.2.e_=0)) then (if (decide (b3<(b7.length:Int))) then ((idx b7 b3).bind fun u17=>(idx a0 s2.1).bind fun u18=>if (u17.acts_+([(Gd.mk u18 v5.2)]:List Gd).length)≤maxLen∧(u17.acts_+([(Gd.mk u18 v5.2)]:List Gd).length)*216≤140737488355328 then ((idx b7 b3).bind fun u20=>Du a0 s2 b3 v5 (b7.set b3.toNat ({u20 with acts_:=(u17.acts_+([(Gd.mk u18 v5.2)]:List Gd).length)}))) else none) else (Du a0 s2 b3 v5 b7)) else (Du a0 s2 b3 v5 b7)) else (Du a0 s2 b3 v5 b7)) else (Du a0 s2 b3 v5 b7)
def G9 (a0:List Cv) (s2:Int × Ah × (List B2) × (List B2)) (b3:Int) (v5:Ah × I4) (b6:Unit):Option (LB (Int × Ah × (List B2) × (List B2)) (Ah × (List B2))) :=
 (idx a0 s2.1).bind fun u21=>if (decide (u21.What≤1)) then (if (decide (v5.2.e_=0)) then (if (s2.2.2.2.length+[(B2.mk v5.2.n_ s2.2.1.Store.Ts 0 0)].length)*48≤140737488355328 then (Fz a0 s2 b3 v5 (s2.2.2.2++[(B2.mk v5.2.n_ s2.2.1.Store.Ts 0 0)])) else none) else (Fz a0 s2 b3 v5 s2.2.2.2)) else (Fz a0 s2 b3 v5 s2.2.2.2)
def Hk (a0:List Cv) (s2:Int × Ah × (List B2) × (List B2)) (b3:Int):Option (LB (Int × Ah × (List B2) × (List B2)) (Ah × (List B2))) :=
 (idx a0 s2.1).bind fun u4=>(Nz s2.2.1 u4 b3).bind fun v5=>if (decide (v5.2.e_=1)) then (if (decide (v5.1.Next=0)) then (some (.cont ((wI (s2.1+1)),s2.2.1,s2.2.2.1,s2.2.2.2))) else (G9 a0 s2 b3 v5 ())) else (G9 a0 s2 b3 v5 ())
def J6 (a0:List Cv) (s2:Int × Ah × (List B2) × (List B2)):Option (LB (Int × Ah × (List B2) × (List B2)) (Ah × (List B2))) :=
 if (decide (s2.1<(a0.length:Int))) then (if (decide (0<(s2.2.2.2.length:Int))) then ((idx a0 s2.1).bind fun u23=>if (s2.2.2.2.length:Int)≠0 then (Hk a0 s2 ((wI ((BitVec.ofInt 64 u23.N &&& BitVec.ofInt 64 65535).toNat:Int)).tmod (s2.2.2.2.length:Int))) else none) else (Hk a0 s2 0)) else (some (.brk (s2.2.1,s2.2.2.1)))
def Nn (a0:List Cv):Option (Ah × (List B2)) :=
 (Cw (J6 a0) fuel (0,E2,([]:List B2),([]:List B2))).bind fun e25=>O3 e25
theorem Xi {a0:List Cv}:∀ x ∈ ([.one (.sl a0.length (a0.flatMap Ch))]:List SV),NJs x:=by
 intro x hx
 obtain rfl:=zT.1 hx
 intro l hl
 obtain rfl:=zT.1 (show l ∈ [_] from hl)
 refine Al0 fun y l hl=>?_
 simp only [Ch,yN,List.not_mem_nil,or_false] at hl
 rcases hl with rfl | rfl | rfl | rfl | rfl | rfl | rfl | rfl | rfl | rfl | rfl <;> first | exact Azt | exact A0u | exact nj_s | exact Al0 Azm
theorem Yh {a0:List Cv} {r:Ah × (List B2)} (h:Nn a0=some r):Br Tryz.prog 17 [.one (.sl a0.length (a0.flatMap Ch))] (·=.tup [.agg (EL.el r.1),.one (.sl r.2.length (r.2.flatMap Bh))]):=by
 unfold Nn at h
 refine Aj0 Tryz.func17 R (nt:=151) R (Nbl R) Xi (fun x h=>by cases h) ?_
 intro w0 S0 hJ
 refine csr (Bo R Qs (rm 1 R (Ak (csr (sv R (A3 Qs Ak3 Ay (.nil _)) (Bo R Qs (sst Iq R R R R R (Ak (csr (rm 1 R (Ak (csr (rm 1 R (Ak (Bn (csr (rm 1 R (Ak ?_))))))))))))))))))
 refine Dh 79 4 6 (by decide) R ?_
 refine cj (Ah × (List B2)) (fun b1=>[(2,.s (.one (.lp 0 0))),(4,.s (.one (.lp 1 0))),(6,.s (.one (.ls 2 b1.2.length)))]) (fun b1=>[.box Zba,.box (EL.el b1.1),.arr 79 4 0 (b1.2.flatMap Bh)]) (fun b1=>O3 b1=some r) (fun _=>R) (fun b1 h=>?_) ?_
 ·unfold O3 at h
  refine csr (ld De R R R R (rm 1 R (sst Iq R R R R R (rm 1 R (Ak (Bs ?_))))))
  obtain rfl:=SJ h
  refine ⟨Or.inr R,_,_,_,(Ad (ra De R R R) (Ad (rt R) Aj)),(by (repeat' first | exact H6.nil _ | apply H6.cons | apply Hy.one | apply Hy.agg | exact C7.nil | exact C7.ls _ _ _ _ _ _ R (Aw (f:=Bh) (fun _=>R) _).symm | exact C7.id _ R | exact Cs.nil _ | apply Cs.cons)),?_⟩
  rfl
 ·skip
  refine Bq ?_
  refine Dh 79 4 5 (by decide) R ?_
  refine Xz 1 0 R R C7.nil R (Xz 1 1 R R C7.nil R (Xz 1 3 R R C7.nil R (Xz 1 4 R R C7.nil R (Xz 1 5 R R C7.nil R (Xz 1 6 R R C7.nil R ?_)))))
  obtain ⟨x2,hx2,ho2⟩:=Ae h
  refine lpo (G:=Nat × (Int × Ah × (List B2) × (List B2))) (fun g=>[(0,.s (.one (.sl a0.length (a0.flatMap Ch)))),(2,.s (.one (.lp 0 0))),(4,.s (.one (.lp 1 0))),(5,.s (.one (.ls 3 g.2.2.2.2.length))),(6,.s (.one (.ls 2 g.2.2.2.1.length))),(7,.s (.one (Ii6 g.2.1)))]) (fun g=>[.box Zba,.box (EL.el g.2.2.1),.arr 79 4 0 (g.2.2.2.1.flatMap Bh),.arr 79 4 0 (g.2.2.2.2.flatMap Bh)]) (fun g=>Cw (J6 a0) g.1 g.2=some x2) (fun g=>g.1) (fuel,(0,E2,([]:List B2),([]:List B2))) hx2 ⟨R,R,R,R,R,R,trivial⟩ [] R (fun _=>R) ?_
  clear hx2 h
  rintro ⟨n2,s2⟩ h
  obtain ⟨n2,y2,rfl,h,hk2⟩:=Cy h
  unfold J6 at h
  refine Bn (csr (rm 2 R (sv R (Au Aa1 R) (sv R (Bt R R) (Ak (ccI h R (fun h=>?_) (fun h=>?_)))))))
  ·refine Bf (Ab (Bn (Bq (csr (rm 1 R (Ak (Bn (csr (rm 1 R (sv R (Hj Ard R R (Aw (f:=Bh) (fun _=>R) _).symm) ?_))))))))))
   refine sv R (C9 R R) (Ak (cj (Int) (fun b3=>[(0,.s (.one (.sl a0.length (a0.flatMap Ch)))),(2,.s (.one (.lp 0 0))),(4,.s (.one (.lp 1 0))),(5,.s (.one (.ls 3 s2.2.2.2.length))),(6,.s (.one (.ls 2 s2.2.2.1.length))),(7,.s (.one (Ii6 s2.1))),(8,.s (.one (Ii6 b3)))]) (fun b3=>[.box Zba,.box (EL.el s2.2.1),.arr 79 4 0 (s2.2.2.1.flatMap Bh),.arr 79 4 0 (s2.2.2.2.flatMap Bh)]) (fun b3=>Hk a0 s2 b3=some y2) (fun _=>R) (fun b3 h=>?_) ?_))
   ·unfold Hk at h
    refine Bn (Ym (Ym ?_))
    obtain ⟨u4,hu4,h⟩:=Ae h
    obtain ⟨v5,hv5,h⟩:=Ae h
    refine Ahc [10,11,12,13] [0,0,0,6,14,0,63,127,255,255,0,0,3583,8191] [([false,false,false,false],[.box Zba,.box (EL.el s2.2.1),.arr 79 4 0 (s2.2.2.1.flatMap Bh),.arr 79 4 0 (s2.2.2.2.flatMap Bh),.hole,.hole]),([false,true,false,false],[.box Zba,.box (EL.el s2.2.1),.arr 79 4 0 (s2.2.2.1.flatMap Bh),.arr 79 4 0 (s2.2.2.2.flatMap Bh),.hole,.box [Ii6 0,.b false,Znl,Znl,Ii6 0]]),([true,false,false,false],[.box Zba,.box (EL.el s2.2.1),.arr 79 4 0 (s2.2.2.1.flatMap Bh),.arr 79 4 0 (s2.2.2.2.flatMap Bh),.box Zba,.hole]),([true,true,false,false],[.box Zba,.box (EL.el s2.2.1),.arr 79 4 0 (s2.2.2.1.flatMap Bh),.arr 79 4 0 (s2.2.2.2.flatMap Bh),.box Zba,.box [Ii6 0,.b false,Znl,Znl,Ii6 0]]),([true,true,true,false],[.box Zba,.box (EL.el s2.2.1),.arr 79 4 0 (s2.2.2.1.flatMap Bh),.arr 79 4 0 (s2.2.2.2.flatMap Bh),.box (EL.el v5.1),.box [Ii6 0,.b false,Znl,Znl,Ii6 0]]),([true,true,true,true],[.box Zba,.box (EL.el s2.2.1),.arr 79 4 0 (s2.2.2.1.flatMap Bh),.arr 79 4 0 (s2.2.2.2.flatMap Bh),.box (EL.el v5.1),.box (EL.el v5.2)])] (by kernel_rfl) mixed (by kernel_rfl) (by decide) R (by kernel_rfl) R R ?_
    refine mev (md:=[.box Zba,.box (EL.el s2.2.1),.arr 79 4 0 (s2.2.2.1.flatMap Bh),.arr 79 4 0 (s2.2.2.2.flatMap Bh),.dead,.dead]) (Ca R ⟨R,⟨R,⟨R,⟨R,⟨trivial,⟨trivial,trivial⟩⟩⟩⟩⟩⟩ (Ca R ⟨R,⟨R,⟨R,⟨R,⟨trivial,⟨trivial,trivial⟩⟩⟩⟩⟩⟩ (Ca R ⟨R,⟨R,⟨R,⟨R,⟨trivial,⟨trivial,trivial⟩⟩⟩⟩⟩⟩ (Ca R ⟨R,⟨R,⟨R,⟨R,⟨trivial,⟨trivial,trivial⟩⟩⟩⟩⟩⟩ (B4 R (B4 R Dj)))))) R R (lo De R R R) (Ap6 R R (fun _=>A4 R) ?_)
    refine Ap6 R R (fun _=>A4 R) ?_
    refine mev (md:=[.box Zba,.box (EL.el s2.2.1),.arr 79 4 0 (s2.2.2.1.flatMap Bh),.arr 79 4 0 (s2.2.2.2.flatMap Bh),.dead,.dead]) (Ca R ⟨R,⟨R,⟨R,⟨R,⟨trivial,⟨trivial,trivial⟩⟩⟩⟩⟩⟩ (Ca R ⟨R,⟨R,⟨R,⟨R,⟨trivial,⟨trivial,trivial⟩⟩⟩⟩⟩⟩ (Ca R ⟨R,⟨R,⟨R,⟨R,⟨trivial,⟨trivial,trivial⟩⟩⟩⟩⟩⟩ (Ca R ⟨R,⟨R,⟨R,⟨R,⟨trivial,⟨trivial,trivial⟩⟩⟩⟩⟩⟩ (B4 R (B4 R Dj)))))) R R (Cb (f:=Ch) Aa1 (fun _=>R) R R R R hu4) ?_
    refine mev (md:=[.box Zba,.box (EL.el s2.2.1),.arr 79 4 0 (s2.2.2.1.flatMap Bh),.arr 79 4 0 (s2.2.2.2.flatMap Bh),.dead,.dead]) (Ca R ⟨R,⟨R,⟨R,⟨R,⟨trivial,⟨trivial,trivial⟩⟩⟩⟩⟩⟩ (Ca R ⟨R,⟨R,⟨R,⟨R,⟨trivial,⟨trivial,trivial⟩⟩⟩⟩⟩⟩ (Ca R ⟨R,⟨R,⟨R,⟨R,⟨trivial,⟨trivial,trivial⟩⟩⟩⟩⟩⟩ (Ca R ⟨R,⟨R,⟨R,⟨R,⟨trivial,⟨trivial,trivial⟩⟩⟩⟩⟩⟩ (B4 R (B4 R Dj)))))) R R (Bz (ys:=[Ii6 u4.What,Ii6 u4.N,Ii6 u4.Token,Ii6 u4.Attempt,.b u4.RO,.b u4.Del,.sl u4.Key.length (u4.Key.flatMap eU8),.sl u4.Val.length (u4.Val.flatMap eU8),.sl u4.Rng.Lo.length (u4.Rng.Lo.flatMap eU8),.sl u4.Rng.Hi.length (u4.Rng.Hi.flatMap eU8),.b u4.Rng.Open]) Ayo R (.cp _) R R) (Ap6 R R (fun _=>A4 R) ?_)
    refine med (md:=[.box Zba,.box (EL.el s2.2.1),.arr 79 4 0 (s2.2.2.1.flatMap Bh),.arr 79 4 0 (s2.2.2.2.flatMap Bh),.dead,.dead]) (Ca R ⟨R,⟨R,⟨R,⟨R,⟨trivial,⟨trivial,trivial⟩⟩⟩⟩⟩⟩ (Ca R ⟨R,⟨R,⟨R,⟨R,⟨trivial,⟨trivial,trivial⟩⟩⟩⟩⟩⟩ (Ca R ⟨R,⟨R,⟨R,⟨R,⟨trivial,⟨trivial,trivial⟩⟩⟩⟩⟩⟩ (Ca R ⟨R,⟨R,⟨R,⟨R,⟨trivial,⟨trivial,trivial⟩⟩⟩⟩⟩⟩ (B4 R (B4 R Dj)))))) R R (Db Az6 (Aa R (Aa R (Aa R Af))) R (X3 hv5)) (Ap6 R R (fun _=>Cc R) ?_)
    refine mev (md:=[.box Zba,.box (EL.el s2.2.1),.arr 79 4 0 (s2.2.2.1.flatMap Bh),.arr 79 4 0 (s2.2.2.2.flatMap Bh),.dead,.dead]) (Ca R ⟨R,⟨R,⟨R,⟨R,⟨trivial,⟨trivial,trivial⟩⟩⟩⟩⟩⟩ (Ca R ⟨R,⟨R,⟨R,⟨R,⟨trivial,⟨trivial,trivial⟩⟩⟩⟩⟩⟩ (Ca R ⟨R,⟨R,⟨R,⟨R,⟨trivial,⟨trivial,trivial⟩⟩⟩⟩⟩⟩ (Ca R ⟨R,⟨R,⟨R,⟨R,⟨trivial,⟨trivial,trivial⟩⟩⟩⟩⟩⟩ (B4 R (B4 R Dj)))))) R R (Ai R R) (mev (md:=[.box Zba,.box (EL.el s2.2.1),.arr 79 4 0 (s2.2.2.1.flatMap Bh),.arr 79 4 0 (s2.2.2.2.flatMap Bh),.dead,.dead]) (Ca R ⟨R,⟨R,⟨R,⟨R,⟨trivial,⟨trivial,trivial⟩⟩⟩⟩⟩⟩ (Ca R ⟨R,⟨R,⟨R,⟨R,⟨trivial,⟨trivial,trivial⟩⟩⟩⟩⟩⟩ (Ca R ⟨R,⟨R,⟨R,⟨R,⟨trivial,⟨trivial,trivial⟩⟩⟩⟩⟩⟩ (Ca R ⟨R,⟨R,⟨R,⟨R,⟨trivial,⟨trivial,trivial⟩⟩⟩⟩⟩⟩ (Ca R ⟨R,⟨R,⟨R,⟨R,⟨trivial,⟨trivial,trivial⟩⟩⟩⟩⟩⟩ (B4 R Dj)))))) R R (Ai R R) (mee (x:=.s (.one (.lp 4 0))) 0 R R ?_ ?_))
    ·refine Ca R ⟨_,R,fun ζ=>?_⟩ ?_
     ·refine Ix 4 R Qs R ?_
      exact Rk
     refine Ca R ⟨_,R,fun ζ=>?_⟩ ?_
     ·refine Ix 4 R Qs R ?_
      exact Rk
     refine B4 R (B4 R (B4 R (B4 R ?_)))
     exact Dj
    refine mee (x:=.s (.one (.lp 5 0))) 1 R R ?_ ?_
    ·refine Ca R ⟨_,R,fun ζ=>?_⟩ ?_
     ·refine Ix 5 R Aj8 R ?_
      exact Rk
     refine B4 R (Ca R ⟨_,R,fun ζ=>?_⟩ ?_)
     ·refine Ix 5 R Aj8 R ?_
      exact Rk
     refine B4 R (B4 R (B4 R ?_))
     exact Dj
    refine Ave 2 R ?_ ?_
    ·refine B4 R (B4 R (B4 R (Ca R ⟨_,R,fun ζ=>?_⟩ ?_)))
     ·refine sst Iq R R R R R (Pq [.box Zba,.box (EL.el s2.2.1),.arr 79 4 0 (s2.2.2.1.flatMap Bh),.arr 79 4 0 (s2.2.2.2.flatMap Bh),.box (EL.el v5.1),.box [Ii6 0,.b false,Znl,Znl,Ii6 0]] R ?_)
      exact Rk
     refine B4 R (B4 R ?_)
     exact Dj
    refine Ave 3 R ?_ ?_
    ·refine B4 R (B4 R (B4 R (B4 R (Ca R ⟨_,R,fun ζ=>?_⟩ ?_))))
     ·refine sst An6 R R R R R (Pq [.box Zba,.box (EL.el s2.2.1),.arr 79 4 0 (s2.2.2.1.flatMap Bh),.arr 79 4 0 (s2.2.2.2.flatMap Bh),.box (EL.el v5.1),.box (EL.el v5.2)] R ?_)
      exact Rk
     refine B4 R ?_
     exact Dj
    refine Atm (Ab (Bn (Bn (cj3 (Unit) (fun b6=>[(0,.s (.one (.sl a0.length (a0.flatMap Ch)))),(2,.s (.one (.lp 0 0))),(4,.s (.one (.lp 1 0))),(5,.s (.one (.ls 3 s2.2.2.2.length))),(6,.s (.one (.ls 2 s2.2.2.1.length))),(7,.s (.one (Ii6 s2.1))),(8,.s (.one (Ii6 b3))),(9,.s (.one (.lp 4 0))),(10,.s (.one (.lp 5 0)))]) (fun b6=>[.box Zba,.box (EL.el s2.2.1),.arr 79 4 0 (s2.2.2.1.flatMap Bh),.arr 79 4 0 (s2.2.2.2.flatMap Bh),.box (EL.el v5.1),.box (EL.el v5.2)]) (fun b6=>G9 a0 s2 b3 v5 b6=some y2) (fun _=>R) (fun b6 h=>?_) ?_))))
    ·unfold G9 at h
     refine Bn (Bn (cj3 ((List B2)) (fun b7=>[(0,.s (.one (.sl a0.length (a0.flatMap Ch)))),(2,.s (.one (.lp 0 0))),(4,.s (.one (.lp 1 0))),(5,.s (.one (.ls 3 b7.length))),(6,.s (.one (.ls 2 s2.2.2.1.length))),(7,.s (.one (Ii6 s2.1))),(8,.s (.one (Ii6 b3))),(9,.s (.one (.lp 4 0))),(10,.s (.one (.lp 5 0)))]) (fun b7=>[.box Zba,.box (EL.el s2.2.1),.arr 79 4 0 (s2.2.2.1.flatMap Bh),.arr 79 4 0 (b7.flatMap Bh),.box (EL.el v5.1),.box (EL.el v5.2)]) (fun b7=>Fz a0 s2 b3 v5 b7=some y2) (fun _=>R) (fun b7 h=>?_) ?_))
     ·unfold Fz at h
      refine Bn (Bn (cj3 ((List B2)) (fun b8=>[(0,.s (.one (.sl a0.length (a0.flatMap Ch)))),(2,.s (.one (.lp 0 0))),(4,.s (.one (.lp 1 0))),(5,.s (.one (.ls 3 b8.length))),(6,.s (.one (.ls 2 s2.2.2.1.length))),(7,.s (.one (Ii6 s2.1))),(8,.s (.one (Ii6 b3))),(9,.s (.one (.lp 4 0))),(10,.s (.one (.lp 5 0)))]) (fun b8=>[.box Zba,.box (EL.el s2.2.1),.arr 79 4 0 (s2.2.2.1.flatMap Bh),.arr 79 4 0 (b8.flatMap Bh),.box (EL.el v5.1),.box (EL.el v5.2)]) (fun b8=>Du a0 s2 b3 v5 b8=some y2) (fun _=>R) (fun b8 h=>?_) ?_))
      ·unfold Du at h
       refine Bn (Bn (cj3 ((List B2) × (List B2)) (fun b9=>[(0,.s (.one (.sl a0.length (a0.flatMap Ch)))),(2,.s (.one (.lp 0 0))),(4,.s (.one (.lp 1 0))),(5,.s (.one (.ls 3 b9.2.length))),(6,.s (.one (.ls 2 b9.1.length))),(7,.s (.one (Ii6 s2.1))),(9,.s (.one (.lp 4 0)))]) (fun b9=>[.box Zba,.box (EL.el s2.2.1),.arr 79 4 0 (b9.1.flatMap Bh),.arr 79 4 0 (b9.2.flatMap Bh),.box (EL.el v5.1),.box (EL.el v5.2)]) (fun b9=>Dv s2 v5 b9=some y2) (fun _=>R) (fun b9 h=>?_) ?_))
       ·unfold Dv at h
        refine Ap (ld De R R R R (sst Iq R R R R R (Ki (Ao (Ab (Ap (rm 1 R (sv R (Bm R R) (rm 1 R (Ak ?_))))))))))
        obtain rfl:=SJ h
        exact ⟨(n2,((wI (s2.1+1)),v5.1,b9.1,b9.2)),_,hk2,⟨R,R,R,R,R,R,trivial⟩,R,zH _⟩
       ·skip
        refine Ap (rm 1 R (sv R (A4 R) ?_))
        obtain ⟨u10,hu10,h⟩:=Ae h
        refine sv R (Cb (f:=Ch) Aa1 (fun _=>R) R R R R hu10) ?_
        refine sv R (Ce Sc R) (sv R (B6 ti3 R (.cp _) R) (sv R (C9 R R) (rm 1 R (ssI 116 h R (fun h=>?_) (fun h=>?_)))))
        ·refine rm 2 R (son R R R ?_)
         obtain ⟨u11,hu11,h⟩:=Ae h
         refine sv R (Cb (f:=Ch) Aa1 (fun _=>R) R R R R hu11) ?_
         refine son R R R (sv R (Ce Sc R) (son R R R (sv R (B6 ti3 R (.cp _) R) (son R R R (sv R (Dl R R) (rm 2 R (ssI 124 h R (fun h=>?_) (fun h=>?_))))))))
         ·refine son R R R (sv R (Ac Aew R) (son R R R (sv R (l1 Awt R R R) (son R R R (sv R (B0 R R) (rm 2 R (ssI 129 h R (fun h=>?_) (fun h=>?_))))))))
          ·refine rm 2 R (son R R R (sv R (Hj Ard R R (Aw (f:=Bh) (fun _=>R) _).symm) ?_))
           refine son R R R (sv R (Bt R R) (rm 1 R (Ak (ccI h R (fun h=>?_) (fun h=>?_)))))
           ·refine csr (rm 2 R (sv R (Ac Aq5 R) (sv R (l1 ti3 R R R) ?_)))
            obtain ⟨u12,hu12,h⟩:=Ae h
            refine sv R (Gq (f:=Bh) Ard (fun _=>R) R R R R R hu12) ?_
            refine sv R (Ie Av9 R R (Aw (f:=Bh) (fun _=>R) _).symm) ?_
            refine Zf (f:=Bh) (u':={u12 with end_:=v5.2.n_}) (sz:=4) 2 sz3 (fun _=>R) R R R R R R R (zJ.1 R) (Iv hu12).2 (Nbl R) R ?_
            refine Mf 5 (y:=.s (.one (.ls 3 b8.length))) (.s (.one (.ls 3 (b8.set b3.toNat ({u12 with end_:=v5.2.n_})).length))) R (congrArg (fun n=>AV.s (.one (.ls 3 n))) List.length_set.symm) ?_
            refine Mf 131 (y:=.s (.one (.ls 3 b8.length))) (.s (.one (.ls 3 (b8.set b3.toNat ({u12 with end_:=v5.2.n_})).length))) R (congrArg (fun n=>AV.s (.one (.ls 3 n))) List.length_set.symm) ?_
            refine Mf 135 (y:=.s (.one (.ls 3 b8.length))) (.s (.one (.ls 3 (b8.set b3.toNat ({u12 with end_:=v5.2.n_})).length))) R (congrArg (fun n=>AV.s (.one (.ls 3 n))) List.length_set.symm) ?_
            refine Ak (Ap (rm 2 R (sv R (A4 R) ?_)))
            obtain ⟨u13,hu13,h⟩:=Ae h
            refine sv R (Gq (f:=Bh) Ard (fun _=>R) R R R R R hu13) ?_
            refine sv R (Oi (f:=Bh) (sz:=4) 0 A0o (fun _=>R) R R R R (Iv hu13).2 (Nbl R) R) ?_
            refine Fo R Tryz.underlying73 Awy R R (zJ.1 R) (by decide) ?_
            refine Pq [.box Zba,.box (EL.el s2.2.1),.arr 79 4 0 (s2.2.2.1.flatMap Bh),.arr 79 4 0 ((b8.set b3.toNat ({u12 with end_:=v5.2.n_})).flatMap Bh),.box (EL.el v5.1),.box (EL.el v5.2),.arr 79 4 0 ([u13].flatMap Bh)] R ?_
            obtain ⟨hb14,h⟩:=Cr h
            refine Ub (f:=Bh) (xs:=s2.2.2.1) (us:=[u13]) R Tryz.underlying73 Awy Azz (fun _=>R) R R (.one _ _ _ _ (.ls _ _ _ _ _ _ R (Aw (f:=Bh) (fun _=>R) [u13]).symm)) R R R (.sl _ _ _ (Aw (f:=Bh) (fun _=>R) _)) R R hb14 (by decide) ?_
            refine rm 1 R (Ak ?_)
            exact ⟨((s2.2.2.1++[u13]),(b8.set b3.toNat ({u12 with end_:=v5.2.n_}))),_,h,⟨R,R,R,R,R,R,R,trivial⟩,R⟩
           ·refine Bf (Ab ?_)
            exact ⟨(s2.2.2.1,b8),_,h,⟨R,R,R,R,R,R,R,trivial⟩,R⟩
          ·refine rm 5 R (Ak (Ck R (fun hx=>Bool.noConfusion hx) (fun _=>?_)))
           refine Bf (Ab ?_)
           exact ⟨(s2.2.2.1,b8),_,h,⟨R,R,R,R,R,R,R,trivial⟩,R⟩
         ·refine rm 10 R (Ak (Ck R (fun hx=>Bool.noConfusion hx) (fun _=>?_)))
          refine Bf (Ab ?_)
          exact ⟨(s2.2.2.1,b8),_,h,⟨R,R,R,R,R,R,R,trivial⟩,R⟩
        ·refine rm 18 R (Ak (Ck R (fun hx=>Bool.noConfusion hx) (fun _=>?_)))
         refine Bf (Ab ?_)
         exact ⟨(s2.2.2.1,b8),_,h,⟨R,R,R,R,R,R,R,trivial⟩,R⟩
      ·skip
       refine Ap (rm 1 R (sv R (A4 R) ?_))
       obtain ⟨u15,hu15,h⟩:=Ae h
       refine sv R (Cb (f:=Ch) Aa1 (fun _=>R) R R R R hu15) ?_
       refine sv R (Ce Sc R) (sv R (B6 ti3 R (.cp _) R) (sv R (C9 R R) (rm 1 R (ssI 74 h R (fun h=>?_) (fun h=>?_)))))
       ·refine rm 2 R (son R R R ?_)
        obtain ⟨u16,hu16,h⟩:=Ae h
        refine sv R (Cb (f:=Ch) Aa1 (fun _=>R) R R R R hu16) ?_
        refine son R R R (sv R (Ce Sc R) (son R R R (sv R (B6 ti3 R (.cp _) R) (son R R R (sv R (Dl R R) (rm 2 R (ssI 82 h R (fun h=>?_) (fun h=>?_))))))))
        ·refine son R R R (sv R (Ac Aew R) (son R R R (sv R (l1 Awt R R R) (son R R R (sv R (B0 R R) (rm 2 R (ssI 87 h R (fun h=>?_) (fun h=>?_))))))))
         ·refine rm 2 R (son R R R (sv R (Hj Ard R R (Aw (f:=Bh) (fun _=>R) _).symm) ?_))
          refine son R R R (sv R (Bt R R) (rm 1 R (Ak (ccI h R (fun h=>?_) (fun h=>?_)))))
          ·obtain ⟨u17,hu17,h⟩:=Ae h
           obtain ⟨u18,hu18,h⟩:=Ae h
           obtain ⟨hb19,h⟩:=Cr h
           obtain ⟨u20,hu20,h⟩:=Ae h
           refine Ku [14,17] [0,0,0,0,12,28,60,0,0,384,896,0,3968,8064,16380,32767,65535,131071] [[.box Zba,.box (EL.el s2.2.1),.arr 79 4 0 (s2.2.2.1.flatMap Bh),.arr 79 4 0 (b7.flatMap Bh),.box (EL.el v5.1),.box (EL.el v5.2)],[.box Zba,.box (EL.el s2.2.1),.arr 79 4 0 (s2.2.2.1.flatMap Bh),.arr 79 4 0 (b7.flatMap Bh),.box (EL.el v5.1),.box (EL.el v5.2)],[.box Zba,.box (EL.el s2.2.1),.arr 79 4 0 (s2.2.2.1.flatMap Bh),.arr 79 4 0 ((b7.set b3.toNat ({u20 with acts_:=(u17.acts_+([(Gd.mk u18 v5.2)]:List Gd).length)})).flatMap Bh),.box (EL.el v5.1),.box (EL.el v5.2)]] (by kernel_rfl) mixed (by kernel_rfl) (by decide) R R R R ?_
           refine emv R R (fun _=>A4 R) ?_
           refine emv R R (fun _=>A4 R) ?_
           refine ev (A9 0 R R) R R (A4 R) (ev (A9 0 R R) R R (A4 R) ?_)
           refine ev (A9 0 rfl rfl) rfl rfl (Gq (f:=Bh) Ard (fun _=>rfl) rfl rfl rfl (by first | rfl | exact List.length_set.symm) rfl hu17) ?_
           refine ev (A9 0 R R) R R (Ie Arf R R (Aw (f:=Bh) (fun _=>R) _).symm) ?_
           refine ev (A9 0 R R) R R (Acm (f:=Bh) 3 A0j (fun _=>R) R R R R (Iv hu17).2 R) ?_
           refine ev (A9 0 R R) R R (A4 R) (ev (A9 0 R R) R R (A4 R) (ev (A9 0 R R) R R (Cb (f:=Ch) Aa1 (fun _=>R) R R R R hu18) ?_))
           refine ev (A9 0 R R) R R (Bz (ys:=[Ii6 u18.What,Ii6 u18.N,Ii6 u18.Token,Ii6 u18.Attempt,.b u18.RO,.b u18.Del,.sl u18.Key.length (u18.Key.flatMap eU8),.sl u18.Val.length (u18.Val.flatMap eU8),.sl u18.Rng.Lo.length (u18.Rng.Lo.flatMap eU8),.sl u18.Rng.Hi.length (u18.Rng.Hi.flatMap eU8),.b u18.Rng.Open]) Ayo R (.cp _) R R) (ev (A9 0 R R) R R (lo Aon R R R) (ev (A9 0 R R) R R (A3 Ax4 Axc (Av R (Av R Ay)) (.cons _ _ _ _ _ _ _ R R (Nbl R) (.cons _ _ _ _ _ _ _ R R (Nbl R) (.nil _)))) ?_))
           refine ed (A9 0 R R) R R (Zl (out:=([(Gd.mk u18 v5.2)]:List Gd).flatMap Acx) Tryz.underlying77 Awe (Av R Ay) (.cons _ _ _ _ _ _ _ R R (Nbl R) (.nil _)) R (by decide)) ?_
           refine ee (x:=.s (.one (.jk 152 16 (u17.acts_+([(Gd.mk u18 v5.2)]:List Gd).length)))) 0 R R R R R (fun ζ=>?_) ?_
           ·refine Ay9 hJ R Tryz.underlying77 Awe A0p R R (.one _ _ _ _ (.id _ R)) (.sl _ _ _ (Aw (f:=Acx) (fun _=>R) _)) hb19 ?_
            exact Rk
           refine ev (A9 1 rfl rfl) rfl rfl (Gq (f:=Bh) Ard (fun _=>rfl) rfl rfl rfl (by first | rfl | exact List.length_set.symm) rfl hu20) ?_
           refine ev (A9 1 R R) R R (Ie Arf R R (Aw (f:=Bh) (fun _=>R) _).symm) ?_
           refine ee0 1 R R R R (fun ζ=>?_) ?_
           ·refine Zf (f:=Bh) (u':={u20 with acts_:=(u17.acts_+([(Gd.mk u18 v5.2)]:List Gd).length)}) (sz:=4) 3 A1a (fun _=>rfl) rfl rfl rfl rfl (by first | rfl | exact List.length_set.symm) rfl rfl (zJ.1 rfl) (Iv hu20).2 (Nbl rfl) rfl ?_
            exact Rk
           refine Aps 5 (y:=.s (.one (.ls 3 b7.length))) (.s (.one (.ls 3 (b7.set b3.toNat ({u20 with acts_:=(u17.acts_+([(Gd.mk u18 v5.2)]:List Gd).length)})).length))) R (congrArg (fun n=>AV.s (.one (.ls 3 n))) List.length_set.symm) ?_
           refine Aps 89 (y:=.s (.one (.ls 3 b7.length))) (.s (.one (.ls 3 (b7.set b3.toNat ({u20 with acts_:=(u17.acts_+([(Gd.mk u18 v5.2)]:List Gd).length)})).length))) R (congrArg (fun n=>AV.s (.one (.ls 3 n))) List.length_set.symm) ?_
           refine Aps 93 (y:=.s (.one (.ls 3 b7.length))) (.s (.one (.ls 3 (b7.set b3.toNat ({u20 with acts_:=(u17.acts_+([(Gd.mk u18 v5.2)]:List Gd).length)})).length))) R (congrArg (fun n=>AV.s (.one (.ls 3 n))) List.length_set.symm) ?_
           refine Aps 95 (y:=.s (.one (.ls 3 b7.length))) (.s (.one (.ls 3 (b7.set b3.toNat ({u20 with acts_:=(u17.acts_+([(Gd.mk u18 v5.2)]:List Gd).length)})).length))) R (congrArg (fun n=>AV.s (.one (.ls 3 n))) List.length_set.symm) ?_
           refine Abf (Ab ?_)
           exact ⟨(b7.set b3.toNat ({u20 with acts_:=(u17.acts_+([(Gd.mk u18 v5.2)]:List Gd).length)})),_,h,⟨R,R,R,R,R,R,R,R,R,trivial⟩,R⟩
          ·refine Bf (Ab ?_)
           exact ⟨b7,_,h,⟨R,R,R,R,R,R,R,R,R,trivial⟩,R⟩
         ·refine rm 5 R (Ak (Ck R (fun hx=>Bool.noConfusion hx) (fun _=>?_)))
          refine Bf (Ab ?_)
          exact ⟨b7,_,h,⟨R,R,R,R,R,R,R,R,R,trivial⟩,R⟩
        ·refine rm 10 R (Ak (Ck R (fun hx=>Bool.noConfusion hx) (fun _=>?_)))
         refine Bf (Ab ?_)
         exact ⟨b7,_,h,⟨R,R,R,R,R,R,R,R,R,trivial⟩,R⟩
       ·refine rm 18 R (Ak (Ck R (fun hx=>Bool.noConfusion hx) (fun _=>?_)))
        refine Bf (Ab ?_)
        exact ⟨b7,_,h,⟨R,R,R,R,R,R,R,R,R,trivial⟩,R⟩
     ·skip
      refine Ap (rm 1 R (sv R (A4 R) ?_))
      obtain ⟨u21,hu21,h⟩:=Ae h
      refine sv R (Cb (f:=Ch) Aa1 (fun _=>R) R R R R hu21) ?_
      refine sv R (Ce Sc R) (sv R (B6 ti3 R (.cp _) R) (sv R (Dl R R) (rm 1 R (ssI 54 h R (fun h=>?_) (fun h=>?_)))))
      ·refine son R R R (sv R (Ac Aew R) (son R R R (sv R (l1 Awt R R R) (son R R R (sv R (B0 R R) (rm 1 R (Ak (ccI h R (fun h=>?_) (fun h=>?_)))))))))
       ·refine Ap (rm 1 R (fl Aq5 ti3 R R R R R R (sv R (Ac Sz R) (fl Ro ti3 R R R R R R (sv R (A3 A09 A0x (Av R (Av R Ay)) (.cons _ _ _ _ _ _ _ R R (Nbl R) (.cons _ _ _ _ _ _ _ R R (Nbl R) (.nil _)))) ?_)))))
        refine Ahv 65 R (by (repeat' first | exact H6.nil _ | apply H6.cons | apply Hy.one | apply Hy.agg | exact C7.nilj 152 16 | exact C7.ls _ _ _ _ _ _ R (Aw (f:=Bh) (fun _=>R) _).symm | exact C7.id _ R | exact Cs.nil _ | apply Cs.cons)) ?_
        refine Fo R Tryz.underlying73 Awy R R (zJ.1 R) (by decide) ?_
        refine Pq [.box Zba,.box (EL.el s2.2.1),.arr 79 4 0 (s2.2.2.1.flatMap Bh),.arr 79 4 0 (s2.2.2.2.flatMap Bh),.box (EL.el v5.1),.box (EL.el v5.2),.arr 79 4 0 ([(B2.mk v5.2.n_ s2.2.1.Store.Ts 0 0)].flatMap Bh)] R ?_
        obtain ⟨hb22,h⟩:=Cr h
        refine Ub (f:=Bh) (xs:=s2.2.2.2) (us:=[(B2.mk v5.2.n_ s2.2.1.Store.Ts 0 0)]) R Tryz.underlying73 Awy Azz (fun _=>R) R R (.one _ _ _ _ (.ls _ _ _ _ _ _ R (Aw (f:=Bh) (fun _=>R) [(B2.mk v5.2.n_ s2.2.1.Store.Ts 0 0)]).symm)) R R R (.sl _ _ _ (Aw (f:=Bh) (fun _=>R) _)) R R hb22 (by decide) ?_
        refine rm 1 R (Ak ?_)
        exact ⟨(s2.2.2.2++[(B2.mk v5.2.n_ s2.2.1.Store.Ts 0 0)]),_,h,⟨R,R,R,R,R,R,R,R,R,trivial⟩,R⟩
       ·refine Bf (Ab ?_)
        exact ⟨s2.2.2.2,_,h,⟨R,R,R,R,R,R,R,R,R,trivial⟩,R⟩
      ·refine rm 4 R (Ak (Ck R (fun hx=>Bool.noConfusion hx) (fun _=>?_)))
       refine Bf (Ab ?_)
       exact ⟨s2.2.2.2,_,h,⟨R,R,R,R,R,R,R,R,R,trivial⟩,R⟩
    ·skip
     refine Ap (fl Aew Awt R R R R R R (sv R (B0 R R) (rm 1 R (ssI 43 h R (fun h=>?_) (fun h=>?_)))))
     ·refine son R R R (sv R (Ac Ti R) (son R R R (sv R (l1 ti3 R R R) (son R R R (sv R (B0 R R) (rm 1 R (Ak (ccI h R (fun h=>?_) (fun h=>?_)))))))))
      ·refine Dd (Ar (Bj (Ab (Ap (rm 1 R (sv R (Bm R R) (rm 1 R (Ak ?_))))))))
       obtain rfl:=SJ h
       exact ⟨(n2,((wI (s2.1+1)),s2.2.1,s2.2.2.1,s2.2.2.2)),_,hk2,⟨R,R,R,R,R,R,trivial⟩,R,zH _⟩
      ·refine Bf (Ab ?_)
       exact ⟨(),_,h,⟨R,R,R,R,R,R,R,R,R,trivial⟩,R⟩
     ·refine rm 4 R (Ak (Ck R (fun hx=>Bool.noConfusion hx) (fun _=>?_)))
      refine Bf (Ab ?_)
      exact ⟨(),_,h,⟨R,R,R,R,R,R,R,R,R,trivial⟩,R⟩
   ·skip
    refine ccI h R (fun h=>?_) (fun h=>?_)
    ·refine Ap (rm 1 R (sv R (A4 R) ?_))
     obtain ⟨u23,hu23,h⟩:=Ae h
     refine sv R (Cb (f:=Ch) Aa1 (fun _=>R) R R R R hu23) ?_
     refine sv R (Ce Ari R) (sv R (B6 ti3 R (.cp _) R) (sv R (Ali R R) (rm 1 R (sv R (Hj Ard R R (Aw (f:=Bh) (fun _=>R) _).symm) ?_))))
     obtain ⟨hz24,h⟩:=Cr h
     refine sv R (Anz R R hz24) (rm 1 R (Ak ?_))
     exact ⟨((wI ((BitVec.ofInt 64 u23.N &&& BitVec.ofInt 64 65535).toNat:Int)).tmod (s2.2.2.2.length:Int)),_,h,⟨R,R,R,R,R,R,R,trivial⟩,R⟩
    ·refine Bf (Ab ?_)
     exact ⟨0,_,h,⟨R,R,R,R,R,R,R,trivial⟩,R⟩
  ·refine Dd (Ar (Ar (Bj (Ab ?_))))
   obtain rfl:=SJ h
   obtain rfl:_=x2:=hk2
   exact ⟨(s2.2.1,s2.2.2.1),_,ho2,⟨R,R,R,trivial⟩,R⟩
def Rj (a0:Ah) (a1:Int):Option (Bc × Bool) :=
 (Fc a0 a1).bind fun v1=>some (v1.1,(decide (v1.2=0)))
theorem Aal {a0:Ah} {a1:Int} {r:Bc × Bool} (h:Rj a0 a1=some r):Br Tryz.prog 22 [.agg (EL.el a0),.one (Ii6 a1)] (·=.tup [.agg (EL.el r.1),.one (.b r.2)]):=by
 unfold Rj at h
 refine A2 Tryz.func22 R (nt:=17) R (Nbl R) ?_
 intro w0 S0
 refine csr (F2 R R (Bo R Aag (rm 1 R (Ak (csr (ld De R R R R (sv R (A4 R) ?_)))))))
 obtain ⟨v1,hv1,h⟩:=Ae h
 refine A8 R At5 (Aa R (Aa R Af)) (An R) (Ll hv1) (sv R (Cc R) (sv R (Ai R R) (sv R (Ai R R) (Bo R Aag (sst Aah R R R R R (rm 1 R (Ak (csr (ld Wc R R R R (rm 1 R (sv R (B0 R R) (sst Aah R R R R R (rm 1 R (Ak (Bs ?_)))))))))))))))
 obtain rfl:=SJ h
 exact dn (Ad (ra Wc R R R) (Ad (rt R) Aj)) (An R) R
def Lv (a2:List UInt8) (v1:Bool) (v5:Ah × Int × Int) (v6:Ah × (List UInt8) × Bool × Int) (b7:Ah):Option Bool :=
 (Rj b7 v5.2.1).bind fun v8=>(Hs b7 v5.2.1 a2).bind fun v9=>if v1 then (if v8.2 then (if (!decide (v9.2.2.2=0)) then (if (decide (v9.2.2.2=0)) then (some true) else (if (decide (v9.2.2.2=10)) then (some true) else (some (decide (v9.2.2.2=8))))) else (if (v6.2.1 == v9.2.1) then (if (v6.2.2.1 == v9.2.2.1) then (if (decide (v9.2.2.2=0)) then (some true) else (if (decide (v9.2.2.2=10)) then (some true) else (some (decide (v9.2.2.2=8))))) else (some false)) else (some false))) else (some false)) else (some false)
def K9 (a1:List Cv) (s10:Int × Ah) (u11:Cv) (b13:Unit):Option (LB (Int × Ah) (Ah)) :=
 (idx a1 s10.1).bind fun u14=>(Nz s10.2 u14 ((wI ((BitVec.ofInt 64 u11.N &&& BitVec.ofInt 64 65535).toNat:Int)).tmod (if s10.2.Next > 1 then s10.2.Next else 1))).bind fun v15=>if (!decide (v15.2.e_=1)) then (some (.cont ((wI (s10.1+1)),v15.1))) else (if (!decide (v15.1.Next=0)) then (some (.cont ((wI (s10.1+1)),v15.1))) else (some (.cont ((wI (s10.1+1)),s10.2))))
def Fp (a1:List Cv) (v5:Ah × Int × Int) (s10:Int × Ah):Option (LB (Int × Ah) (Ah)) :=
 if (decide (s10.1<(a1.length:Int))) then ((idx a1 s10.1).bind fun u11=>if (if s10.2.Next > 1 then s10.2.Next else 1)≠0 then (if (decide (((wI ((BitVec.ofInt 64 u11.N &&& BitVec.ofInt 64 65535).toNat:Int)).tmod (if s10.2.Next > 1 then s10.2.Next else 1))=v5.2.1)) then (some (.cont ((wI (s10.1+1)),s10.2))) else ((idx a1 s10.1).bind fun u16=>if (decide (u16.Token=1073741824)) then (some (.cont ((wI (s10.1+1)),s10.2))) else ((idx a1 s10.1).bind fun u17=>if (decide (13<u17.What)) then (some (.cont ((wI (s10.1+1)),s10.2))) else (K9 a1 s10 u11 ())))) else none) else (some (.brk s10.2))
def L5 (a0:List Cv) (a1:List Cv) (a2:List UInt8) (v1:Bool) (b3:Unit):Option Bool :=
 (Nn a0).bind fun v4=>(Iu v4.1 1073741824 1 true).bind fun v5=>if (!decide (v5.2.2=0)) then (if v1 then (some (decide (15<(wI ((wI ((v5.1.Open.length:Int)+(v5.1.Cert.Txs.length:Int)))+(v5.1.Toks.L.length:Int)))))) else (some false)) else ((Hs v5.1 v5.2.1 a2).bind fun v6=>if (!decide (v6.2.2.2=0)) then (some v1) else (if (decide (v6.1.Next<1)) then (some false) else ((Cw (Fp a1 v5) fuel (0,v6.1)).bind fun e18=>Lv a2 v1 v5 v6 e18)))
def Fq (a0:List Cv) (v1:Bool) (s19:Int):Option (LR (Int) (Unit) (Bool)) :=
 if (decide (s19<(a0.length:Int))) then ((idx a0 s19).bind fun u20=>if (decide (u20.Token=1073741824)) then (some (.ret v1)) else (some (.cont (wI (s19+1))))) else (some (.brk ()))
def L0 (a0:List Cv) (a1:List Cv) (a2:List UInt8) (v1:Bool) (b2:Unit):Option Bool :=
 (Lj (Fq a0 v1) fuel 0).bind fun x=>match x with | .inl r=>some r | .inr e21=>L5 a0 a1 a2 v1 e21
def Oo (a0:List Cv) (a1:List Cv) (a2:List UInt8):Option Bool :=
 (Q3).bind fun v1=>(M6 a0).bind fun v22=>if (!v22) then (some v1) else ((M6 a1).bind fun v23=>if (!v23) then (some v1) else (if (decide (16<(a2.length:Int))) then (some v1) else (if (decide ((a2.length:Int)=0)) then (some v1) else (L0 a0 a1 a2 v1 ()))))
theorem Xm {a0:List Cv} {a1:List Cv} {a2:List UInt8} {r:Bool} (h:Oo a0 a1 a2=some r):Br Tryz.prog 6 [.one (.sl a0.length (a0.flatMap Ch)),.one (.sl a1.length (a1.flatMap Ch)),.one (.sl a2.length (a2.flatMap eU8))] (·=.s (.one (.b r))):=by
 unfold Oo at h
 refine A2 Tryz.func6 R (nt:=205) R (Nbl R) ?_
 intro w0 S0
 refine csr (rm 1 R (Ak (Bn (Ap ?_))))
 obtain ⟨v1,hv1,h⟩:=Ae h
 refine A8 R fn9 Af (An R) (Aas hv1) (rm 1 R (Ak (Bn (Bn (cj3 (Unit) (fun b2=>[(0,.s (.one (.sl a0.length (a0.flatMap Ch)))),(1,.s (.one (.sl a1.length (a1.flatMap Ch)))),(2,.s (.one (.sl a2.length (a2.flatMap eU8)))),(7,.s (.one (.b v1)))]) (fun b2=>[]) (fun b2=>L0 a0 a1 a2 v1 b2=some r) (fun _=>R) (fun b2 h=>?_) ?_)))))
 ·unfold L0 at h
  refine Bn (csr (rm 1 R (Ak (cj (Unit) (fun b3=>[(0,.s (.one (.sl a0.length (a0.flatMap Ch)))),(1,.s (.one (.sl a1.length (a1.flatMap Ch)))),(2,.s (.one (.sl a2.length (a2.flatMap eU8)))),(7,.s (.one (.b v1)))]) (fun b3=>[]) (fun b3=>L5 a0 a1 a2 v1 b3=some r) (fun _=>R) (fun b3 h=>?_) ?_))))
  ·unfold L5 at h
   refine csr (sv R (A4 R) ?_)
   obtain ⟨v4,hv4,h⟩:=Ae h
   refine A8 R A0i (Aa R Af) (An R) (Yh hv4) (sv R (Cc R) (sv R (Ai R R) (sv R (Ai R R) (Bo R Qs (sst Iq R R R R R (rm 1 R (Ak (csr (sv R (lo De R R R) ?_)))))))))
   obtain ⟨v5,hv5,h⟩:=Ae h
   refine A8 R Awv (Aa R (Aa R (Aa R (Aa R Af)))) (An R) (Ow hv5) (sv R (Cc R) (sv R (Ai R R) (sv R (Ai R R) (sv R (Ai R R) (sst Iq R R R R R (rm 2 R (Ak (Bn (csr (rm 1 R (sv R (C6 R R) (Ak (ccI h R (fun h=>?_) (fun h=>?_))))))))))))))
   ·refine csr (rm 2 R (ssI 73 h R (fun h=>?_) (fun h=>?_)))
    ·refine son R R R (sv R (Ac Rc R) (son R R R (sv R (l1 Ail R R R) (son R R R (sv R (Au Y4 R) (son R R R (sv R (Ac Sy R) (son R R R (sv R (Ac N0 R) (son R R R (sv R (l1 Aaj R R R) (son R R R (sv R (Au Qd R) (son R R R (sv R (Bm R R) (son R R R (sv R (Ac Ty R) (son R R R (sv R (Ac U4 R) (son R R R (sv R (l1 Akv R R R) (son R R R (sv R (Au Abp R) (son R R R (sv R (Bm R R) (son R R R (sv R (C9 R R) (rm 2 R (Ak (Bs (Ag ?_)))))))))))))))))))))))))))))))
     obtain rfl:=SJ h
     exact dnT R R R R
    ·refine rm 16 R (Ak (Bs (Ag ?_)))
     obtain rfl:=SJ h
     exact dnT R R R R
   ·refine Bf (Ab (csr (ld De R R R R (rm 1 R (sv R (A4 R) ?_)))))
    obtain ⟨v6,hv6,h⟩:=Ae h
    refine A8 R Auo (Aa R (Aa R (Aa R Af))) (An R) (Oc hv6) (sv R (Cc R) (sv R (Ai R R) (sv R (Ai R R) (sv R (Ai R R) (sv R (Ai R R) (sst Iq R R R R R (rm 3 R (Ak (Bn (csr (rm 1 R (sv R (C6 R R) (Ak (ccI h R (fun h=>?_) (fun h=>?_)))))))))))))))
    ·refine csr (rm 2 R (Ak (Bs (Ag ?_))))
     obtain rfl:=SJ h
     exact dnT R R R R
    ·refine Bf (Ab (Bn (csr (fl Ti ti3 R R R R R R (sv R (Bt R R) (Ak (ccI h R (fun h=>?_) (fun h=>?_))))))))
     ·refine csr (rm 1 R (Ak (Bs (Ag ?_))))
      obtain rfl:=SJ h
      exact dnT R R R R
     ·refine Bf (Ab (Bn (csr (rm 1 R (Ak (cj (Ah) (fun b7=>[(2,.s (.one (.sl a2.length (a2.flatMap eU8)))),(7,.s (.one (.b v1))),(9,.s (.one (.lp 0 0))),(11,.s (.one (Ii6 v5.2.1))),(13,.s (.one (.sl v6.2.1.length (v6.2.1.flatMap eU8)))),(14,.s (.one (.b v6.2.2.1)))]) (fun b7=>[.box (EL.el b7)]) (fun b7=>Lv a2 v1 v5 v6 b7=some r) (fun _=>R) (fun b7 h=>?_) ?_))))))
      ·unfold Lv at h
       refine csr (ld De R R R R (sv R (A4 R) ?_))
       obtain ⟨v8,hv8,h⟩:=Ae h
       refine A8 R A1c (Aa R (Aa R Af)) (An R) (Aal hv8) (sv R (Cc R) (sv R (Ai R R) (sv R (Ai R R) (Bo R Aag (sst Aah R R R R R (rm 1 R (Ak (csr (ld De R R R R (rm 1 R (sv R (A4 R) ?_)))))))))))
       obtain ⟨v9,hv9,h⟩:=Ae h
       refine A8 R Auo (Aa R (Aa R (Aa R Af))) (An R) (Oc hv9) (sv R (Cc R) (sv R (Ai R R) (sv R (Ai R R) (sv R (Ai R R) (sv R (Ai R R) (Bo R Qs (sst Iq R R R R R (rm 3 R (Ak (csr (rm 2 R (ssI 174 h R (fun h=>?_) (fun h=>?_)))))))))))))
       ·refine rm 3 R (ssI 177 h R (fun h=>?_) (fun h=>?_))
        ·refine rm 1 R (son R R R (sv R (C6 R R) (rm 1 R (ssI 180 h R (fun h=>?_) (fun h=>?_)))))
         ·refine rm 6 R (B8 R R R (B8 R R R (B8 R R R (rm 5 R (son R R R (sv R (B0 R R) (rm 1 R (ssI 196 h R (fun h=>?_) (fun h=>?_)))))))))
          ·refine rm 9 R (Ak (Bs ?_))
           obtain rfl:=SJ h
           exact dnT R R R R
          ·refine rm 1 R (son R R R (sv R (B0 R R) (rm 2 R (ssI 200 h R (fun h=>?_) (fun h=>?_)))))
           ·refine rm 5 R (Ak (Bs ?_))
            obtain rfl:=SJ h
            exact dnT R R R R
           ·refine rm 1 R (son R R R (sv R (B0 R R) (rm 3 R (Ak (Bs ?_)))))
            obtain rfl:=SJ h
            exact dnT R R R R
         ·refine rm 1 R (son R R R (sv R (Wi (l:=v6.2.1) Tryz.underlying56 Tryz.underlying5 Tryz.underlying9 R R R) (rm 1 R (son R R R (sv R (Wi (l:=v9.2.1) Tryz.underlying56 Tryz.underlying5 Tryz.underlying9 R R R) (son R R R (sv R (Aea R R) (rm 1 R (ssI 186 h R (fun h=>?_) (fun h=>?_))))))))))
          ·refine rm 2 R (son R R R (sv R (Acs Tryz.underlying4 R R) (rm 4 R (ssI 193 h R (fun h=>?_) (fun h=>?_)))))
           ·refine rm 1 R (son R R R (sv R (B0 R R) (rm 1 R (ssI 196 h R (fun h=>?_) (fun h=>?_)))))
            ·refine rm 9 R (Ak (Bs ?_))
             obtain rfl:=SJ h
             exact dnT R R R R
            ·refine rm 1 R (son R R R (sv R (B0 R R) (rm 2 R (ssI 200 h R (fun h=>?_) (fun h=>?_)))))
             ·refine rm 5 R (Ak (Bs ?_))
              obtain rfl:=SJ h
              exact dnT R R R R
             ·refine rm 1 R (son R R R (sv R (B0 R R) (rm 3 R (Ak (Bs ?_)))))
              obtain rfl:=SJ h
              exact dnT R R R R
           ·refine rm 3 R (B8 R R R (B8 R R R (rm 2 R (B8 R R R (B8 R R R (rm 3 R (Ak (Bs ?_))))))))
            obtain rfl:=SJ h
            exact dnT R R R R
          ·refine rm 10 R (B8 R R R (B8 R R R (rm 2 R (B8 R R R (B8 R R R (rm 3 R (Ak (Bs ?_))))))))
           obtain rfl:=SJ h
           exact dnT R R R R
        ·refine rm 3 R (B8 R R R (B8 R R R (B8 R R R (B8 R R R (B8 R R R (B8 R R R (B8 R R R (B8 R R R (B8 R R R (B8 R R R (rm 6 R (B8 R R R (B8 R R R (rm 2 R (B8 R R R (B8 R R R (rm 3 R (Ak (Bs ?_)))))))))))))))))))
         obtain rfl:=SJ h
         exact dnT R R R R
       ·refine rm 6 R (B8 R R R (B8 R R R (B8 R R R (B8 R R R (B8 R R R (B8 R R R (B8 R R R (B8 R R R (B8 R R R (B8 R R R (rm 6 R (B8 R R R (B8 R R R (rm 2 R (B8 R R R (B8 R R R (rm 3 R (Ak (Bs ?_)))))))))))))))))))
        obtain rfl:=SJ h
        exact dnT R R R R
      ·skip
       refine Bq ?_
       obtain ⟨x10,hx10,ho10⟩:=Ae h
       refine lpo (G:=Nat × (Int × Ah)) (fun g=>[(1,.s (.one (.sl a1.length (a1.flatMap Ch)))),(2,.s (.one (.sl a2.length (a2.flatMap eU8)))),(7,.s (.one (.b v1))),(9,.s (.one (.lp 0 0))),(11,.s (.one (Ii6 v5.2.1))),(13,.s (.one (.sl v6.2.1.length (v6.2.1.flatMap eU8)))),(14,.s (.one (.b v6.2.2.1))),(16,.s (.one (Ii6 g.2.1)))]) (fun g=>[.box (EL.el g.2.2)]) (fun g=>Cw (Fp a1 v5) g.1 g.2=some x10) (fun g=>g.1) (fuel,(0,v6.1)) hx10 ⟨R,R,R,R,R,R,R,R,trivial⟩ [] R (fun _=>R) ?_
       clear hx10 h
       rintro ⟨n10,s10⟩ h
       obtain ⟨n10,y10,rfl,h,hk10⟩:=Cy h
       unfold Fp at h
       refine Bn (csr (rm 2 R (sv R (Au Aa1 R) (sv R (Bt R R) (Ak (ccI h R (fun h=>?_) (fun h=>?_)))))))
       ·refine Bf (Ab (Bn (Bq (Bn ?_))))
        refine Aav mixed (by kernel_rfl) ?_
        refine dv R (A4 R) (dv R (A4 R) ?_)
        obtain ⟨u11,hu11,h⟩:=Ae h
        refine dv R (Cb (f:=Ch) Aa1 (fun _=>R) R R R R hu11) ?_
        refine dv R (Ce Ari R) (dv R (B6 ti3 R (.cp _) R) (dv R (Ali R R) (dv R (Ac Ti R) (dv R (l1 ti3 R R R) (dv R (Aly R R) ?_)))))
        obtain ⟨hz12,h⟩:=Cr h
        refine dv R (Anz R R hz12) (dv R (Lh R) (Ad3 (Ab (Bn (Bn (cj3 (Unit) (fun b13=>[(1,.s (.one (.sl a1.length (a1.flatMap Ch)))),(2,.s (.one (.sl a2.length (a2.flatMap eU8)))),(7,.s (.one (.b v1))),(9,.s (.one (.lp 0 0))),(11,.s (.one (Ii6 v5.2.1))),(13,.s (.one (.sl v6.2.1.length (v6.2.1.flatMap eU8)))),(14,.s (.one (.b v6.2.2.1))),(16,.s (.one (Ii6 s10.1))),(17,.s (.one (Ii6 ((wI ((BitVec.ofInt 64 u11.N &&& BitVec.ofInt 64 65535).toNat:Int)).tmod (if s10.2.Next > 1 then s10.2.Next else 1)))))]) (fun b13=>[.box (EL.el s10.2)]) (fun b13=>K9 a1 s10 u11 b13=some y10) (fun _=>R) (fun b13 h=>?_) ?_))))))
        ·unfold K9 at h
         refine Bn (Ym (Ym ?_))
         obtain ⟨u14,hu14,h⟩:=Ae h
         obtain ⟨v15,hv15,h⟩:=Ae h
         refine Ahc [10,11,12,13] [0,0,0,6,14,0,63,127,255,255,0,0,3583,8191] [([false,false,false,false],[.box (EL.el s10.2),.hole,.hole]),([false,true,false,false],[.box (EL.el s10.2),.hole,.box [Ii6 0,.b false,Znl,Znl,Ii6 0]]),([true,false,false,false],[.box (EL.el s10.2),.box Zba,.hole]),([true,true,false,false],[.box (EL.el s10.2),.box Zba,.box [Ii6 0,.b false,Znl,Znl,Ii6 0]]),([true,true,true,false],[.box (EL.el s10.2),.box (EL.el v15.1),.box [Ii6 0,.b false,Znl,Znl,Ii6 0]]),([true,true,true,true],[.box (EL.el s10.2),.box (EL.el v15.1),.box (EL.el v15.2)])] (by kernel_rfl) mixed (by kernel_rfl) (by decide) R (by kernel_rfl) R R ?_
         refine mev (md:=[.box (EL.el s10.2),.dead,.dead]) (Ca R ⟨R,⟨trivial,⟨trivial,trivial⟩⟩⟩ (Ca R ⟨R,⟨trivial,⟨trivial,trivial⟩⟩⟩ (Ca R ⟨R,⟨trivial,⟨trivial,trivial⟩⟩⟩ (Ca R ⟨R,⟨trivial,⟨trivial,trivial⟩⟩⟩ (B4 R (B4 R Dj)))))) R R (lo De R R R) (Ap6 R R (fun _=>A4 R) ?_)
         refine Ap6 R R (fun _=>A4 R) ?_
         refine mev (md:=[.box (EL.el s10.2),.dead,.dead]) (Ca R ⟨R,⟨trivial,⟨trivial,trivial⟩⟩⟩ (Ca R ⟨R,⟨trivial,⟨trivial,trivial⟩⟩⟩ (Ca R ⟨R,⟨trivial,⟨trivial,trivial⟩⟩⟩ (Ca R ⟨R,⟨trivial,⟨trivial,trivial⟩⟩⟩ (B4 R (B4 R Dj)))))) R R (Cb (f:=Ch) Aa1 (fun _=>R) R R R R hu14) ?_
         refine mev (md:=[.box (EL.el s10.2),.dead,.dead]) (Ca R ⟨R,⟨trivial,⟨trivial,trivial⟩⟩⟩ (Ca R ⟨R,⟨trivial,⟨trivial,trivial⟩⟩⟩ (Ca R ⟨R,⟨trivial,⟨trivial,trivial⟩⟩⟩ (Ca R ⟨R,⟨trivial,⟨trivial,trivial⟩⟩⟩ (B4 R (B4 R Dj)))))) R R (Bz (ys:=[Ii6 u14.What,Ii6 u14.N,Ii6 u14.Token,Ii6 u14.Attempt,.b u14.RO,.b u14.Del,.sl u14.Key.length (u14.Key.flatMap eU8),.sl u14.Val.length (u14.Val.flatMap eU8),.sl u14.Rng.Lo.length (u14.Rng.Lo.flatMap eU8),.sl u14.Rng.Hi.length (u14.Rng.Hi.flatMap eU8),.b u14.Rng.Open]) Ayo R (.cp _) R R) (Ap6 R R (fun _=>A4 R) ?_)
         refine med (md:=[.box (EL.el s10.2),.dead,.dead]) (Ca R ⟨R,⟨trivial,⟨trivial,trivial⟩⟩⟩ (Ca R ⟨R,⟨trivial,⟨trivial,trivial⟩⟩⟩ (Ca R ⟨R,⟨trivial,⟨trivial,trivial⟩⟩⟩ (Ca R ⟨R,⟨trivial,⟨trivial,trivial⟩⟩⟩ (B4 R (B4 R Dj)))))) R R (Db Az6 (Aa R (Aa R (Aa R Af))) R (X3 hv15)) (Ap6 R R (fun _=>Cc R) ?_)
         refine mev (md:=[.box (EL.el s10.2),.dead,.dead]) (Ca R ⟨R,⟨trivial,⟨trivial,trivial⟩⟩⟩ (Ca R ⟨R,⟨trivial,⟨trivial,trivial⟩⟩⟩ (Ca R ⟨R,⟨trivial,⟨trivial,trivial⟩⟩⟩ (Ca R ⟨R,⟨trivial,⟨trivial,trivial⟩⟩⟩ (B4 R (B4 R Dj)))))) R R (Ai R R) (mev (md:=[.box (EL.el s10.2),.dead,.dead]) (Ca R ⟨R,⟨trivial,⟨trivial,trivial⟩⟩⟩ (Ca R ⟨R,⟨trivial,⟨trivial,trivial⟩⟩⟩ (Ca R ⟨R,⟨trivial,⟨trivial,trivial⟩⟩⟩ (Ca R ⟨R,⟨trivial,⟨trivial,trivial⟩⟩⟩ (Ca R ⟨R,⟨trivial,⟨trivial,trivial⟩⟩⟩ (B4 R Dj)))))) R R (Ai R R) (mee (x:=.s (.one (.lp 1 0))) 0 R R ?_ ?_))
         ·refine Ca R ⟨_,R,fun ζ=>?_⟩ ?_
          ·refine Ix 1 R Qs R ?_
           exact Rk
          refine Ca R ⟨_,R,fun ζ=>?_⟩ ?_
          ·refine Ix 1 R Qs R ?_
           exact Rk
          refine B4 R (B4 R (B4 R (B4 R ?_)))
          exact Dj
         refine mee (x:=.s (.one (.lp 2 0))) 1 R R ?_ ?_
         ·refine Ca R ⟨_,R,fun ζ=>?_⟩ ?_
          ·refine Ix 2 R Aj8 R ?_
           exact Rk
          refine B4 R (Ca R ⟨_,R,fun ζ=>?_⟩ ?_)
          ·refine Ix 2 R Aj8 R ?_
           exact Rk
          refine B4 R (B4 R (B4 R ?_))
          exact Dj
         refine Ave 2 R ?_ ?_
         ·refine B4 R (B4 R (B4 R (Ca R ⟨_,R,fun ζ=>?_⟩ ?_)))
          ·refine sst Iq R R R R R (Pq [.box (EL.el s10.2),.box (EL.el v15.1),.box [Ii6 0,.b false,Znl,Znl,Ii6 0]] R ?_)
           exact Rk
          refine B4 R (B4 R ?_)
          exact Dj
         refine Ave 3 R ?_ ?_
         ·refine B4 R (B4 R (B4 R (B4 R (Ca R ⟨_,R,fun ζ=>?_⟩ ?_))))
          ·refine sst An6 R R R R R (Pq [.box (EL.el s10.2),.box (EL.el v15.1),.box (EL.el v15.2)] R ?_)
           exact Rk
          refine B4 R ?_
          exact Dj
         refine Atm (Ab (csr (fl Aew Awt R R R R R R (sv R (C6 R R) (rm 1 R (ssI 152 h R (fun h=>?_) (fun h=>?_)))))))
         ·refine rm 4 R (Ak (Ck R (fun _=>?_) (fun hx=>Bool.noConfusion hx)))
          refine Ap (ld De R R R R (sst Iq R R R R R (Ki (Ao (Ab (Ap (rm 1 R (sv R (Bm R R) (rm 1 R (Ak ?_))))))))))
          obtain rfl:=SJ h
          exact ⟨(n10,((wI (s10.1+1)),v15.1)),_,hk10,⟨R,R,R,R,R,R,R,R,trivial⟩,R,zH _⟩
         ·refine son R R R (sv R (Ac Ti R) (son R R R (sv R (l1 ti3 R R R) (son R R R (sv R (C6 R R) (rm 1 R (Ak (ccI h R (fun h=>?_) (fun h=>?_)))))))))
          ·refine Ap (ld De R R R R (sst Iq R R R R R (Ki (Ao (Ab (Ap (rm 1 R (sv R (Bm R R) (rm 1 R (Ak ?_))))))))))
           obtain rfl:=SJ h
           exact ⟨(n10,((wI (s10.1+1)),v15.1)),_,hk10,⟨R,R,R,R,R,R,R,R,trivial⟩,R,zH _⟩
          ·refine Bf (Ao (Ab (Ap (rm 1 R (sv R (Bm R R) (rm 1 R (Ak ?_)))))))
           obtain rfl:=SJ h
           exact ⟨(n10,((wI (s10.1+1)),s10.2)),_,hk10,⟨R,R,R,R,R,R,R,R,trivial⟩,R,zH _⟩
        ·skip
         refine Ap (rm 2 R (sv R (B0 R R) (rm 1 R (ssI 123 h R (fun h=>?_) (fun h=>?_)))))
         ·refine rm 15 R (Ak (Ck R (fun _=>?_) (fun hx=>Bool.noConfusion hx)))
          refine Dd (Ar (Bj (Ab (Ap (rm 1 R (sv R (Bm R R) (rm 1 R (Ak ?_))))))))
          obtain rfl:=SJ h
          exact ⟨(n10,((wI (s10.1+1)),s10.2)),_,hk10,⟨R,R,R,R,R,R,R,R,trivial⟩,R,zH _⟩
         ·refine rm 2 R (son R R R ?_)
          obtain ⟨u16,hu16,h⟩:=Ae h
          refine sv R (Cb (f:=Ch) Aa1 (fun _=>R) R R R R hu16) ?_
          refine son R R R (sv R (Ce Adn R) (son R R R (sv R (B6 ti3 R (.cp _) R) (son R R R (sv R (B0 R R) (rm 2 R (ssI 131 h R (fun h=>?_) (fun h=>?_))))))))
          ·refine rm 7 R (Ak (Ck R (fun _=>?_) (fun hx=>Bool.noConfusion hx)))
           refine Dd (Ar (Bj (Ab (Ap (rm 1 R (sv R (Bm R R) (rm 1 R (Ak ?_))))))))
           obtain rfl:=SJ h
           exact ⟨(n10,((wI (s10.1+1)),s10.2)),_,hk10,⟨R,R,R,R,R,R,R,R,trivial⟩,R,zH _⟩
          ·refine rm 2 R (son R R R ?_)
           obtain ⟨u17,hu17,h⟩:=Ae h
           refine sv R (Cb (f:=Ch) Aa1 (fun _=>R) R R R R hu17) ?_
           refine son R R R (sv R (Ce Sc R) (son R R R (sv R (B6 ti3 R (.cp _) R) (son R R R (sv R (C9 R R) (rm 1 R (Ak (ccI h R (fun h=>?_) (fun h=>?_)))))))))
           ·refine Dd (Ar (Bj (Ab (Ap (rm 1 R (sv R (Bm R R) (rm 1 R (Ak ?_))))))))
            obtain rfl:=SJ h
            exact ⟨(n10,((wI (s10.1+1)),s10.2)),_,hk10,⟨R,R,R,R,R,R,R,R,trivial⟩,R,zH _⟩
           ·refine Bf (Ab ?_)
            exact ⟨(),_,h,⟨R,R,R,R,R,R,R,R,R,trivial⟩,R⟩
       ·refine Dd (Ar (Ar (Bj (Ab ?_))))
        obtain rfl:=SJ h
        obtain rfl:_=x10:=hk10
        exact ⟨s10.2,_,ho10,⟨R,R,R,R,R,R,trivial⟩,R⟩
  ·skip
   refine Bq ?_
   obtain ⟨x19,hx19,ho19⟩:=Ae h
   refine lpo (G:=Nat × (Int)) (fun g=>[(0,.s (.one (.sl a0.length (a0.flatMap Ch)))),(1,.s (.one (.sl a1.length (a1.flatMap Ch)))),(2,.s (.one (.sl a2.length (a2.flatMap eU8)))),(7,.s (.one (.b v1))),(8,.s (.one (Ii6 g.2)))]) (fun g=>[]) (fun g=>Lj (Fq a0 v1) g.1 g.2=some x19) (fun g=>g.1) (fuel,0) hx19 ⟨R,R,R,R,R,trivial⟩ [] R (fun _=>R) ?_
   clear hx19 h
   rintro ⟨n19,s19⟩ h
   obtain ⟨n19,y19,rfl,h,hk19⟩:=Fh h
   unfold Fq at h
   refine Bn (csr (rm 2 R (sv R (Au Aa1 R) (sv R (Bt R R) (Ak (ccI h R (fun h=>?_) (fun h=>?_)))))))
   ·refine Bf (Ab (Bn (Bq (csr (rm 1 R (sv R (A4 R) ?_))))))
    obtain ⟨u20,hu20,h⟩:=Ae h
    refine sv R (Cb (f:=Ch) Aa1 (fun _=>R) R R R R hu20) ?_
    refine sv R (Ce Adn R) (sv R (B6 ti3 R (.cp _) R) (sv R (B0 R R) (Ak (ccI h R (fun h=>?_) (fun h=>?_)))))
    ·refine csr (rm 2 R (Ak (Bs (A0 (Ag (Ag (A0 (Ag ?_))))))))
     obtain rfl:=SJ h
     obtain rfl:Sum.inl _=x19:=hk19
     replace ho19:some _=some _:=ho19
     obtain rfl:=zD ho19
     exact dnT R R R R
    ·refine Bf (Ao (Ab (Ap (rm 1 R (sv R (Bm R R) (rm 1 R (Ak ?_)))))))
     obtain rfl:=SJ h
     exact ⟨(n19,(wI (s19+1))),_,hk19,⟨R,R,R,R,R,trivial⟩,R,zH _⟩
   ·refine Dd (Ar (Ar (Bj (Ab ?_))))
    obtain rfl:=SJ h
    obtain rfl:_=x19:=hk19
    exact ⟨(),_,ho19,⟨R,R,R,R,trivial⟩,R⟩
 ·skip
  refine Ap (sv R (A4 R) ?_)
  obtain ⟨v22,hv22,h⟩:=Ae h
  refine A8 R Azy (Aa R Af) (An R) (T6 hv22) (sv R (B1 R) (rm 1 R (ssI 30 h R (fun h=>?_) (fun h=>?_))))
  ·refine rm 14 R (Ak (Ck R (fun _=>?_) (fun hx=>Bool.noConfusion hx)))
   refine csr (rm 2 R (Ak (Bs (Ag ?_))))
   obtain rfl:=SJ h
   exact dnT R R R R
  ·refine rm 1 R (son R R R ?_)
   obtain ⟨v23,hv23,h⟩:=Ae h
   refine A8 R Azy (Aa R Af) (An R) (T6 hv23) (son R R R (sv R (B1 R) (rm 2 R (ssI 35 h R (fun h=>?_) (fun h=>?_)))))
   ·refine rm 9 R (Ak (Ck R (fun _=>?_) (fun hx=>Bool.noConfusion hx)))
    refine csr (rm 2 R (Ak (Bs (Ag ?_))))
    obtain rfl:=SJ h
    exact dnT R R R R
   ·refine rm 1 R (son R R R (sv R (Au Xb R) (son R R R (sv R (C9 R R) (rm 2 R (ssI 40 h R (fun h=>?_) (fun h=>?_)))))))
    ·refine rm 4 R (Ak (Ck R (fun _=>?_) (fun hx=>Bool.noConfusion hx)))
     refine csr (rm 2 R (Ak (Bs (Ag ?_))))
     obtain rfl:=SJ h
     exact dnT R R R R
    ·refine rm 1 R (son R R R (sv R (Au Xb R) (son R R R (sv R (B0 R R) (rm 1 R (Ak (ccI h R (fun h=>?_) (fun h=>?_))))))))
     ·refine csr (rm 2 R (Ak (Bs (Ag ?_))))
      obtain rfl:=SJ h
      exact dnT R R R R
     ·refine Bf (Ab ?_)
      exact ⟨(),_,h,⟨R,R,R,R,trivial⟩,R⟩
end Go.Proofs.YtkblaobhhoebaaaGreat.Abs
