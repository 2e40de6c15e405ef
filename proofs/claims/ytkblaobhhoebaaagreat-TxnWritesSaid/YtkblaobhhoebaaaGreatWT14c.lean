/-
 t
-/
import Derived.Test.YtkblaobhhoebaaaGreatWT14b
set_option linter.unusedVariables false
set_option linter.unusedSimpArgs false
namespace Go.Proofs.YtkblaobhhoebaaaGreat.Abs
open Go.RowKit Go.Proofs
set_option maxRecDepth 100000
def G9 (a0:List (List UInt8)) (a1:List UInt8):Option Int :=
 (Lj (Dp a0 a1) fuel 0).bind fun x=>match x with | .inl r=>some r | .inr e5=>Fp e5
theorem Rt {a0:List (List UInt8)} {a1:List UInt8} {r:Int} (h:G9 a0 a1=some r):Dl Tryz.prog 147 [.arr 56 1 0 (a0.flatMap (eL eU8))] [.one (.ls 0 a0.length),.one (.fn 148 [.sl a1.length (a1.flatMap eU8)] [])] (fun y m'=>y=.s (.one (Ii6 r))∧m'=[.arr 56 1 0 (a0.flatMap (eL eU8))]):=by
 unfold G9 at h
 refine Dc Tryz.func147 R (nt:=19) R (Nbl R) ?_
 intro w0 S0 X0 H0
 refine csr (rm 1 R (Ak (Bl (csr (rm 1 R (sv R (Fu S7 R R (Au (f:=(eL eU8)) (fun _=>R) _).symm) ?_))))))
 refine rm 1 R (Ak (cj (Unit) (fun b1=>[]) (fun b1=>[.arr 56 1 0 (a0.flatMap (eL eU8))]) (fun b1=>Fp b1=some r) (fun _=>R) (fun b1 h=>?_) ?_))
 ·unfold Fp at h
  refine csr (rm 1 R (Ak (Bs ?_)))
  obtain rfl:=SJ h
  exact ⟨Or.inr R,_,[0],[.one (Ii6 (-1))],[.arr 56 1 0 (a0.flatMap (eL eU8))],(Ad (rt R) Ai),R,R,⟨by decide,R⟩,R,R,⟨R,R⟩⟩
 ·skip
  refine Bq ?_
  obtain ⟨x2,hx2,ho2⟩:=Ae h
  refine lpo (G:=Nat × (Int)) (fun g=>[(0,.s (.one (.ls 0 a0.length))),(1,.s (.one (.fn 148 [.sl a1.length (a1.flatMap eU8)] []))),(7,.s (.one (Ii6 (a0.length:Int)))),(8,.s (.one (Ii6 g.2)))]) (fun g=>[.arr 56 1 0 (a0.flatMap (eL eU8))]) (fun g=>Lj (Dp a0 a1) g.1 g.2=some x2) (fun g=>g.1) (fuel,0) hx2 ⟨R,R,R,R,trivial⟩ [] R (fun _=>R) ?_
  clear hx2 h
  rintro ⟨n2,s2⟩ h
  obtain ⟨n2,y2,rfl,h,hk2⟩:=Es h
  unfold Dp at h
  refine csr (sv R (Bt R R) (Ak (Bl (ccI h R (fun h=>?_) (fun h=>?_)))))
  ·refine Bf (Ab (Bl (Bq (csr (rm 2 R (Ak (csr (rm 2 R (sv R (A4 R) ?_)))))))))
   obtain ⟨u3,hu3,h⟩:=Ae h
   refine sv R (Et (f:=(eL eU8)) S7 (fun _=>R) R R R R R hu3) ?_
   refine sv R (Rs (f:=(eL eU8)) 0 Mz (fun _=>R) R R R R (Gq hu3).2 R) ?_
   obtain ⟨v4,hv4,h⟩:=Ae h
   refine sd R (T3 Awg (.fn _ _ _ _ R) (Aa R Af) R (N6 hv4)) (Ak (ccI h R (fun h=>?_) (fun h=>?_)))
   ·refine csr (rm 2 R (Ak (Bs (Az (Ag (Ag (Az (Ag ?_))))))))
    obtain rfl:=SJ h
    obtain rfl:Sum.inl _=x2:=hk2
    replace ho2:some _=some _:=ho2
    obtain rfl:=zD ho2
    exact ⟨Or.inr R,_,[0],[.one (Ii6 s2)],[.arr 56 1 0 (a0.flatMap (eL eU8))],(Ad (rt R) Ai),R,R,⟨by decide,R⟩,R,R,⟨R,R⟩⟩
   ·refine Bf (Ap (Ab (Aq (sv R (Bo R R) (rm 1 R (Ak ?_))))))
    obtain rfl:=SJ h
    exact ⟨(n2,(wI (s2+1))),_,hk2,⟨R,R,R,R,trivial⟩,R,zG _⟩
  ·refine Da (As (As (Bj (Ab ?_))))
   obtain rfl:=SJ h
   obtain rfl:_=x2:=hk2
   exact ⟨(),_,ho2,trivial,R⟩
def Ns (a0:List (List UInt8)) (a1:List UInt8):Option (Int × Bool) :=
 (G9 a0 a1).bind fun v1=>if (decide (v1<0)) then (some ((a0.length:Int),false)) else ((idx a0 v1).bind fun u2=>(Fl u2 a1).bind fun v3=>some (v1,v3))
theorem Yu {a0:List (List UInt8)} {a1:List UInt8} {r:Int × Bool} (h:Ns a0 a1=some r):Dl Tryz.prog 69 [.arr 56 1 0 (a0.flatMap (eL eU8))] [.one (.ls 0 a0.length),.one (.sl a1.length (a1.flatMap eU8))] (fun y m'=>y=.tup [.one (Ii6 r.1),.one (.b r.2)]∧m'=[.arr 56 1 0 (a0.flatMap (eL eU8))]):=by
 unfold Ns at h
 refine Dc Tryz.func69 R (nt:=22) R (Nbl R) ?_
 intro w0 S0 X0 H0
 refine csr (rm 2 R (Ak (csr (rm 2 R (sv R (T9 (V4 R R Qp) Qp) ?_)))))
 obtain ⟨v1,hv1,h⟩:=Ae h
 refine Ie (x':=.s (.one (Ii6 v1))) (M':=[.arr 56 1 0 (a0.flatMap (eL eU8))]) [0] R Auy (.func _) (Aa R (Aa R Af)) (Rt hv1) R R (by decide) R R R ?_
 refine rm 1 R (Ak (Bl (csr (rm 1 R (sv R (Bt R R) (Ak (ccI h R (fun h=>?_) (fun h=>?_))))))))
 ·refine csr (rm 1 R (sv R (Fu S7 R R (Au (f:=(eL eU8)) (fun _=>R) _).symm) ?_))
  refine rm 2 R (Ak (Bs (Ag ?_)))
  obtain rfl:=SJ h
  exact ⟨Or.inr R,_,[0],[.one (Ii6 (a0.length:Int)),.one (.b false)],[.arr 56 1 0 (a0.flatMap (eL eU8))],(Ad (rt R) (Ad (rt R) Ai)),R,R,⟨by decide,R⟩,R,R,⟨R,R⟩⟩
 ·refine Bf (Ab (csr (rm 2 R (sv R (A4 R) ?_))))
  obtain ⟨u2,hu2,h⟩:=Ae h
  refine sv R (Et (f:=(eL eU8)) S7 (fun _=>R) R R R R R hu2) ?_
  refine sv R (Rs (f:=(eL eU8)) 0 Mz (fun _=>R) R R R R (Gq hu2).2 R) ?_
  refine sv R (A4 R) ?_
  obtain ⟨v3,hv3,h⟩:=Ae h
  refine Ba R Ata (Aa R (Aa R Af)) (An R) (Oe hv3) (rm 2 R (Ak (Bs ?_)))
  obtain rfl:=SJ h
  exact ⟨Or.inr R,_,[0],[.one (Ii6 v1),.one (.b v3)],[.arr 56 1 0 (a0.flatMap (eL eU8))],(Ad (rt R) (Ad (rt R) Ai)),R,R,⟨by decide,R⟩,R,R,⟨R,R⟩⟩
section
open Go.Lib
set_option maxHeartbeats 4000000 in
theorem Akr (b n c vb vc:Nat) (vs:List Value) (w:World) (i0:TypeInfo) (hi0:Tryz.prog.info? 56=some i0) (hs0:i0.size=1) (hroom:n+1≤c) (hc63:c≤9223372036854775807)
  (hvl:vs.length=1) (hsp:∀ j,j<1→(w.cell? ⟨b,n*1+j,none⟩).isSome=true) (hfz:∀ j,j<1→w.frozen? ⟨b,n*1+j,none⟩=false)
  (hvs:∀ j v,vs[j]? = some v→w.cell? ⟨vb,j,none⟩=some v) (h1v:∀ v ∈ vs,v.oneCell'=true) :
  Calls Tryz.prog 255 #[.slice (some ⟨b,0,none⟩) n c,.int .i64 n,.slice (some ⟨vb,0,none⟩) 1 vc] w fun e w' =>
   e=.returned (.slice (some ⟨b,0,none⟩) (n+1) c)∧w'=w.setCells b (n*1) vs:=by
 have hsrc:_root_.Go.Src Tryz.prog i0.size 25 (.slice (some ⟨vb,0,none⟩) 1 vc) 1 vs w:=by
  rw [hs0]
  exact _root_.Go.Src.ofSlice w Tryz.underlying25 ⟨vb,0,none⟩ 1 vc vs (by omega) (fun j u hj=>by rw [Addr.add_lit,yH];exact hvs j u hj) h1v
 go_enter Tryz.func255,Tryz.ntmps255
 go_wp2_with (at_builtin;refine wpList_append_room_src _ rfl _ _ 25 25 rfl 56 i0 Tryz.underlying25 hi0 b 0 n c rfl _ rfl 1 vs hsrc hroom (by rw [hvl,hs0,yH];exact hsp) (by rw [hvl,hs0,yH];exact hfz) ?_)
 go_ret
 refine ⟨R,?_⟩
 first | rfl | (simp;done) | (simp [hs0];done)
set_option maxHeartbeats 4000000 in
theorem Aeo (b n c vb vc:Nat) (cs vs:List Value) (w:World) (i0:TypeInfo) (hi0:Tryz.prog.info? 56=some i0) (hz0:i0.zero=some (.slice none 0 0)) (hs0:i0.size=1) (hnc:n≤c) (hroom:c<n+1) (hn63:n+1≤9223372036854775807)
  (hfit:Builtin.nextslicecap (n+1) c*i0.bytes≤281474976710656) (hcl:cs.length=n*1) (hvl:vs.length=1)
  (hcs:∀ j v,cs[j]? = some v→w.cell? ⟨b,j,none⟩=some v) (hvs:∀ j v,vs[j]? = some v→w.cell? ⟨vb,j,none⟩=some v) (h1v:∀ v ∈ vs,v.oneCell'=true) :
  Calls Tryz.prog 255 #[.slice (some ⟨b,0,none⟩) n c,.int .i64 n,.slice (some ⟨vb,0,none⟩) 1 vc] w fun e w' =>
   e=.returned (.slice (some ⟨w.heap.size,0,none⟩) (n+1) (grownCap w (n+1) c 56)) ∧
   w'=w.drew.alloc (.cells ((cs++vs).toArray++Builtin.zeroCells (Value.cells (.slice none 0 0)) (grownCap w (n+1) c 56-(n+1))) 56):=by
 have hsrc:_root_.Go.Src Tryz.prog i0.size 25 (.slice (some ⟨vb,0,none⟩) 1 vc) 1 vs w:=by
  rw [hs0]
  exact _root_.Go.Src.ofSlice w Tryz.underlying25 ⟨vb,0,none⟩ 1 vc vs (by omega) (fun j u hj=>by rw [Addr.add_lit,yH];exact hvs j u hj) h1v
 have hold:(Builtin.firstCells i0.size n (.slice (some ⟨b,0,none⟩) n c)).run Tryz.prog w.drew=.ok cs.toArray w.drew:=by
  rw [hs0]
  exact run_firstCells_some w.drew 1 n ⟨b,0,none⟩ n c cs (by omega) (fun j v hj=>by rw [Addr.add_lit,yH];exact hcs j v hj)
 have hrun:∀ ty,(Builtin.append_ #[25,25] ty #[.slice (some ⟨b,0,none⟩) n c,.slice (some ⟨vb,0,none⟩) 1 vc]).run Tryz.prog w=.ok (.slice (some ⟨w.heap.size,0,none⟩) (n+1) (grownCap w (n+1) c 56)) (w.drew.alloc (.cells ((cs++vs).toArray++Builtin.zeroCells (Value.cells (.slice none 0 0)) (grownCap w (n+1) c 56-(n+1))) 56)):=fun ty =>
  run_append_grow_src w 25 25 ty 56 i0 _ Tryz.underlying25 hi0 hz0 (some ⟨b,0,none⟩) n c cs hold _ 1 vs hsrc hroom (by omega) hfit
 go_enter Tryz.func255,Tryz.ntmps255
 go_wp2_with (at_builtin;refine Lib.wpList_append_run _ rfl _ _ _ _ rfl _ _ rfl rfl _ _ (hrun _) ?_)
 all_goals (go_ret;first | exact ⟨rfl,rfl⟩ | exact ⟨rfl,by simp [Value.cells]⟩)
set_option maxHeartbeats 4000000 in
theorem Ad0 (b n c i vb vc:Nat) (cs vs:List Value) (w:World) (hs0:(Tryz.prog.info? 56).map (·.size)=some 1) (hi:i<n) (hroom:n+1≤c) (hc63:c≤9223372036854775807) (hvb:vb≠b)
  (hcl:cs.length=n*1) (hvl:vs.length=1)
  (hcs:∀ j v,cs[j]? = some v→w.cell? ⟨b,j,none⟩=some v) (hsp:∀ j,j<(n+1)*1→(w.cell? ⟨b,j,none⟩).isSome=true) (hfz:∀ j,j<(n+1)*1→w.frozen? ⟨b,j,none⟩=false)
  (hvs:∀ j v,vs[j]? = some v→w.cell? ⟨vb,j,none⟩=some v) (h1c:∀ v ∈ cs,v.oneCell'=true) (h1v:∀ v ∈ vs,v.oneCell'=true)
  (tA tB:TypeId) (kA kB:Nat) (hsa:w.shape? vb=some (tA,kA)) (hsb:w.shape? b=some (tB,kB)) (hkB:kB≠0) (hfa:w.frozen? ⟨vb,0,none⟩=false) (hfe:w.frozen? ⟨vb,kA,none⟩=false) :
  Calls Tryz.prog 255 #[.slice (some ⟨b,0,none⟩) n c,.int .i64 i,.slice (some ⟨vb,0,none⟩) 1 vc] w fun e w' =>
   e=.returned (.slice (some ⟨b,0,none⟩) (n+1) c)∧w'=(w.drew.setCells b (i+1) (cs.drop (i))).setCells b (i) vs:=by
 have hz2:¬ ((i:Int)=(n:Int)):=by omega
 have hz3:¬ ((c:Int)<(n:Int)+1):=by omega
 have mixed:Tryz.prog.follows .mixedOrders=true:=by kernel_rfl
 have hov:∀ lb cb,(callFunc 271 #[.slice (some ⟨vb,0,none⟩) 1 vc,.slice (some ⟨b,i+1,none⟩) lb cb]).run Tryz.prog w=.ok (.value (.bool false)) w:=fun lb cb=>by
  rw [run_callFunc_extern Tryz.func271 (by kernel_rfl) (by kernel_rfl) (by kernel_rfl) (e:=Extern.SlicesOverlaps.overlaps #[25,25] #[4]) (by kernel_rfl),
   Lib.run_overlaps_apart w 25 4 56 Tryz.underlying25 1 (fun w=>C8 hs0 w) ⟨vb,0,none⟩ ⟨b,i+1,none⟩ 1 vc lb cb hvb tA tB kA kB hsa hsb hkB hfa hfe]
  rfl
 have hdl:(cs.drop (i)).length=(n-i)*1:=by rw [yD,hcl];omega
 have hw1:IntKind.i64.wrap ((i:Int)+1)=(i:Int)+1:=by rw [IntKind.wrap_i64];omega
 have hb1:(0:Int)≤(i:Int)+1:=by omega
 have hin:i≤n:=by omega
 have htn:((i:Int)+1).toNat=i+1:=by omega
 have hb2:¬ (c=i+1):=by omega
 have hb3:(i:Int)≤(n:Int)+1:=by omega
 have hb4:¬ (c=i):=by omega
 have hcp1:∀ ty dc sc,(Builtin.copy_ #[25,25] ty #[.slice (some ⟨b,i+1,none⟩) (n-i) dc,.slice (some ⟨b,i,none⟩) (n+1-i) sc]).run Tryz.prog w.drew=.ok (goInt (n-i:Nat)) (w.drew.setCells b (i+1) (cs.drop (i))):=fun ty dc sc =>
  Ik w.drew _ _ ty 56 b (i+1) (n-i) dc ⟨b,i,none⟩ (n+1-i) sc 1 (n-i) (cs.drop (i)) Tryz.underlying25 hs0 (by simp only [kG];split <;> omega) hdl
   (fun j v hj=>by rw [Addr.add_lit];exact hcs (i+j) v (by rwa [yG] at hj))
   (fun j hj=>hsp _ (by rw [hdl] at hj;omega)) (fun j hj=>hfz _ (by rw [hdl] at hj;omega)) (fun v hv=>h1c v (w7 hv))
 obtain ⟨W1,hW1⟩:∃ W1,W1=w.drew.setCells b (i+1) (cs.drop (i)):=⟨_,rfl⟩
 have hsp1:∀ k,k<(n+1)*1→(W1.cell? ⟨b,k,none⟩).isSome=true:=fun k hk=>by
  rw [hW1]
  exact isSome_setCells b (cs.drop (i)) (i+1) w.drew (fun j hj=>hsp _ (by rw [hdl] at hj;omega)) _ (hsp k hk)
 have hcp2:∀ (W:World),(∀ x,W.cell? x=W1.cell? x)→(∀ x,W.frozen? x=W1.frozen? x)→∀ ty dc,(Builtin.copy_ #[25,25] ty #[.slice (some ⟨b,i,none⟩) (n+1-i) dc,.slice (some ⟨vb,0,none⟩) 1 vc]).run Tryz.prog W=.ok (goInt (1:Nat)) (W.setCells b (i) vs):=fun W hWc hWf ty dc =>
  Ik W _ _ ty 56 b (i) (n+1-i) dc ⟨vb,0,none⟩ 1 vc 1 1 vs Tryz.underlying25 hs0 (by simp only [kG];split <;> omega) (by omega)
   (fun j v hj=>by
    rw [Addr.add_lit,hWc,hW1,yH,World.cell?_setCells_out b _ _ _ _ (fun h _=>absurd h hvb)]
    exact hvs j v hj)
   (fun j hj=>by rw [hWc];exact hsp1 _ (by omega)) (fun j hj=>by rw [hWf,hW1,World.frozen?_setCells];exact hfz _ (by omega)) h1v
 rw [← hW1] at hcp1
 go_enter Tryz.func255,Tryz.ntmps255
 go_wp2_with (simp only [hov])
 go_region_law_o (refine step_copy_runI rfl _ _ 25 25 rfl _ _ (by simp [Act.eval,Act.put]) (by simp [Act.eval,Act.put]) (hcp1 _ _ _) ?_)
 go_wp2_with (at_builtin;refine wpList_copy_runI _ rfl _ _ 25 25 rfl _ _ rfl rfl (hcp2 _ (fun _=>rfl) (fun _=>rfl) _ _) ?_)
 go_ret
 first | exact ⟨rfl,rfl⟩ | exact ⟨rfl,by rw [hW1]⟩
set_option maxHeartbeats 4000000 in
theorem Ahg (b n c i vb vc:Nat) (cs vs:List Value) (w:World) (i0:TypeInfo) (hi0:Tryz.prog.info? 56=some i0) (hz0:i0.zero=some (.slice none 0 0)) (hs0:i0.size=1) (hi:i<n) (hnc:n≤c) (hroom:c<n+1) (hn63:n+1≤4611686018427387904)
  (hb48:(n+1)*i0.bytes≤281474976710656) (hfit:Builtin.nextslicecap (n+1) c*i0.bytes≤281474976710656) (hcl:cs.length=n*1) (hvl:vs.length=1)
  (hcs:∀ j v,cs[j]? = some v→w.cell? ⟨b,j,none⟩=some v) (hvs:∀ j v,vs[j]? = some v→w.cell? ⟨vb,j,none⟩=some v) (h1c:∀ v ∈ cs,v.oneCell'=true) (h1v:∀ v ∈ vs,v.oneCell'=true) :
  Calls Tryz.prog 255 #[.slice (some ⟨b,0,none⟩) n c,.int .i64 i,.slice (some ⟨vb,0,none⟩) 1 vc] w fun e w' =>
   e=.returned (.slice (some ⟨w.heap.size,0,none⟩) (n+1) (grownCap w (n+1) c 56)) ∧
   w'=(((w.alloc (.cells ((cs.take (i)).toArray++Builtin.zeroCells (Value.cells (.slice none 0 0)) (n+1-i)++Builtin.zeroCells (Value.cells (.slice none 0 0)) (grownCap w (n+1) c 56-(n+1))) 56)).drew.setCells w.heap.size (i) vs).drew).setCells w.heap.size (i+1) (cs.drop (i)):=by
 have mixed:Tryz.prog.follows .mixedOrders=true:=by kernel_rfl
 have hz2:¬ ((i:Int)=(n:Int)):=by omega
 have hz3:(c:Int)<(n:Int)+1:=by omega
 have hsz:(Tryz.prog.info? 56).map (·.size)=some 1:=by rw [hi0];simp [hs0]
 have hbw:b<w.heap.size:=block_lt_of_cell (hcs 0 _ (zB (by omega)))
 have hvw:vb<w.heap.size:=block_lt_of_cell (hvs 0 _ (zB (by omega)))
 have hkk:(n:Int)+1-(i:Int)=((n+1-i:Nat):Int):=by omega
 have hik:i+(n+1-i)=n+1:=by omega
 have htl:(cs.take (i)).length=i*1:=by rw [zL];omega
 have hold:(Builtin.firstCells i0.size i (.slice (some ⟨b,0,none⟩) i c)).run Tryz.prog w.drew=.ok (cs.take (i)).toArray w.drew:=by
  rw [hs0]
  exact run_firstCells_some w.drew 1 i ⟨b,0,none⟩ i c (cs.take (i)) htl (fun j v hj=>by
   rw [Addr.add_lit,yH]
   rw [yN] at hj
   split at hj
   ·exact hcs j v hj
   ·cases hj)
 have hrz:∀ ty,(Builtin.append_ #[25,3] ty #[.slice (some ⟨b,0,none⟩) i c,.int .i64 ((n:Int)+1-(i:Int))]).run Tryz.prog w =
   .ok (.slice (some ⟨w.heap.size,0,none⟩) (n+1) (grownCap w (n+1) c 56)) (w.drew.alloc (.cells ((cs.take (i)).toArray++Builtin.zeroCells (Value.cells (.slice none 0 0)) (n+1-i)++Builtin.zeroCells (Value.cells (.slice none 0 0)) (grownCap w (n+1) c 56-(n+1))) 56)):=fun ty=>by
  have h:=Lib.run_append_grow_zeros w 25 3 ty 56 i0 _ .i64 .i64 Tryz.underlying25 Tryz.underlying3 hi0 hz0 (some ⟨b,0,none⟩) i c (cs.take (i)) hold (n+1-i) (by omega) (by omega) (by omega) (by omega) (yO (xC _ (by omega)) hb48) (by rw [hik];exact hfit)
  rw [hik] at h
  rw [hkk]
  exact h
 obtain ⟨G,hG⟩:∃ G,G=grownCap w (n+1) c 56:=⟨_,rfl⟩
 obtain ⟨ROW,hROW⟩:∃ ROW:Array Value,ROW=(cs.take (i)).toArray++Builtin.zeroCells (Value.cells (.slice none 0 0)) (n+1-i)++Builtin.zeroCells (Value.cells (.slice none 0 0)) (G-(n+1)):=⟨_,rfl⟩
 rw [← hG] at hrz ⊢
 rw [← hROW] at hrz ⊢
 have hzc:∀ k,(Builtin.zeroCells (Value.cells (.slice none 0 0)) k).size=k*1:=fun k=>by simp [Builtin.zeroCells,Value.cells]
 have hRl:(n+1)*1≤ROW.size:=by
  rw [hROW,yU,yU,hzc,hzc,yB,htl]
  omega
 obtain ⟨W1,hW1⟩:∃ W1,W1=w.drew.alloc (.cells ROW 56):=⟨_,rfl⟩
 rw [← hW1] at hrz
 have hN:∀ j,j<(n+1)*1→(W1.cell? ⟨w.heap.size,j,none⟩).isSome=true:=fun j hj=>by
  rw [hW1,World.cell?_alloc_at (w:=w.drew) ROW _ w.heap.size j rfl,zP (by omega)];rfl
 have hNf:∀ j,W1.frozen? ⟨w.heap.size,j,none⟩=false:=fun j=>by rw [hW1];exact World.frozen?_alloc_at (w:=w.drew) ROW _ w.heap.size j rfl
 have hOb:∀ j v,w.cell? ⟨b,j,none⟩=some v→W1.cell? ⟨b,j,none⟩=some v:=fun j v h=>by rw [hW1,World.cell?_alloc_past (w:=w.drew) _ b j hbw];exact h
 have hOv:∀ j v,w.cell? ⟨vb,j,none⟩=some v→W1.cell? ⟨vb,j,none⟩=some v:=fun j v h=>by rw [hW1,World.cell?_alloc_past (w:=w.drew) _ vb j hvw];exact h
 have hcpA:∀ (W:World),(∀ x,W.cell? x=W1.cell? x)→(∀ x,W.frozen? x=W1.frozen? x)→∀ ty dc,(Builtin.copy_ #[25,25] ty #[.slice (some ⟨w.heap.size,i,none⟩) (n+1-i) dc,.slice (some ⟨vb,0,none⟩) 1 vc]).run Tryz.prog W=.ok (goInt (1:Nat)) (W.setCells w.heap.size (i) vs):=fun W hWc hWf ty dc =>
  Ik W _ _ ty 56 w.heap.size (i) (n+1-i) dc ⟨vb,0,none⟩ 1 vc 1 1 vs Tryz.underlying25 hsz (by simp only [kG];split <;> omega) (by omega)
   (fun j v hj=>by rw [Addr.add_lit,hWc,yH];exact hOv _ v (hvs j v hj))
   (fun j hj=>by rw [hWc];exact hN _ (by omega)) (fun j hj=>by rw [hWf];exact hNf _) h1v
 have hGn:n+1≤G:=by rw [hG];exact grownCap_ge w _ _ _
 have hG63:G≤9223372036854775807:=by
  have:=grownCap_le_maxLen w (n+1) c 56 (by unfold maxLen;omega)
  rw [← hG] at this
  unfold maxLen at this
  omega
 have hGi:¬ (G=i):=by omega
 have hGim:¬ (G=i+1):=by omega
 have hci:¬ (c=i):=by omega
 have hbN:b≠w.heap.size:=by omega
 have hdl:(cs.drop (i)).length=(n-i)*1:=by rw [yD,hcl];omega
 have hcpB:∀ (W:World),(∀ x,W.cell? x=(W1.setCells w.heap.size (i) vs).cell? x)→(∀ x,W.frozen? x=(W1.setCells w.heap.size (i) vs).frozen? x)→∀ ty dc sc,(Builtin.copy_ #[25,25] ty #[.slice (some ⟨w.heap.size,i+1,none⟩) (n-i) dc,.slice (some ⟨b,i,none⟩) (n-i) sc]).run Tryz.prog W=.ok (goInt (n-i:Nat)) (W.setCells w.heap.size (i+1) (cs.drop (i))):=fun W hWc hWf ty dc sc =>
  Ik W _ _ ty 56 w.heap.size (i+1) (n-i) dc ⟨b,i,none⟩ (n-i) sc 1 (n-i) (cs.drop (i)) Tryz.underlying25 hsz (by simp only [kG];split <;> omega) hdl
   (fun j v hj=>by
    rw [Addr.add_lit,hWc,World.cell?_setCells_out _ _ _ _ _ (fun h _=>absurd h hbN)]
    exact hOb _ v (hcs (i+j) v (by rwa [yG] at hj)))
   (fun j hj=>by rw [hWc];exact isSome_setCells w.heap.size vs (i) W1 (fun t ht=>hN _ (by omega)) _ (hN _ (by rw [hdl] at hj;omega)))
   (fun j hj=>by rw [hWf,World.frozen?_setCells];exact hNf _) (fun v hv=>h1c v (w7 hv))
 subst hW1
 have hE1:∀ x,((w.alloc (.cells ROW 56)).drew).cell? x=(w.drew.alloc (.cells ROW 56)).cell? x:=fun x=>rfl
 have hE2:∀ x,((w.alloc (.cells ROW 56)).drew).frozen? x=(w.drew.alloc (.cells ROW 56)).frozen? x:=fun x=>rfl
 have hF1:∀ x,(((w.alloc (.cells ROW 56)).drew.setCells w.heap.size (i) vs).drew).cell? x=((w.drew.alloc (.cells ROW 56)).setCells w.heap.size (i) vs).cell? x:=fun x=>rfl
 have hF2:∀ x,(((w.alloc (.cells ROW 56)).drew.setCells w.heap.size (i) vs).drew).frozen? x=((w.drew.alloc (.cells ROW 56)).setCells w.heap.size (i) vs).frozen? x:=fun x=>rfl
 have hw1:IntKind.i64.wrap ((i:Int)+1)=(i:Int)+1:=by rw [IntKind.wrap_i64];omega
 have hb1:(0:Int)≤(i:Int)+1:=by omega
 have hin:i≤n:=by omega
 have htn:((i:Int)+1).toNat=i+1:=by omega
 have hb3:(i:Int)≤(n:Int):=by omega
 clear hkk hik hold hROW hG hRl htl hzc
 go_enter Tryz.func255,Tryz.ntmps255
 go_wp2_with (first
  | (at_builtin;refine Lib.wpList_append_run _ rfl _ _ _ _ rfl _ _ rfl rfl _ _ (hrz _) ?_)
  | (at_builtin;refine wpList_copy_runI _ rfl _ _ 25 25 rfl _ _ rfl rfl (hcpA _ hE1 hE2 _ _) ?_)
  | (at_builtin;refine wpList_copy_runI _ rfl _ _ 25 25 rfl _ _ rfl rfl (hcpB _ (fun _=>rfl) (fun _=>rfl) _ _ _) ?_))
 go_region_law_o (refine step_copy_runI rfl _ _ 25 25 rfl (.slice (some ⟨w.heap.size,i+1,none⟩) (n-i) (G-(i+1))) (.slice (some ⟨b,i,none⟩) (n-i) (c-i)) (by simp [Act.eval,Act.put]) (by simp [Act.eval,Act.put]) (hcpB _ hF1 hF2 3 (G-(i+1)) (c-i)) ?_)
 go_wp2
 go_ret
 exact ⟨R,R⟩
set_option maxHeartbeats 4000000 in
theorem Akp (vb vc:Nat) (vs:List Value) (w:World) (i0:TypeInfo) (hi0:Tryz.prog.info? 56=some i0) (hz0:i0.zero=some (.slice none 0 0)) (hs0:i0.size=1)
  (hfit:Builtin.nextslicecap (0+1) 0*i0.bytes≤281474976710656) (hvl:vs.length=1)
  (hvs:∀ j v,vs[j]? = some v→w.cell? ⟨vb,j,none⟩=some v) (h1v:∀ v ∈ vs,v.oneCell'=true) :
  Calls Tryz.prog 255 #[.slice none 0 0,.int .i64 ((0:Nat):Int),.slice (some ⟨vb,0,none⟩) 1 vc] w fun e w' =>
   e=.returned (.slice (some ⟨w.heap.size,0,none⟩) (0+1) (grownCap w (0+1) 0 56)) ∧
   w'=w.drew.alloc (.cells (([]++vs).toArray++Builtin.zeroCells (Value.cells (.slice none 0 0)) (grownCap w (0+1) 0 56-(0+1))) 56):=by
 have hsrc:_root_.Go.Src Tryz.prog i0.size 25 (.slice (some ⟨vb,0,none⟩) 1 vc) 1 vs w:=by
  rw [hs0]
  exact _root_.Go.Src.ofSlice w Tryz.underlying25 ⟨vb,0,none⟩ 1 vc vs (by omega) (fun j u hj=>by rw [Addr.add_lit,yH];exact hvs j u hj) h1v
 have hold:(Builtin.firstCells i0.size 0 (.slice none 0 0)).run Tryz.prog w.drew=.ok ([]:List Value).toArray w.drew:=by
  rw [hs0]
  exact run_firstCells_none w.drew 1 0 0 0
 have hrun:∀ ty,(Builtin.append_ #[25,25] ty #[.slice none 0 0,.slice (some ⟨vb,0,none⟩) 1 vc]).run Tryz.prog w=.ok (.slice (some ⟨w.heap.size,0,none⟩) (0+1) (grownCap w (0+1) 0 56)) (w.drew.alloc (.cells (([]++vs).toArray++Builtin.zeroCells (Value.cells (.slice none 0 0)) (grownCap w (0+1) 0 56-(0+1))) 56)):=fun ty =>
  run_append_grow_src w 25 25 ty 56 i0 _ Tryz.underlying25 hi0 hz0 none 0 0 [] hold _ 1 vs hsrc (by omega) (by omega) hfit
 go_enter Tryz.func255,Tryz.ntmps255
 go_wp2_with (at_builtin;refine Lib.wpList_append_run _ rfl _ _ _ _ rfl _ _ rfl rfl _ _ (hrun _) ?_)
 all_goals (go_ret;first | exact ⟨rfl,rfl⟩ | exact ⟨rfl,by simp [Value.cells]⟩)
theorem Agu:(Tryz.prog.info? 56).map (fun i=>(i.zero,i.size,i.bytes))=some (some (.slice none 0 0),1,24):=by kernel_rfl
theorem Ap1 {cs vs:List Lf} {n i:Nat} (hcl:cs.length=n*1) (hvl:vs.length=1) (hi:i≤n) (hn:(n+1)*24≤140737488355328) :
  Dl Tryz.prog 255 [.arr 56 1 0 cs,.arr 56 1 0 vs] [.one (.ls 0 n),.one (Ii6 (i:Int)),.one (.ls 1 1)] (fun y m'=>y=.s (.one (.ls 0 (n+1)))∧m'=[.arr 56 1 0 (cs.take (i*1)++vs++cs.drop (i*1)),.dead]):=by
 refine Xj (by decide) hcl hvl (fun w v1 vb vc cur2 xs ys hown hg2 hcell hyl hne hx1 hy1=>?_)
 obtain ⟨i0,hi0,hz0,hs0,hb0⟩:=info_parts Agu
 have hxl:=hown.1
 have hfitG:∀ {old},old<n+1→Builtin.nextslicecap (n+1) old*i0.bytes≤281474976710656:=fun h=>growslice_fits h (by rw [hb0];exact hn)
 have hsz':(Tryz.prog.info? 56).map (·.size)=some 1:=by rw [hi0];simp [hs0]
 have hzc:∀ k,(Builtin.zeroCells (Value.cells (.slice none 0 0)) k).size=k*1:=fun k=>by simp [Builtin.zeroCells,Value.cells]
 have hg63:∀ c,grownCap w (n+1) c 56≤maxLen:=fun c=>grownCap_le_maxLen w (n+1) c 56 (by unfold maxLen;omega)
 have hgge:∀ c,n+1≤grownCap w (n+1) c 56:=fun c=>grownCap_ge w _ _ _
 rcases hown.2 with ⟨rfl,h0⟩ | ⟨g,cap,cur,rfl,_,hg,hnc,hcm,hcs,hct⟩
 ·subst h0
  have hi0':i=0:=by omega
  subst hi0'
  have hx0:xs=[]:=jW.1 (hxl.trans (wU _))
  subst hx0
  refine (Akp vb vc ys w i0 hi0 hz0 hs0 (hfitG (by omega)) hyl hcell hy1).mono ?_
  rintro e w' ⟨rfl,rfl⟩
  refine ⟨_,w.heap.size,R,Pb (hgge 0) (hg63 0) ?_ ?_,.inr (zN _)⟩
  ·have:=hgge 0
   rw [yU,hzc,yB,wX,hyl];omega
  ·rw [xI,yW,x9 (by rw [wX,hyl])]
   simp
 ·have hcur:cur.toList.length=cap*1:=by rw [yC];exact hcs
  have hcell1:∀ j v,xs[j]? = some v→w.cell? ⟨g,j,none⟩=some v:=fun j v hj=>by
   unfold World.cell?
   rw [hg]
   rw [← hct,yN] at hj
   split at hj
   ·simpa using hj
   ·cases hj
  have hc63:cap≤9223372036854775807:=by unfold maxLen at hcm;exact hcm
  have hsome:∀ j,j<cap*1→(w.cell? ⟨g,j,none⟩).isSome=true:=fun j hj=>by
   unfold World.cell?
   rw [hg]
   show (cur[j]?).isSome=true
   rw [zP (by omega)];rfl
  have hfrz:∀ j,w.frozen? ⟨g,j,none⟩=false:=fun j=>by
   unfold World.frozen?
   rw [hg]
   show (decide (0≤j) && decide (j<0))=false
   rw [decide_eq_false (zT j),jF]
  have hfrz2:∀ j,w.frozen? ⟨vb,j,none⟩=false:=fun j=>by
   unfold World.frozen?
   rw [hg2]
   show (decide (0≤j) && decide (j<0))=false
   rw [decide_eq_false (zT j),jF]
  have hvb:vb≠g:=fun e=>hne (by rw [e];rfl)
  rcases Nat.lt_or_eq_of_le hi with hlt | rfl
  ·rcases zO cap (n+1) with hroom | hroom
   ·refine (Ahg g n cap i vb vc xs ys w i0 hi0 hz0 hs0 hlt hnc hroom (by omega) (by rw [hb0];omega) (hfitG hroom) hxl hyl hcell1 hcell hx1 hy1).mono ?_
    rintro e w' ⟨rfl,rfl⟩
    have hge:=hgge cap
    have htl:(xs.take (i*1)).length=i*1:=by rw [zL];omega
    have:=T4 (E:=56) (sz:=1) (w:=w) (row:=(xs.take (i*1)).toArray++Builtin.zeroCells (Value.cells (.slice none 0 0)) (n+1-i)++Builtin.zeroCells (Value.cells (.slice none 0 0)) (grownCap w (n+1) cap 56-(n+1))) (xs:=xs.take (i*1)) (vs:=ys) (D:=xs.drop (i*1)) hlt hge (hg63 cap)
     (by rw [yU,yU,hzc,hzc,yB,htl];omega) hyl (by rw [yD,hxl];omega)
     (by rw [xI,xI,yW,xO,x9 htl])
    refine ⟨_,w.heap.size,R,?_,.inr (zN _)⟩
    first | exact this | simpa only [kD] using this
   ·refine (Ad0 g n cap i vb vc xs ys w hsz' hlt hroom hc63 hvb hxl hyl hcell1 (fun j hj=>hsome j (by omega)) (fun j _=>hfrz j) hcell hx1 hy1 56 56 cur2.size cur.size (by unfold World.shape?;rw [hg2]) (by unfold World.shape?;rw [hg]) (by omega) (hfrz2 _) (hfrz2 _)).mono ?_
    rintro e w' ⟨rfl,rfl⟩
    have:=Ss (E:=56) (sz:=1) (b:=g) (vs:=ys) hg hlt hroom hcm hcs hyl
    rw [hct] at this
    refine ⟨_,g,R,?_,.inl R⟩
    first | exact this | simpa only [kD] using this
  ·have hxe:xs.take (i*1)++ys++xs.drop (i*1)=xs++ys:=by
    rw [y9 (by omega),wW (by omega),xF]
   rw [hxe]
   rcases zO cap (i+1) with hroom | hroom
   ·refine (Aeo g i cap vb vc xs ys w i0 hi0 hz0 hs0 hnc hroom (by omega) (hfitG hroom) hxl hyl hcell1 hcell hy1).mono ?_
    rintro e w' ⟨rfl,rfl⟩
    have hge:=hgge cap
    refine ⟨_,w.heap.size,R,Pb hge (hg63 cap) ?_ ?_,.inr (zN _)⟩
    ·rw [yU,hzc,yB,zH,hxl,hyl];omega
    ·rw [xI,yW,x9 (by rw [zH,hxl,hyl];omega)]
   ·refine (Akr g i cap vb vc ys w i0 hi0 hs0 hroom hc63 hyl (fun j hj=>hsome _ (by omega)) (fun j _=>hfrz _) hcell hy1).mono ?_
    rintro e w' ⟨rfl,rfl⟩
    have:=Wb (E:=56) (sz:=1) (n:=i) (b:=g) (vs:=ys) hg hroom hcm hcs hyl
    rw [hct] at this
    exact ⟨_,g,R,this,.inl R⟩
end
def Rn (a0:List (List UInt8)) (a1:Int) (a2:List (List UInt8)):Option (List (List UInt8)):=Aoe 24 a0 a1 a2
theorem U0 {a0:List (List UInt8)} {a1:Int} {a2 r:List (List UInt8)} (h:Rn a0 a1 a2=some r):Dl Tryz.prog 255 [.arr 56 1 0 (a0.flatMap (eL eU8)),.arr 56 1 0 (a2.flatMap (eL eU8))] [.one (.ls 0 a0.length),.one (Ii6 a1),.one (.ls 1 a2.length)] (fun y m'=>y=.s (.one (.ls 0 r.length))∧m'=[.arr 56 1 0 (r.flatMap (eL eU8)),.dead]) :=
 An3 (f:=(eL eU8)) (fun _=>rfl) Ap1 h
section
open Go.Lib
set_option maxHeartbeats 4000000 in
theorem Ajh (b n c vb vc:Nat) (vs:List Value) (w:World) (i0:TypeInfo) (hi0:Tryz.prog.info? 134=some i0) (hs0:i0.size=1) (hroom:n+1≤c) (hc63:c≤9223372036854775807)
  (hvl:vs.length=1) (hsp:∀ j,j<1→(w.cell? ⟨b,n*1+j,none⟩).isSome=true) (hfz:∀ j,j<1→w.frozen? ⟨b,n*1+j,none⟩=false)
  (hvs:∀ j v,vs[j]? = some v→w.cell? ⟨vb,j,none⟩=some v) (h1v:∀ v ∈ vs,v.oneCell'=true) :
  Calls Tryz.prog 256 #[.slice (some ⟨b,0,none⟩) n c,.int .i64 n,.slice (some ⟨vb,0,none⟩) 1 vc] w fun e w' =>
   e=.returned (.slice (some ⟨b,0,none⟩) (n+1) c)∧w'=w.setCells b (n*1) vs:=by
 have hsrc:_root_.Go.Src Tryz.prog i0.size 26 (.slice (some ⟨vb,0,none⟩) 1 vc) 1 vs w:=by
  rw [hs0]
  exact _root_.Go.Src.ofSlice w Tryz.underlying26 ⟨vb,0,none⟩ 1 vc vs (by omega) (fun j u hj=>by rw [Addr.add_lit,yH];exact hvs j u hj) h1v
 go_enter Tryz.func256,Tryz.ntmps256
 go_wp2_with (at_builtin;refine wpList_append_room_src _ rfl _ _ 26 26 rfl 134 i0 Tryz.underlying26 hi0 b 0 n c rfl _ rfl 1 vs hsrc hroom (by rw [hvl,hs0,yH];exact hsp) (by rw [hvl,hs0,yH];exact hfz) ?_)
 go_ret
 refine ⟨R,?_⟩
 first | rfl | (simp;done) | (simp [hs0];done)
set_option maxHeartbeats 4000000 in
theorem Afo (b n c vb vc:Nat) (cs vs:List Value) (w:World) (i0:TypeInfo) (hi0:Tryz.prog.info? 134=some i0) (hz0:i0.zero=some (.agg #[.slice none 0 0])) (hs0:i0.size=1) (hnc:n≤c) (hroom:c<n+1) (hn63:n+1≤9223372036854775807)
  (hfit:Builtin.nextslicecap (n+1) c*i0.bytes≤281474976710656) (hcl:cs.length=n*1) (hvl:vs.length=1)
  (hcs:∀ j v,cs[j]? = some v→w.cell? ⟨b,j,none⟩=some v) (hvs:∀ j v,vs[j]? = some v→w.cell? ⟨vb,j,none⟩=some v) (h1v:∀ v ∈ vs,v.oneCell'=true) :
  Calls Tryz.prog 256 #[.slice (some ⟨b,0,none⟩) n c,.int .i64 n,.slice (some ⟨vb,0,none⟩) 1 vc] w fun e w' =>
   e=.returned (.slice (some ⟨w.heap.size,0,none⟩) (n+1) (grownCap w (n+1) c 134)) ∧
   w'=w.drew.alloc (.cells ((cs++vs).toArray++Builtin.zeroCells (Value.cells (.agg #[.slice none 0 0])) (grownCap w (n+1) c 134-(n+1))) 134):=by
 have hsrc:_root_.Go.Src Tryz.prog i0.size 26 (.slice (some ⟨vb,0,none⟩) 1 vc) 1 vs w:=by
  rw [hs0]
  exact _root_.Go.Src.ofSlice w Tryz.underlying26 ⟨vb,0,none⟩ 1 vc vs (by omega) (fun j u hj=>by rw [Addr.add_lit,yH];exact hvs j u hj) h1v
 have hold:(Builtin.firstCells i0.size n (.slice (some ⟨b,0,none⟩) n c)).run Tryz.prog w.drew=.ok cs.toArray w.drew:=by
  rw [hs0]
  exact run_firstCells_some w.drew 1 n ⟨b,0,none⟩ n c cs (by omega) (fun j v hj=>by rw [Addr.add_lit,yH];exact hcs j v hj)
 have hrun:∀ ty,(Builtin.append_ #[26,26] ty #[.slice (some ⟨b,0,none⟩) n c,.slice (some ⟨vb,0,none⟩) 1 vc]).run Tryz.prog w=.ok (.slice (some ⟨w.heap.size,0,none⟩) (n+1) (grownCap w (n+1) c 134)) (w.drew.alloc (.cells ((cs++vs).toArray++Builtin.zeroCells (Value.cells (.agg #[.slice none 0 0])) (grownCap w (n+1) c 134-(n+1))) 134)):=fun ty =>
  run_append_grow_src w 26 26 ty 134 i0 _ Tryz.underlying26 hi0 hz0 (some ⟨b,0,none⟩) n c cs hold _ 1 vs hsrc hroom (by omega) hfit
 go_enter Tryz.func256,Tryz.ntmps256
 go_wp2_with (at_builtin;refine Lib.wpList_append_run _ rfl _ _ _ _ rfl _ _ rfl rfl _ _ (hrun _) ?_)
 all_goals (go_ret;first | exact ⟨rfl,rfl⟩ | exact ⟨rfl,by simp [Value.cells]⟩)
set_option maxHeartbeats 4000000 in
theorem Aei (b n c i vb vc:Nat) (cs vs:List Value) (w:World) (hs0:(Tryz.prog.info? 134).map (·.size)=some 1) (hi:i<n) (hroom:n+1≤c) (hc63:c≤9223372036854775807) (hvb:vb≠b)
  (hcl:cs.length=n*1) (hvl:vs.length=1)
  (hcs:∀ j v,cs[j]? = some v→w.cell? ⟨b,j,none⟩=some v) (hsp:∀ j,j<(n+1)*1→(w.cell? ⟨b,j,none⟩).isSome=true) (hfz:∀ j,j<(n+1)*1→w.frozen? ⟨b,j,none⟩=false)
  (hvs:∀ j v,vs[j]? = some v→w.cell? ⟨vb,j,none⟩=some v) (h1c:∀ v ∈ cs,v.oneCell'=true) (h1v:∀ v ∈ vs,v.oneCell'=true)
  (tA tB:TypeId) (kA kB:Nat) (hsa:w.shape? vb=some (tA,kA)) (hsb:w.shape? b=some (tB,kB)) (hkB:kB≠0) (hfa:w.frozen? ⟨vb,0,none⟩=false) (hfe:w.frozen? ⟨vb,kA,none⟩=false) :
  Calls Tryz.prog 256 #[.slice (some ⟨b,0,none⟩) n c,.int .i64 i,.slice (some ⟨vb,0,none⟩) 1 vc] w fun e w' =>
   e=.returned (.slice (some ⟨b,0,none⟩) (n+1) c)∧w'=(w.drew.setCells b (i+1) (cs.drop (i))).setCells b (i) vs:=by
 have hz2:¬ ((i:Int)=(n:Int)):=by omega
 have hz3:¬ ((c:Int)<(n:Int)+1):=by omega
 have mixed:Tryz.prog.follows .mixedOrders=true:=by kernel_rfl
 have hov:∀ lb cb,(callFunc 273 #[.slice (some ⟨vb,0,none⟩) 1 vc,.slice (some ⟨b,i+1,none⟩) lb cb]).run Tryz.prog w=.ok (.value (.bool false)) w:=fun lb cb=>by
  rw [run_callFunc_extern Tryz.func273 (by kernel_rfl) (by kernel_rfl) (by kernel_rfl) (e:=Extern.SlicesOverlaps.overlaps #[26,26] #[4]) (by kernel_rfl),
   Lib.run_overlaps_apart w 26 4 134 Tryz.underlying26 1 (fun w=>C8 hs0 w) ⟨vb,0,none⟩ ⟨b,i+1,none⟩ 1 vc lb cb hvb tA tB kA kB hsa hsb hkB hfa hfe]
  rfl
 have hdl:(cs.drop (i)).length=(n-i)*1:=by rw [yD,hcl];omega
 have hw1:IntKind.i64.wrap ((i:Int)+1)=(i:Int)+1:=by rw [IntKind.wrap_i64];omega
 have hb1:(0:Int)≤(i:Int)+1:=by omega
 have hin:i≤n:=by omega
 have htn:((i:Int)+1).toNat=i+1:=by omega
 have hb2:¬ (c=i+1):=by omega
 have hb3:(i:Int)≤(n:Int)+1:=by omega
 have hb4:¬ (c=i):=by omega
 have hcp1:∀ ty dc sc,(Builtin.copy_ #[26,26] ty #[.slice (some ⟨b,i+1,none⟩) (n-i) dc,.slice (some ⟨b,i,none⟩) (n+1-i) sc]).run Tryz.prog w.drew=.ok (goInt (n-i:Nat)) (w.drew.setCells b (i+1) (cs.drop (i))):=fun ty dc sc =>
  Ik w.drew _ _ ty 134 b (i+1) (n-i) dc ⟨b,i,none⟩ (n+1-i) sc 1 (n-i) (cs.drop (i)) Tryz.underlying26 hs0 (by simp only [kG];split <;> omega) hdl
   (fun j v hj=>by rw [Addr.add_lit];exact hcs (i+j) v (by rwa [yG] at hj))
   (fun j hj=>hsp _ (by rw [hdl] at hj;omega)) (fun j hj=>hfz _ (by rw [hdl] at hj;omega)) (fun v hv=>h1c v (w7 hv))
 obtain ⟨W1,hW1⟩:∃ W1,W1=w.drew.setCells b (i+1) (cs.drop (i)):=⟨_,rfl⟩
 have hsp1:∀ k,k<(n+1)*1→(W1.cell? ⟨b,k,none⟩).isSome=true:=fun k hk=>by
  rw [hW1]
  exact isSome_setCells b (cs.drop (i)) (i+1) w.drew (fun j hj=>hsp _ (by rw [hdl] at hj;omega)) _ (hsp k hk)
 have hcp2:∀ (W:World),(∀ x,W.cell? x=W1.cell? x)→(∀ x,W.frozen? x=W1.frozen? x)→∀ ty dc,(Builtin.copy_ #[26,26] ty #[.slice (some ⟨b,i,none⟩) (n+1-i) dc,.slice (some ⟨vb,0,none⟩) 1 vc]).run Tryz.prog W=.ok (goInt (1:Nat)) (W.setCells b (i) vs):=fun W hWc hWf ty dc =>
  Ik W _ _ ty 134 b (i) (n+1-i) dc ⟨vb,0,none⟩ 1 vc 1 1 vs Tryz.underlying26 hs0 (by simp only [kG];split <;> omega) (by omega)
   (fun j v hj=>by
    rw [Addr.add_lit,hWc,hW1,yH,World.cell?_setCells_out b _ _ _ _ (fun h _=>absurd h hvb)]
    exact hvs j v hj)
   (fun j hj=>by rw [hWc];exact hsp1 _ (by omega)) (fun j hj=>by rw [hWf,hW1,World.frozen?_setCells];exact hfz _ (by omega)) h1v
 rw [← hW1] at hcp1
 go_enter Tryz.func256,Tryz.ntmps256
 go_wp2_with (simp only [hov])
 go_region_law_o (refine step_copy_runI rfl _ _ 26 26 rfl _ _ (by simp [Act.eval,Act.put]) (by simp [Act.eval,Act.put]) (hcp1 _ _ _) ?_)
 go_wp2_with (at_builtin;refine wpList_copy_runI _ rfl _ _ 26 26 rfl _ _ rfl rfl (hcp2 _ (fun _=>rfl) (fun _=>rfl) _ _) ?_)
 go_ret
 first | exact ⟨rfl,rfl⟩ | exact ⟨rfl,by rw [hW1]⟩
set_option maxHeartbeats 4000000 in
theorem Ag5 (b n c i vb vc:Nat) (cs vs:List Value) (w:World) (i0:TypeInfo) (hi0:Tryz.prog.info? 134=some i0) (hz0:i0.zero=some (.agg #[.slice none 0 0])) (hs0:i0.size=1) (hi:i<n) (hnc:n≤c) (hroom:c<n+1) (hn63:n+1≤4611686018427387904)
  (hb48:(n+1)*i0.bytes≤281474976710656) (hfit:Builtin.nextslicecap (n+1) c*i0.bytes≤281474976710656) (hcl:cs.length=n*1) (hvl:vs.length=1)
  (hcs:∀ j v,cs[j]? = some v→w.cell? ⟨b,j,none⟩=some v) (hvs:∀ j v,vs[j]? = some v→w.cell? ⟨vb,j,none⟩=some v) (h1c:∀ v ∈ cs,v.oneCell'=true) (h1v:∀ v ∈ vs,v.oneCell'=true) :
  Calls Tryz.prog 256 #[.slice (some ⟨b,0,none⟩) n c,.int .i64 i,.slice (some ⟨vb,0,none⟩) 1 vc] w fun e w' =>
   e=.returned (.slice (some ⟨w.heap.size,0,none⟩) (n+1) (grownCap w (n+1) c 134)) ∧
   w'=(((w.alloc (.cells ((cs.take (i)).toArray++Builtin.zeroCells (Value.cells (.agg #[.slice none 0 0])) (n+1-i)++Builtin.zeroCells (Value.cells (.agg #[.slice none 0 0])) (grownCap w (n+1) c 134-(n+1))) 134)).drew.setCells w.heap.size (i) vs).drew).setCells w.heap.size (i+1) (cs.drop (i)):=by
 have mixed:Tryz.prog.follows .mixedOrders=true:=by kernel_rfl
 have hz2:¬ ((i:Int)=(n:Int)):=by omega
 have hz3:(c:Int)<(n:Int)+1:=by omega
 have hsz:(Tryz.prog.info? 134).map (·.size)=some 1:=by rw [hi0];simp [hs0]
 have hbw:b<w.heap.size:=block_lt_of_cell (hcs 0 _ (zB (by omega)))
 have hvw:vb<w.heap.size:=block_lt_of_cell (hvs 0 _ (zB (by omega)))
 have hkk:(n:Int)+1-(i:Int)=((n+1-i:Nat):Int):=by omega
 have hik:i+(n+1-i)=n+1:=by omega
 have htl:(cs.take (i)).length=i*1:=by rw [zL];omega
 have hold:(Builtin.firstCells i0.size i (.slice (some ⟨b,0,none⟩) i c)).run Tryz.prog w.drew=.ok (cs.take (i)).toArray w.drew:=by
  rw [hs0]
  exact run_firstCells_some w.drew 1 i ⟨b,0,none⟩ i c (cs.take (i)) htl (fun j v hj=>by
   rw [Addr.add_lit,yH]
   rw [yN] at hj
   split at hj
   ·exact hcs j v hj
   ·cases hj)
 have hrz:∀ ty,(Builtin.append_ #[26,3] ty #[.slice (some ⟨b,0,none⟩) i c,.int .i64 ((n:Int)+1-(i:Int))]).run Tryz.prog w =
   .ok (.slice (some ⟨w.heap.size,0,none⟩) (n+1) (grownCap w (n+1) c 134)) (w.drew.alloc (.cells ((cs.take (i)).toArray++Builtin.zeroCells (Value.cells (.agg #[.slice none 0 0])) (n+1-i)++Builtin.zeroCells (Value.cells (.agg #[.slice none 0 0])) (grownCap w (n+1) c 134-(n+1))) 134)):=fun ty=>by
  have h:=Lib.run_append_grow_zeros w 26 3 ty 134 i0 _ .i64 .i64 Tryz.underlying26 Tryz.underlying3 hi0 hz0 (some ⟨b,0,none⟩) i c (cs.take (i)) hold (n+1-i) (by omega) (by omega) (by omega) (by omega) (yO (xC _ (by omega)) hb48) (by rw [hik];exact hfit)
  rw [hik] at h
  rw [hkk]
  exact h
 obtain ⟨G,hG⟩:∃ G,G=grownCap w (n+1) c 134:=⟨_,rfl⟩
 obtain ⟨ROW,hROW⟩:∃ ROW:Array Value,ROW=(cs.take (i)).toArray++Builtin.zeroCells (Value.cells (.agg #[.slice none 0 0])) (n+1-i)++Builtin.zeroCells (Value.cells (.agg #[.slice none 0 0])) (G-(n+1)):=⟨_,rfl⟩
 rw [← hG] at hrz ⊢
 rw [← hROW] at hrz ⊢
 have hzc:∀ k,(Builtin.zeroCells (Value.cells (.agg #[.slice none 0 0])) k).size=k*1:=fun k=>by simp [Builtin.zeroCells,Value.cells]
 have hRl:(n+1)*1≤ROW.size:=by
  rw [hROW,yU,yU,hzc,hzc,yB,htl]
  omega
 obtain ⟨W1,hW1⟩:∃ W1,W1=w.drew.alloc (.cells ROW 134):=⟨_,rfl⟩
 rw [← hW1] at hrz
 have hN:∀ j,j<(n+1)*1→(W1.cell? ⟨w.heap.size,j,none⟩).isSome=true:=fun j hj=>by
  rw [hW1,World.cell?_alloc_at (w:=w.drew) ROW _ w.heap.size j rfl,zP (by omega)];rfl
 have hNf:∀ j,W1.frozen? ⟨w.heap.size,j,none⟩=false:=fun j=>by rw [hW1];exact World.frozen?_alloc_at (w:=w.drew) ROW _ w.heap.size j rfl
 have hOb:∀ j v,w.cell? ⟨b,j,none⟩=some v→W1.cell? ⟨b,j,none⟩=some v:=fun j v h=>by rw [hW1,World.cell?_alloc_past (w:=w.drew) _ b j hbw];exact h
 have hOv:∀ j v,w.cell? ⟨vb,j,none⟩=some v→W1.cell? ⟨vb,j,none⟩=some v:=fun j v h=>by rw [hW1,World.cell?_alloc_past (w:=w.drew) _ vb j hvw];exact h
 have hcpA:∀ (W:World),(∀ x,W.cell? x=W1.cell? x)→(∀ x,W.frozen? x=W1.frozen? x)→∀ ty dc,(Builtin.copy_ #[26,26] ty #[.slice (some ⟨w.heap.size,i,none⟩) (n+1-i) dc,.slice (some ⟨vb,0,none⟩) 1 vc]).run Tryz.prog W=.ok (goInt (1:Nat)) (W.setCells w.heap.size (i) vs):=fun W hWc hWf ty dc =>
  Ik W _ _ ty 134 w.heap.size (i) (n+1-i) dc ⟨vb,0,none⟩ 1 vc 1 1 vs Tryz.underlying26 hsz (by simp only [kG];split <;> omega) (by omega)
   (fun j v hj=>by rw [Addr.add_lit,hWc,yH];exact hOv _ v (hvs j v hj))
   (fun j hj=>by rw [hWc];exact hN _ (by omega)) (fun j hj=>by rw [hWf];exact hNf _) h1v
 have hGn:n+1≤G:=by rw [hG];exact grownCap_ge w _ _ _
 have hG63:G≤9223372036854775807:=by
  have:=grownCap_le_maxLen w (n+1) c 134 (by unfold maxLen;omega)
  rw [← hG] at this
  unfold maxLen at this
  omega
 have hGi:¬ (G=i):=by omega
 have hGim:¬ (G=i+1):=by omega
 have hci:¬ (c=i):=by omega
 have hbN:b≠w.heap.size:=by omega
 have hdl:(cs.drop (i)).length=(n-i)*1:=by rw [yD,hcl];omega
 have hcpB:∀ (W:World),(∀ x,W.cell? x=(W1.setCells w.heap.size (i) vs).cell? x)→(∀ x,W.frozen? x=(W1.setCells w.heap.size (i) vs).frozen? x)→∀ ty dc sc,(Builtin.copy_ #[26,26] ty #[.slice (some ⟨w.heap.size,i+1,none⟩) (n-i) dc,.slice (some ⟨b,i,none⟩) (n-i) sc]).run Tryz.prog W=.ok (goInt (n-i:Nat)) (W.setCells w.heap.size (i+1) (cs.drop (i))):=fun W hWc hWf ty dc sc =>
  Ik W _ _ ty 134 w.heap.size (i+1) (n-i) dc ⟨b,i,none⟩ (n-i) sc 1 (n-i) (cs.drop (i)) Tryz.underlying26 hsz (by simp only [kG];split <;> omega) hdl
   (fun j v hj=>by
    rw [Addr.add_lit,hWc,World.cell?_setCells_out _ _ _ _ _ (fun h _=>absurd h hbN)]
    exact hOb _ v (hcs (i+j) v (by rwa [yG] at hj)))
   (fun j hj=>by rw [hWc];exact isSome_setCells w.heap.size vs (i) W1 (fun t ht=>hN _ (by omega)) _ (hN _ (by rw [hdl] at hj;omega)))
   (fun j hj=>by rw [hWf,World.frozen?_setCells];exact hNf _) (fun v hv=>h1c v (w7 hv))
 subst hW1
 have hE1:∀ x,((w.alloc (.cells ROW 134)).drew).cell? x=(w.drew.alloc (.cells ROW 134)).cell? x:=fun x=>rfl
 have hE2:∀ x,((w.alloc (.cells ROW 134)).drew).frozen? x=(w.drew.alloc (.cells ROW 134)).frozen? x:=fun x=>rfl
 have hF1:∀ x,(((w.alloc (.cells ROW 134)).drew.setCells w.heap.size (i) vs).drew).cell? x=((w.drew.alloc (.cells ROW 134)).setCells w.heap.size (i) vs).cell? x:=fun x=>rfl
 have hF2:∀ x,(((w.alloc (.cells ROW 134)).drew.setCells w.heap.size (i) vs).drew).frozen? x=((w.drew.alloc (.cells ROW 134)).setCells w.heap.size (i) vs).frozen? x:=fun x=>rfl
 have hw1:IntKind.i64.wrap ((i:Int)+1)=(i:Int)+1:=by rw [IntKind.wrap_i64];omega
 have hb1:(0:Int)≤(i:Int)+1:=by omega
 have hin:i≤n:=by omega
 have htn:((i:Int)+1).toNat=i+1:=by omega
 have hb3:(i:Int)≤(n:Int):=by omega
 clear hkk hik hold hROW hG hRl htl hzc
 go_enter Tryz.func256,Tryz.ntmps256
 go_wp2_with (first
  | (at_builtin;refine Lib.wpList_append_run _ rfl _ _ _ _ rfl _ _ rfl rfl _ _ (hrz _) ?_)
  | (at_builtin;refine wpList_copy_runI _ rfl _ _ 26 26 rfl _ _ rfl rfl (hcpA _ hE1 hE2 _ _) ?_)
  | (at_builtin;refine wpList_copy_runI _ rfl _ _ 26 26 rfl _ _ rfl rfl (hcpB _ (fun _=>rfl) (fun _=>rfl) _ _ _) ?_))
 go_region_law_o (refine step_copy_runI rfl _ _ 26 26 rfl (.slice (some ⟨w.heap.size,i+1,none⟩) (n-i) (G-(i+1))) (.slice (some ⟨b,i,none⟩) (n-i) (c-i)) (by simp [Act.eval,Act.put]) (by simp [Act.eval,Act.put]) (hcpB _ hF1 hF2 3 (G-(i+1)) (c-i)) ?_)
 go_wp2
 go_ret
 exact ⟨R,R⟩
set_option maxHeartbeats 4000000 in
theorem Akq (vb vc:Nat) (vs:List Value) (w:World) (i0:TypeInfo) (hi0:Tryz.prog.info? 134=some i0) (hz0:i0.zero=some (.agg #[.slice none 0 0])) (hs0:i0.size=1)
  (hfit:Builtin.nextslicecap (0+1) 0*i0.bytes≤281474976710656) (hvl:vs.length=1)
  (hvs:∀ j v,vs[j]? = some v→w.cell? ⟨vb,j,none⟩=some v) (h1v:∀ v ∈ vs,v.oneCell'=true) :
  Calls Tryz.prog 256 #[.slice none 0 0,.int .i64 ((0:Nat):Int),.slice (some ⟨vb,0,none⟩) 1 vc] w fun e w' =>
   e=.returned (.slice (some ⟨w.heap.size,0,none⟩) (0+1) (grownCap w (0+1) 0 134)) ∧
   w'=w.drew.alloc (.cells (([]++vs).toArray++Builtin.zeroCells (Value.cells (.agg #[.slice none 0 0])) (grownCap w (0+1) 0 134-(0+1))) 134):=by
 have hsrc:_root_.Go.Src Tryz.prog i0.size 26 (.slice (some ⟨vb,0,none⟩) 1 vc) 1 vs w:=by
  rw [hs0]
  exact _root_.Go.Src.ofSlice w Tryz.underlying26 ⟨vb,0,none⟩ 1 vc vs (by omega) (fun j u hj=>by rw [Addr.add_lit,yH];exact hvs j u hj) h1v
 have hold:(Builtin.firstCells i0.size 0 (.slice none 0 0)).run Tryz.prog w.drew=.ok ([]:List Value).toArray w.drew:=by
  rw [hs0]
  exact run_firstCells_none w.drew 1 0 0 0
 have hrun:∀ ty,(Builtin.append_ #[26,26] ty #[.slice none 0 0,.slice (some ⟨vb,0,none⟩) 1 vc]).run Tryz.prog w=.ok (.slice (some ⟨w.heap.size,0,none⟩) (0+1) (grownCap w (0+1) 0 134)) (w.drew.alloc (.cells (([]++vs).toArray++Builtin.zeroCells (Value.cells (.agg #[.slice none 0 0])) (grownCap w (0+1) 0 134-(0+1))) 134)):=fun ty =>
  run_append_grow_src w 26 26 ty 134 i0 _ Tryz.underlying26 hi0 hz0 none 0 0 [] hold _ 1 vs hsrc (by omega) (by omega) hfit
 go_enter Tryz.func256,Tryz.ntmps256
 go_wp2_with (at_builtin;refine Lib.wpList_append_run _ rfl _ _ _ _ rfl _ _ rfl rfl _ _ (hrun _) ?_)
 all_goals (go_ret;first | exact ⟨rfl,rfl⟩ | exact ⟨rfl,by simp [Value.cells]⟩)
theorem Agz:(Tryz.prog.info? 134).map (fun i=>(i.zero,i.size,i.bytes))=some (some (.agg #[.slice none 0 0]),1,24):=by kernel_rfl
theorem Ap7 {cs vs:List Lf} {n i:Nat} (hcl:cs.length=n*1) (hvl:vs.length=1) (hi:i≤n) (hn:(n+1)*24≤140737488355328) :
  Dl Tryz.prog 256 [.arr 134 1 0 cs,.arr 134 1 0 vs] [.one (.ls 0 n),.one (Ii6 (i:Int)),.one (.ls 1 1)] (fun y m'=>y=.s (.one (.ls 0 (n+1)))∧m'=[.arr 134 1 0 (cs.take (i*1)++vs++cs.drop (i*1)),.dead]):=by
 refine Xj (by decide) hcl hvl (fun w v1 vb vc cur2 xs ys hown hg2 hcell hyl hne hx1 hy1=>?_)
 obtain ⟨i0,hi0,hz0,hs0,hb0⟩:=info_parts Agz
 have hxl:=hown.1
 have hfitG:∀ {old},old<n+1→Builtin.nextslicecap (n+1) old*i0.bytes≤281474976710656:=fun h=>growslice_fits h (by rw [hb0];exact hn)
 have hsz':(Tryz.prog.info? 134).map (·.size)=some 1:=by rw [hi0];simp [hs0]
 have hzc:∀ k,(Builtin.zeroCells (Value.cells (.agg #[.slice none 0 0])) k).size=k*1:=fun k=>by simp [Builtin.zeroCells,Value.cells]
 have hg63:∀ c,grownCap w (n+1) c 134≤maxLen:=fun c=>grownCap_le_maxLen w (n+1) c 134 (by unfold maxLen;omega)
 have hgge:∀ c,n+1≤grownCap w (n+1) c 134:=fun c=>grownCap_ge w _ _ _
 rcases hown.2 with ⟨rfl,h0⟩ | ⟨g,cap,cur,rfl,_,hg,hnc,hcm,hcs,hct⟩
 ·subst h0
  have hi0':i=0:=by omega
  subst hi0'
  have hx0:xs=[]:=jW.1 (hxl.trans (wU _))
  subst hx0
  refine (Akq vb vc ys w i0 hi0 hz0 hs0 (hfitG (by omega)) hyl hcell hy1).mono ?_
  rintro e w' ⟨rfl,rfl⟩
  refine ⟨_,w.heap.size,R,Pb (hgge 0) (hg63 0) ?_ ?_,.inr (zN _)⟩
  ·have:=hgge 0
   rw [yU,hzc,yB,wX,hyl];omega
  ·rw [xI,yW,x9 (by rw [wX,hyl])]
   simp
 ·have hcur:cur.toList.length=cap*1:=by rw [yC];exact hcs
  have hcell1:∀ j v,xs[j]? = some v→w.cell? ⟨g,j,none⟩=some v:=fun j v hj=>by
   unfold World.cell?
   rw [hg]
   rw [← hct,yN] at hj
   split at hj
   ·simpa using hj
   ·cases hj
  have hc63:cap≤9223372036854775807:=by unfold maxLen at hcm;exact hcm
  have hsome:∀ j,j<cap*1→(w.cell? ⟨g,j,none⟩).isSome=true:=fun j hj=>by
   unfold World.cell?
   rw [hg]
   show (cur[j]?).isSome=true
   rw [zP (by omega)];rfl
  have hfrz:∀ j,w.frozen? ⟨g,j,none⟩=false:=fun j=>by
   unfold World.frozen?
   rw [hg]
   show (decide (0≤j) && decide (j<0))=false
   rw [decide_eq_false (zT j),jF]
  have hfrz2:∀ j,w.frozen? ⟨vb,j,none⟩=false:=fun j=>by
   unfold World.frozen?
   rw [hg2]
   show (decide (0≤j) && decide (j<0))=false
   rw [decide_eq_false (zT j),jF]
  have hvb:vb≠g:=fun e=>hne (by rw [e];rfl)
  rcases Nat.lt_or_eq_of_le hi with hlt | rfl
  ·rcases zO cap (n+1) with hroom | hroom
   ·refine (Ag5 g n cap i vb vc xs ys w i0 hi0 hz0 hs0 hlt hnc hroom (by omega) (by rw [hb0];omega) (hfitG hroom) hxl hyl hcell1 hcell hx1 hy1).mono ?_
    rintro e w' ⟨rfl,rfl⟩
    have hge:=hgge cap
    have htl:(xs.take (i*1)).length=i*1:=by rw [zL];omega
    have:=T4 (E:=134) (sz:=1) (w:=w) (row:=(xs.take (i*1)).toArray++Builtin.zeroCells (Value.cells (.agg #[.slice none 0 0])) (n+1-i)++Builtin.zeroCells (Value.cells (.agg #[.slice none 0 0])) (grownCap w (n+1) cap 134-(n+1))) (xs:=xs.take (i*1)) (vs:=ys) (D:=xs.drop (i*1)) hlt hge (hg63 cap)
     (by rw [yU,yU,hzc,hzc,yB,htl];omega) hyl (by rw [yD,hxl];omega)
     (by rw [xI,xI,yW,xO,x9 htl])
    refine ⟨_,w.heap.size,R,?_,.inr (zN _)⟩
    first | exact this | simpa only [kD] using this
   ·refine (Aei g n cap i vb vc xs ys w hsz' hlt hroom hc63 hvb hxl hyl hcell1 (fun j hj=>hsome j (by omega)) (fun j _=>hfrz j) hcell hx1 hy1 134 134 cur2.size cur.size (by unfold World.shape?;rw [hg2]) (by unfold World.shape?;rw [hg]) (by omega) (hfrz2 _) (hfrz2 _)).mono ?_
    rintro e w' ⟨rfl,rfl⟩
    have:=Ss (E:=134) (sz:=1) (b:=g) (vs:=ys) hg hlt hroom hcm hcs hyl
    rw [hct] at this
    refine ⟨_,g,R,?_,.inl R⟩
    first | exact this | simpa only [kD] using this
  ·have hxe:xs.take (i*1)++ys++xs.drop (i*1)=xs++ys:=by
    rw [y9 (by omega),wW (by omega),xF]
   rw [hxe]
   rcases zO cap (i+1) with hroom | hroom
   ·refine (Afo g i cap vb vc xs ys w i0 hi0 hz0 hs0 hnc hroom (by omega) (hfitG hroom) hxl hyl hcell1 hcell hy1).mono ?_
    rintro e w' ⟨rfl,rfl⟩
    have hge:=hgge cap
    refine ⟨_,w.heap.size,R,Pb hge (hg63 cap) ?_ ?_,.inr (zN _)⟩
    ·rw [yU,hzc,yB,zH,hxl,hyl];omega
    ·rw [xI,yW,x9 (by rw [zH,hxl,hyl];omega)]
   ·refine (Ajh g i cap vb vc ys w i0 hi0 hs0 hroom hc63 hyl (fun j hj=>hsome _ (by omega)) (fun j _=>hfrz _) hcell hy1).mono ?_
    rintro e w' ⟨rfl,rfl⟩
    have:=Wb (E:=134) (sz:=1) (n:=i) (b:=g) (vs:=ys) hg hroom hcm hcs hyl
    rw [hct] at this
    exact ⟨_,g,R,this,.inl R⟩
end
def Re (a0:List Al) (a1:Int) (a2:List Al):Option (List Al):=Aoe 24 a0 a1 a2
theorem U4 {a0:List Al} {a1:Int} {a2 r:List Al} (h:Re a0 a1 a2=some r):Dl Tryz.prog 256 [.arr 134 1 0 (a0.flatMap Ay),.arr 134 1 0 (a2.flatMap Ay)] [.one (.ls 0 a0.length),.one (Ii6 a1),.one (.ls 1 a2.length)] (fun y m'=>y=.s (.one (.ls 0 r.length))∧m'=[.arr 134 1 0 (r.flatMap Ay),.dead]) :=
 An3 (f:=Ay) (fun _=>rfl) Ap7 h
def Jw (a0:Int) (b1:Unit):Option (List A0) :=
 if (decide (0<(wI (a0-(wI (0-0)))))) then (if 0<(wI (a0-(wI (0-0))))∧(wI (a0-(wI (0-0))))*((40:Nat):Int)≤281474976710656 then (if (0:Int)≤0∧0≤((List.replicate (wI (a0-(wI (0-0)))).toNat (A0.mk 0 ([]:List UInt8) false)).length:Int) then (some ((List.replicate (wI (a0-(wI (0-0)))).toNat (A0.mk 0 ([]:List UInt8) false)).take (0:Int).toNat)) else none) else none) else (some ([]:List A0))
def Kn (a0:Int):Option (List A0) :=
 if (decide (a0<0)) then none else (Jw a0 ())
theorem V9 {a0:Int} {r:(List A0)} (h:Kn a0=some r):Dl Tryz.prog 281 [] [.one (Znl),.one (Ii6 a0)] (fun y m'=>y=.s (.one (.ls 0 r.length))∧m'=[.arr 136 3 0 (r.flatMap A9)]):=by
 unfold Kn at h
 refine Dc Tryz.func281 R (nt:=27) R (Nbl R) ?_
 intro w0 S0 X0 H0
 refine csr (rm 1 R (Ak (Bl (csr (rm 1 R (sv R (Bt R R) (Ak (cj (Unit) (fun b1=>[(0,.s (.one (Znl))),(1,.s (.one (Ii6 a0)))]) (fun b1=>[]) (fun b1=>Jw a0 b1=some r) (fun _=>R) (fun b1 h=>?_) ?_))))))))
 ·unfold Jw at h
  refine Bl (csr (rm 2 R (sv R (Gu Ws R) (rm 1 R (sv R (F2 Ws R) (sv R (Nk R R) (sv R (Nk R R) (rm 1 R (Ak (csr (rm 1 R (sv R (C5 R R) (Ak (ccI h R (fun h=>?_) (fun h=>?_)))))))))))))))
  ·refine Aq (rm 2 R (sv R (Gu Ws R) (sv R (M0 Ws R R) (sv R (A4 R) ?_))))
   obtain ⟨hm2,h⟩:=Cp h
   refine Ahu (f:=A9) (z:=(A0.mk 0 ([]:List UInt8) false)) R Tryz.underlying132 Alx Tryz.underlying3 (fun _=>R) R R R hm2 (by decide) ?_
   refine rm 1 R (sv R (F2 Ws R) ?_)
   obtain ⟨hs3,h⟩:=Cp h
   refine Abz (f:=A9) R Ws (fun _=>R) R R R R R hs3 ?_
   refine rm 1 R (Ak (csr (rm 2 R (Ak (Bs ?_)))))
   obtain rfl:=SJ h
   exact ⟨Or.inr R,_,[1],[.one (.ls 0 ((List.replicate (wI (a0-(wI (0-0)))).toNat (A0.mk 0 ([]:List UInt8) false)).take (0:Int).toNat).length)],[.arr 136 3 0 (((List.replicate (wI (a0-(wI (0-0)))).toNat (A0.mk 0 ([]:List UInt8) false)).take (0:Int).toNat).flatMap A9)],(Ad (rt R) Ai),R,R,⟨by decide,R⟩,R,R,⟨R,R⟩⟩
  ·refine Bf (Ab (csr (rm 2 R (Ak ?_))))
   refine C6 136 3 4 (by decide) R ?_
   refine Bs ?_
   obtain rfl:=SJ h
   exact ⟨Or.inr R,_,[0],[.one (.ls 0 ([]:List A0).length)],[.arr 136 3 0 (([]:List A0).flatMap A9)],(Ad (rt R) Ai),R,R,⟨by decide,R⟩,R,R,⟨R,R⟩⟩
 ·skip
  refine ccI h R (fun h=>?_) (fun h=>?_)
  ·cases h
  ·refine Bf (Ab ?_)
   exact ⟨(),_,h,⟨R,R,trivial⟩,R⟩
def Lu (b3:(List A0)):Option (List A0) :=
 some b3
def D3 (a0:List (List A0)) (s4:Int × (List A0)):Option (LB (Int × (List A0)) ((List A0))) :=
 if (decide (s4.1<(a0.length:Int))) then ((idx a0 s4.1).bind fun u5=>if (s4.2.length+u5.length)*40≤140737488355328 then (some (.cont ((wI (s4.1+1)),(s4.2++u5)))) else none) else (some (.brk s4.2))
def H9 (a0:List (List A0)) (b1:Int):Option (List A0) :=
 (Kn b1).bind fun v2=>(Ct (D3 a0) fuel (0,v2)).bind fun e7=>Lu e7
def D6 (a0:List (List A0)) (s8:Int × Int):Option (LB (Int × Int) (Int)) :=
 if (decide (s8.2<(a0.length:Int))) then ((idx a0 s8.2).bind fun u9=>if (decide ((wI (s8.1+(u9.length:Int)))<0)) then none else (some (.cont ((wI (s8.1+(u9.length:Int))),(wI (s8.2+1)))))) else (some (.brk s8.1))
def Hv (a0:List (List A0)):Option (List A0) :=
 (Ct (D6 a0) fuel (0,0)).bind fun e10=>H9 a0 e10
theorem Ue {a0:List (List A0)} {r:(List A0)} (h:Hv a0=some r):Dl Tryz.prog 275 [] [.one (.sl a0.length (a0.flatMap (eL A9)))] (fun y m'=>y=.s (.one (.ls 0 r.length))∧m'=[.arr 136 3 0 (r.flatMap A9)]):=by
 unfold Hv at h
 refine Dc Tryz.func275 R (nt:=36) R (Nbl R) ?_
 intro w0 S0 X0 H0
 refine csr (rm 1 R (Ak (csr (rm 1 R (Ak (Bl (csr (rm 1 R (sv R (Aw Ape R) (rm 1 R (Ak (cj (Int) (fun b1=>[(0,.s (.one (.sl a0.length (a0.flatMap (eL A9))))),(3,.s (.one (Ii6 b1)))]) (fun b1=>[]) (fun b1=>H9 a0 b1=some r) (fun _=>R) (fun b1 h=>?_) ?_))))))))))))
 ·unfold H9 at h
  refine csr (sv R (A4 R) ?_)
  obtain ⟨v2,hv2,h⟩:=Ae h
  refine Ie (x':=.s (.one (.ls 0 v2.length))) (M':=[.arr 136 3 0 (v2.flatMap A9)]) [] R Axm (.func _) (Aa R (Aa R Af)) (V9 hv2) R R (by decide) R R R ?_
  refine rm 1 R (Ak (Bl (csr (rm 1 R (sv R (Aw Ape R) (rm 1 R (Ak (cj ((List A0)) (fun b3=>[(6,.s (.one (.ls 0 b3.length)))]) (fun b3=>[.arr 136 3 0 (b3.flatMap A9)]) (fun b3=>Lu b3=some r) (fun _=>R) (fun b3 h=>?_) ?_))))))))
  ·unfold Lu at h
   refine csr (rm 2 R (Ak (Bs ?_)))
   obtain rfl:=SJ h
   exact ⟨Or.inr R,_,[0],[.one (.ls 0 b3.length)],[.arr 136 3 0 (b3.flatMap A9)],(Ad (rt R) Ai),R,R,⟨by decide,R⟩,R,R,⟨R,R⟩⟩
  ·skip
   refine Bq ?_
   obtain ⟨x4,hx4,ho4⟩:=Ae h
   refine lpo (G:=Nat × (Int × (List A0))) (fun g=>[(6,.s (.one (.ls 0 g.2.2.length))),(25,.s (.one (.sl a0.length (a0.flatMap (eL A9))))),(26,.s (.one (Ii6 (a0.length:Int)))),(27,.s (.one (Ii6 g.2.1)))]) (fun g=>[.arr 136 3 0 (g.2.2.flatMap A9)]) (fun g=>Ct (D3 a0) g.1 g.2=some x4) (fun g=>g.1) (fuel,(0,v2)) hx4 ⟨R,R,R,R,trivial⟩ [] R (fun _=>R) ?_
   clear hx4 h
   rintro ⟨n4,s4⟩ h
   obtain ⟨n4,y4,rfl,h,hk4⟩:=Cu h
   unfold D3 at h
   refine csr (sv R (Bt R R) (Ak (Bl (ccI h R (fun h=>?_) (fun h=>?_)))))
   ·refine Bf (Ab (Bl (Bq (Bl (Aq ?_)))))
    obtain ⟨u5,hu5,h⟩:=Ae h
    refine sv R (B8 (f:=(eL A9)) Ape (fun _=>R) R R R R hu5) ?_
    refine sv R (B6 Aa5 R (.cp _) R) (rm 1 R (Ak (Aq (rm 1 R (sv R (A4 R) ?_)))))
    obtain ⟨hb6,h⟩:=Cp h
    refine Tr (f:=A9) (xs:=s4.2) (us:=u5) R Tryz.underlying132 Alx Au4 (fun _=>R) R R (.one _ _ _ _ (.id _ R)) R R R (.sl _ _ _ (Au (f:=A9) (fun _=>R) _)) R R hb6 (by decide) ?_
    refine rm 1 R (Kz (Ap (Ab (Aq (sv R (Bo R R) (rm 1 R (Ak ?_)))))))
    obtain rfl:=SJ h
    exact ⟨(n4,((wI (s4.1+1)),(s4.2++u5))),_,hk4,⟨R,R,R,R,trivial⟩,R,zG _⟩
   ·refine Da (As (As (Bj (Ab ?_))))
    obtain rfl:=SJ h
    obtain rfl:_=x4:=hk4
    exact ⟨s4.2,_,ho4,⟨R,trivial⟩,R⟩
 ·skip
  refine Bq ?_
  obtain ⟨x8,hx8,ho8⟩:=Ae h
  refine lpo (G:=Nat × (Int × Int)) (fun g=>[(0,.s (.one (.sl a0.length (a0.flatMap (eL A9))))),(3,.s (.one (Ii6 g.2.1))),(9,.s (.one (.sl a0.length (a0.flatMap (eL A9))))),(10,.s (.one (Ii6 (a0.length:Int)))),(11,.s (.one (Ii6 g.2.2)))]) (fun g=>[]) (fun g=>Ct (D6 a0) g.1 g.2=some x8) (fun g=>g.1) (fuel,(0,0)) hx8 ⟨R,R,R,R,R,trivial⟩ [] R (fun _=>R) ?_
  clear hx8 h
  rintro ⟨n8,s8⟩ h
  obtain ⟨n8,y8,rfl,h,hk8⟩:=Cu h
  unfold D6 at h
  refine csr (sv R (Bt R R) (Ak (Bl (ccI h R (fun h=>?_) (fun h=>?_)))))
  ·refine Bf (Ab (Bl (Bq (Bl (Aq ?_)))))
   obtain ⟨u9,hu9,h⟩:=Ae h
   refine sv R (B8 (f:=(eL A9)) Ape (fun _=>R) R R R R hu9) ?_
   refine sv R (B6 Aa5 R (.cp _) R) (rm 1 R (Ak (csr (rm 2 R (sv R (Aw Ws R) (sv R (Bo R R) (rm 1 R (Ak (csr (rm 1 R (sv R (Bt R R) (Ak (ccI h R (fun h=>?_) (fun h=>?_))))))))))))))
   ·cases h
   ·refine Bf (Ap (Ab (Aq (sv R (Bo R R) (rm 1 R (Ak ?_))))))
    obtain rfl:=SJ h
    exact ⟨(n8,((wI (s8.1+(u9.length:Int))),(wI (s8.2+1)))),_,hk8,⟨R,R,R,R,R,trivial⟩,R,zG _⟩
  ·refine Da (As (As (Bj (Ab ?_))))
   obtain rfl:=SJ h
   obtain rfl:_=x8:=hk8
   exact ⟨s8.1,_,ho8,⟨R,R,trivial⟩,R⟩
def L2 (a0:Al) (a1:A0) (b1:Unit):Option (Al × Int) :=
 (Ko a0).bind fun v2=>if (decide (a1.Ts≤v2)) then (some ((Al.mk ([]:List A0)),7)) else ((Hv [a0.L,[a1]]).bind fun v3=>some ((Al.mk v3),0))
def Mu (a0:Al) (a1:A0):Option (Al × Int) :=
 (Ex (Al.mk a0.L)).bind fun v4=>if (!v4) then (some ((Al.mk ([]:List A0)),1)) else ((Gk a1).bind fun v5=>if (!v5) then (some ((Al.mk ([]:List A0)),1)) else (L2 a0 a1 ()))
theorem Yf {a0:Al} {a1:A0} {r:Al × Int} (h:Mu a0 a1=some r):Br Tryz.prog 257 [.agg [.sl a0.L.length (a0.L.flatMap A9)],.agg (EL.el a1)] (·=.tup [.agg [.sl r.1.L.length (r.1.L.flatMap A9)],.one (Ii6 r.2)]):=by
 unfold Mu at h
 refine A5 Tryz.func257 R (nt:=28) R (Nbl R) ?_
 intro w0 S0
 refine csr (F4 R R (F4 R R (Bp R Y8 (rm 1 R (Ak (Bl (Bl (cj3 (Unit) (fun b1=>[(2,.s (.one (.lp 0 0))),(3,.s (.one (.lp 1 0))),(4,.s (.one (.lp 2 0)))]) (fun b1=>[.box [.sl a0.L.length (a0.L.flatMap A9)],.box (EL.el a1),.box [Znl]]) (fun b1=>L2 a0 a1 b1=some r) (fun _=>R) (fun b1 h=>?_) ?_))))))))
 ·unfold L2 at h
  refine Bl (Bl ?_)
  refine Z3 mixed (by kernel_rfl) ?_
  refine dv R (Ac Vw R) (dv R (l1 ti3 R R R) (dv R (lo O5 R R R) ?_))
  obtain ⟨v2,hv2,h⟩:=Ae h
  refine dd R (Cy Avd (Aa R Af) R (Sm hv2)) (dv R (De R R) (Zq (Ab (ccI h R (fun h=>?_) (fun h=>?_)))))
  ·refine csr (sv R (A6 Y8 Aka A1 (.nil _)) (sst Y4 R R R R R (rm 1 R (Ak (Bs (Ag ?_))))))
   obtain rfl:=SJ h
   exact dn (Ad (ra O5 R R R) (Ad (rt R) Ai)) (Ip R) R
  ·refine Bf (Ab (csr (fl Tu Aa5 R R R R R R (sv R (lo Agy R R R) ?_))))
   refine Fo R Tryz.underlying132 Alx R R (zJ.1 R) (by decide) ?_
   refine Pz [.box [.sl a0.L.length (a0.L.flatMap A9)],.box (EL.el a1),.box [Znl],.arr 136 3 0 ([a1].flatMap A9)] R ?_
   refine Ah4 24 R (by (repeat' first | exact Ic.nil _ | apply Ic.cons | apply H6.one | apply H6.agg | exact Cz.nil | exact Cz.ls _ _ _ _ _ _ R (Au (f:=A9) (fun _=>R) ([a1]:List A0)).symm | exact Cz.ls _ _ _ _ _ _ R (Au (f:=A9) (fun _=>R) _).symm | exact Cz.id _ R | exact Co.nil _ | apply Co.cons)) ?_
   refine Aha (out:=([a0.L,[a1]]:List (List A0)).flatMap (eL A9)) R Tryz.underlying408 Azv (Ax R (Ax R A1)) (.cons _ _ _ _ _ _ _ R R (Nbl R) (.cons _ _ _ _ _ _ _ R R (Nbl R) (.nil _))) R (by decide) ?_
   refine Ah4 25 R (by (repeat' first | exact Ic.nil _ | apply Ic.cons | apply H6.one | apply H6.agg | exact Cz.nil | exact Cz.ls _ _ _ _ _ _ R (Au (f:=(eL A9)) (fun _=>R) ([a0.L,[a1]]:List (List A0))).symm | exact Cz.ls _ _ _ _ _ _ R (Au (f:=(eL A9)) (fun _=>R) _).symm | exact Cz.ls _ _ _ _ _ _ R (Au (f:=A9) (fun _=>R) _).symm | exact Cz.id _ R | exact Co.nil _ | apply Co.cons)) ?_
   obtain ⟨v3,hv3,h⟩:=Ae h
   refine Ie (x':=.s (.one (.ls 5 v3.length))) (M':=[.box [.sl a0.L.length (a0.L.flatMap A9)],.box (EL.el a1),.box [Znl],.arr 136 3 ([a1].flatMap A9).length ([a1].flatMap A9),.arr 132 1 ([a0.L,[a1]].flatMap (eL A9)).length ([a0.L,[a1]].flatMap (eL A9)),.arr 136 3 0 (v3.flatMap A9)]) [] R Azo (.func _) (Aa R Af) (Ue hv3) R R (by decide) R R R ?_
   refine sv R (A6 Y8 Aka (Ax R A1) (.cons _ _ _ _ _ _ _ R R (Nbl R) (.nil _))) (sst Y4 R R R R R (rm 1 R (Ak (Bs ?_))))
   obtain rfl:=SJ h
   refine ⟨Or.inr R,_,_,_,(Ad (ra O5 R R R) (Ad (rt R) Ai)),(by (repeat' first | exact Ic.nil _ | apply Ic.cons | apply H6.one | apply H6.agg | exact Cz.nil | exact Cz.ls _ _ _ _ _ _ R (Au (f:=(eL A9)) (fun _=>R) _).symm | exact Cz.ls _ _ _ _ _ _ R (Au (f:=A9) (fun _=>R) _).symm | exact Cz.id _ R | exact Co.nil _ | apply Co.cons)),?_⟩
   rfl
 ·skip
  refine Aq (sv R (lo O5 R R R) ?_)
  obtain ⟨v4,hv4,h⟩:=Ae h
  refine Ba R Atd (Aa R Af) (An R) (Pe hv4) (sv R (B0 R) (rm 1 R (ssI 9 h R (fun h=>?_) (fun h=>?_))))
  ·refine rm 4 R (Ak (Ci R (fun _=>?_) (fun hx=>Bool.noConfusion hx)))
   refine csr (sv R (A6 Y8 Aka A1 (.nil _)) (sst Y4 R R R R R (rm 1 R (Ak (Bs (Ag ?_))))))
   obtain rfl:=SJ h
   exact dn (Ad (ra O5 R R R) (Ad (rt R) Ai)) (Ip R) R
  ·refine son R R R (ld Agy R R R R (son R R R ?_))
   obtain ⟨v5,hv5,h⟩:=Ae h
   refine Ba R Aux (Aa R Af) (An R) (P8 hv5) (son R R R (sv R (B0 R) (rm 1 R (Ak (ccI h R (fun h=>?_) (fun h=>?_))))))
   ·refine csr (sv R (A6 Y8 Aka A1 (.nil _)) (sst Y4 R R R R R (rm 1 R (Ak (Bs (Ag ?_))))))
    obtain rfl:=SJ h
    exact dn (Ad (ra O5 R R R) (Ad (rt R) Ai)) (Ip R) R
   ·refine Bf (Ab ?_)
    exact ⟨(),_,h,⟨R,R,R,trivial⟩,R⟩
def E5 (a2:Int) (a3:Av) (v1:Int × Bool) (b2:(List (List UInt8)) × (List Al)):Option (Int × (List (List UInt8)) × (List Al)) :=
 (idx b2.2 v1.1).bind fun u3=>(Mu u3 (A0.mk a2 a3.Val a3.Del)).bind fun v4=>if (decide (v4.2=0)) then ((idx b2.2 v1.1).bind fun u5=>some (a2,b2.1,(b2.2.set v1.1.toNat v4.1))) else (some (a2,b2.1,b2.2))
def Mo (a0:List (List UInt8)) (a1:List Al) (a2:Int) (a3:Av):Option (Int × (List (List UInt8)) × (List Al)) :=
 (Ns a0 a3.Key).bind fun v1=>if (!v1.2) then ((Rn a0 v1.1 [a3.Key]).bind fun v6=>(Re a1 v1.1 [(Al.mk ([]:List A0))]).bind fun v7=>E5 a2 a3 v1 (v6,v7)) else (E5 a2 a3 v1 (a0,a1))
theorem X1 {a0:List (List UInt8)} {a1:List Al} {a2:Int} {a3:Av} {r:Int × (List (List UInt8)) × (List Al)} (h:Mo a0 a1 a2 a3=some r):Dl Tryz.prog 216 [.arr 56 1 0 (a0.flatMap (eL eU8)),.arr 134 1 0 (a1.flatMap Ay)] [.agg [.ls 0 a0.length,.ls 1 a1.length,Ii6 a2],.agg (EL.el a3)] (fun y m'=>y=.s (.agg [.ls 0 r.2.1.length,.ls 1 r.2.2.length,Ii6 r.1])∧m'=[.arr 56 1 0 (r.2.1.flatMap (eL eU8)),.arr 134 1 0 (r.2.2.flatMap Ay)]):=by
 unfold Mo at h
 refine Dc Tryz.func216 R (nt:=58) R (Nbl R) ?_
 intro w0 S0 X0 H0
 refine csr (F4 R R (F4 R R (Bp R Af7 (Ak (csr (fl Qz Abe R R R R R R (sv R (Ac Qg R) (sv R (l1 Mz R R R) ?_))))))))
 obtain ⟨v1,hv1,h⟩:=Ae h
 refine Ie (x':=.tup [.one (Ii6 v1.1),.one (.b v1.2)]) (M':=[.arr 56 1 0 (a0.flatMap (eL eU8)),.arr 134 1 0 (a1.flatMap Ay),.box [.ls 0 a0.length,.ls 1 a1.length,Ii6 a2],.box (EL.el a3),.box [Znl,Znl,Ii6 0]]) [0] R Axl (.func _) (Aa R (Aa R Af)) (Yu hv1) R R (by decide) R R R ?_
 refine sv R (Ca R) (sv R (Aj R R) (sv R (Aj R R) (rm 2 R (Ak (Bl (csr (rm 1 R (sv R (B0 R) (Ak (cj ((List (List UInt8)) × (List Al)) (fun b2=>[(2,.s (.one (.lp 2 0))),(3,.s (.one (.lp 3 0))),(4,.s (.one (.lp 4 0))),(5,.s (.one (Ii6 v1.1)))]) (fun b2=>[.arr 56 1 0 (b2.1.flatMap (eL eU8)),.arr 134 1 0 (b2.2.flatMap Ay),.box [.ls 0 b2.1.length,.ls 1 b2.2.length,Ii6 a2],.box (EL.el a3),.box [Znl,Znl,Ii6 0]]) (fun b2=>E5 a2 a3 v1 b2=some r) (fun _=>R) (fun b2 h=>?_) ?_))))))))))
 ·unfold E5 at h
  refine Bl (Aah ?_)
  obtain ⟨u3,hu3,h⟩:=Ae h
  obtain ⟨v4,hv4,h⟩:=Ae h
  refine Ig [16,17] [0,1,0,7,15,0,32,0,128,0,512,2016,4095,8191,16383,16383,0,98303,262143] [[.arr 56 1 0 (b2.1.flatMap (eL eU8)),.arr 134 1 0 (b2.2.flatMap Ay),.box [.ls 0 b2.1.length,.ls 1 b2.2.length,Ii6 a2],.box (EL.el a3),.box [Znl,Znl,Ii6 0],.hole],[.arr 56 1 0 (b2.1.flatMap (eL eU8)),.arr 134 1 0 (b2.2.flatMap Ay),.box [.ls 0 b2.1.length,.ls 1 b2.2.length,Ii6 a2],.box (EL.el a3),.box [Znl,Znl,Ii6 0],.box [Znl]],[.arr 56 1 0 (b2.1.flatMap (eL eU8)),.arr 134 1 0 (b2.2.flatMap Ay),.box [.ls 0 b2.1.length,.ls 1 b2.2.length,Ii6 a2],.box (EL.el a3),.box [Znl,Znl,Ii6 0],.box [.sl v4.1.L.length (v4.1.L.flatMap A9)]]] (by kernel_rfl) mixed (by kernel_rfl) (by decide) R R R R ?_
  refine evs (md:=[.arr 56 1 0 (b2.1.flatMap (eL eU8)),.arr 134 1 0 (b2.2.flatMap Ay),.box [.ls 0 b2.1.length,.ls 1 b2.2.length,Ii6 a2],.box (EL.el a3),.box [Znl,Znl,Ii6 0],.dead]) (fun hS=>ev (B5 hS) R R (Ac Qs R) (ev (B5 hS) R R (l1 Akc R R R) (emv R R (fun _=>A4 R) ?_))) ⟨⟨R,⟨R,⟨R,⟨R,⟨R,⟨trivial,trivial⟩⟩⟩⟩⟩⟩,⟨⟨R,⟨R,⟨R,⟨R,⟨R,⟨trivial,trivial⟩⟩⟩⟩⟩⟩,⟨⟨R,⟨R,⟨R,⟨R,⟨R,⟨trivial,trivial⟩⟩⟩⟩⟩⟩,trivial⟩⟩⟩
  refine ev (B5 (md:=[.arr 56 1 0 (b2.1.flatMap (eL eU8)),.arr 134 1 0 (b2.2.flatMap Ay),.box [.ls 0 b2.1.length,.ls 1 b2.2.length,Ii6 a2],.box (EL.el a3),.box [Znl,Znl,Ii6 0],.dead]) ⟨⟨rfl,⟨rfl,⟨rfl,⟨rfl,⟨rfl,⟨trivial,trivial⟩⟩⟩⟩⟩⟩,⟨⟨rfl,⟨rfl,⟨rfl,⟨rfl,⟨rfl,⟨trivial,trivial⟩⟩⟩⟩⟩⟩,⟨⟨rfl,⟨rfl,⟨rfl,⟨rfl,⟨rfl,⟨trivial,trivial⟩⟩⟩⟩⟩⟩,trivial⟩⟩⟩) rfl rfl (Et (f:=Ay) Aov (fun _=>rfl) rfl rfl rfl (by first | rfl | exact List.length_set.symm) rfl hu3) ?_
  refine ev (B5 (md:=[.arr 56 1 0 (b2.1.flatMap (eL eU8)),.arr 134 1 0 (b2.2.flatMap Ay),.box [.ls 0 b2.1.length,.ls 1 b2.2.length,Ii6 a2],.box (EL.el a3),.box [Znl,Znl,Ii6 0],.dead]) ⟨⟨R,⟨R,⟨R,⟨R,⟨R,⟨trivial,trivial⟩⟩⟩⟩⟩⟩,⟨⟨R,⟨R,⟨R,⟨R,⟨R,⟨trivial,trivial⟩⟩⟩⟩⟩⟩,⟨⟨R,⟨R,⟨R,⟨R,⟨R,⟨trivial,trivial⟩⟩⟩⟩⟩⟩,trivial⟩⟩⟩) R R (Ov (f:=Ay) (sz:=1) 0 O5 (fun _=>R) R R R R (Gq hu3).2 (Nbl R) R) ?_
  refine evs (md:=[.arr 56 1 0 (b2.1.flatMap (eL eU8)),.arr 134 1 0 (b2.2.flatMap Ay),.box [.ls 0 b2.1.length,.ls 1 b2.2.length,Ii6 a2],.box (EL.el a3),.box [Znl,Znl,Ii6 0],.dead]) (fun hS=>ev (B5 hS) R R (Ac Q7 R) (ev (B5 hS) R R (l1 ti3 R R R) (ev (B5 hS) R R (Ac Xa R) (ev (B5 hS) R R (l1 Mz R R R) (ev (B5 hS) R R (Ac Abn R) (ev (B5 hS) R R (l1 ti4 R R R) (ev (B5 hS) R R (A6 Ahf Au7 (Ax R (Ax R (Ax R A1))) (.cons _ _ _ _ _ _ _ R R (Nbl R) (.cons _ _ _ _ _ _ _ R R (Nbl R) (.cons _ _ _ _ _ _ _ R R (Nbl R) (.nil _))))) (ed (B5 hS) R R (Cy Azp (Aa R (Aa R Af)) R (Yf hv4)) (emv R R (fun _=>Ca R) ?_))))))))) ⟨⟨R,⟨R,⟨R,⟨R,⟨R,⟨trivial,trivial⟩⟩⟩⟩⟩⟩,⟨⟨R,⟨R,⟨R,⟨R,⟨R,⟨trivial,trivial⟩⟩⟩⟩⟩⟩,⟨⟨R,⟨R,⟨R,⟨R,⟨R,⟨trivial,trivial⟩⟩⟩⟩⟩⟩,trivial⟩⟩⟩
  refine evs (md:=[.arr 56 1 0 (b2.1.flatMap (eL eU8)),.arr 134 1 0 (b2.2.flatMap Ay),.box [.ls 0 b2.1.length,.ls 1 b2.2.length,Ii6 a2],.box (EL.el a3),.box [Znl,Znl,Ii6 0],.dead]) (fun hS=>ev (B5 hS) R R (Aj R R) (ev (B5 hS) R R (Aj R R) (ee (x:=.s (.one (.lp 5 0))) 0 R R R R R (fun ζ=>?_) ?_))) ⟨⟨R,⟨R,⟨R,⟨R,⟨R,⟨trivial,trivial⟩⟩⟩⟩⟩⟩,⟨⟨R,⟨R,⟨R,⟨R,⟨R,⟨trivial,trivial⟩⟩⟩⟩⟩⟩,⟨⟨R,⟨R,⟨R,⟨R,⟨R,⟨trivial,trivial⟩⟩⟩⟩⟩⟩,trivial⟩⟩⟩
  ·refine Mg 5 R Y8 R ?_
   exact Sv
  refine ee0 1 R R R R (fun ζ=>?_) ?_
  ·refine sst Y4 R R R R R (Pz [.arr 56 1 0 (b2.1.flatMap (eL eU8)),.arr 134 1 0 (b2.2.flatMap Ay),.box [.ls 0 b2.1.length,.ls 1 b2.2.length,Ii6 a2],.box (EL.el a3),.box [Znl,Znl,Ii6 0],.box [.sl v4.1.L.length (v4.1.L.flatMap A9)]] R ?_)
   exact Sv
  refine ev (A7 2 R R) R R (Iu R) (Aas (Ab (Bl (csr (rm 1 R (sv R (B4 R R) (Ak (ccI h R (fun h=>?_) (fun h=>?_)))))))))
  ·refine Aq (fl Qs Akc R R R R R R (rm 1 R (sv R (lo O5 R R R) ?_)))
   obtain ⟨u5,hu5,h⟩:=Ae h
   refine sv R (Et (f:=Ay) Aov (fun _=>R) R R R R R hu5) ?_
   refine Zw (f:=Ay) (u':=v4.1) (sz:=1) 0 Y4 (fun _=>R) R R R R R R R (zJ.1 R) (Gq hu5).2 (Nbl R) R ?_
   refine Mx 36 (y:=.s (.one (.ls 1 b2.2.length))) (.s (.one (.ls 1 (b2.2.set v1.1.toNat v4.1).length))) R (congrArg (fun n=>AV.s (.one (.ls 1 n))) List.length_set.symm) ?_
   refine Mx 53 (y:=.s (.one (.ls 1 b2.2.length))) (.s (.one (.ls 1 (b2.2.set v1.1.toNat v4.1).length))) R (congrArg (fun n=>AV.s (.one (.ls 1 n))) List.length_set.symm) ?_
   refine Pz [.arr 56 1 0 (b2.1.flatMap (eL eU8)),.arr 134 1 0 ((b2.2.set v1.1.toNat v4.1).flatMap Ay),.box [.ls 0 b2.1.length,.ls 1 b2.2.length,Ii6 a2],.box (EL.el a3),.box [Znl,Znl,Ii6 0],.box [.sl v4.1.L.length (v4.1.L.flatMap A9)]] R ?_
   refine Pz [.arr 56 1 0 (b2.1.flatMap (eL eU8)),.arr 134 1 0 ((b2.2.set v1.1.toNat v4.1).flatMap Ay),.box [.ls 0 b2.1.length,.ls 1 (b2.2.set v1.1.toNat v4.1).length,Ii6 a2],.box (EL.el a3),.box [Znl,Znl,Ii6 0],.box [.sl v4.1.L.length (v4.1.L.flatMap A9)]] (by rw [xH]) ?_
   refine Ak (csr (ld Vs R R R R (sst Ag6 R R R R R (Ak (Bs ?_)))))
   obtain rfl:=SJ h
   exact ⟨Or.inr R,_,[0,1],[.agg [.ls 0 b2.1.length,.ls 1 (b2.2.set v1.1.toNat v4.1).length,Ii6 a2]],[.arr 56 1 0 (b2.1.flatMap (eL eU8)),.arr 134 1 0 ((b2.2.set v1.1.toNat v4.1).flatMap Ay)],(Ad (ra Vs R R R) Ai),R,R,⟨by decide,R⟩,R,R,⟨R,R⟩⟩
  ·refine Bf (Ab (csr (ld Vs R R R R (sst Ag6 R R R R R (Ak (Bs ?_))))))
   obtain rfl:=SJ h
   exact ⟨Or.inr R,_,[0,1],[.agg [.ls 0 b2.1.length,.ls 1 b2.2.length,Ii6 a2]],[.arr 56 1 0 (b2.1.flatMap (eL eU8)),.arr 134 1 0 (b2.2.flatMap Ay)],(Ad (ra Vs R R R) Ai),R,R,⟨by decide,R⟩,R,R,⟨R,R⟩⟩
 ·skip
  refine ccI h R (fun h=>?_) (fun h=>?_)
  ·refine csr (fl Qz Abe R R R R R R (rm 1 R (sv R (Ac Qg R) (sv R (l1 Mz R R R) ?_))))
   refine Fo R Tryz.underlying25 Af4 R R (zJ.1 R) (by decide) ?_
   refine Pz [.arr 56 1 0 (a0.flatMap (eL eU8)),.arr 134 1 0 (a1.flatMap Ay),.box [.ls 0 a0.length,.ls 1 a1.length,Ii6 a2],.box (EL.el a3),.box [Znl,Znl,Ii6 0],.arr 56 1 0 ([a3.Key].flatMap (eL eU8))] R ?_
   obtain ⟨v6,hv6,h⟩:=Ae h
   refine Ie (x':=.s (.one (.ls 0 v6.length))) (M':=[.arr 56 1 0 (v6.flatMap (eL eU8)),.arr 134 1 0 (a1.flatMap Ay),.box [.ls 0 a0.length,.ls 1 a1.length,Ii6 a2],.box (EL.el a3),.box [Znl,Znl,Ii6 0],.dead]) [0,5] R Azt (.func _) (Aa R (Aa R (Aa R Af))) (U0 hv6) R R (by decide) R R R ?_
   refine sv R (Ac Qz R) (sst Aym R R R R R (Ak (Aq (fl Qs Akc R R R R R R (rm 1 R (sv R (A6 Y8 Aka A1 (.nil _)) ?_))))))
   refine Ah4 30 R (by (repeat' first | exact Ic.nil _ | apply Ic.cons | apply H6.one | apply H6.agg | exact Cz.nil | exact Cz.ls _ _ _ _ _ _ R (Au (f:=(eL eU8)) (fun _=>R) _).symm | exact Cz.ls _ _ _ _ _ _ R (Au (f:=Ay) (fun _=>R) _).symm | exact Cz.id _ R | exact Co.nil _ | apply Co.cons)) ?_
   refine Fo R Tryz.underlying26 Agg R R (zJ.1 R) (by decide) ?_
   refine Pz [.arr 56 1 0 (v6.flatMap (eL eU8)),.arr 134 1 0 (a1.flatMap Ay),.box [.ls 0 v6.length,.ls 1 a1.length,Ii6 a2],.box (EL.el a3),.box [Znl,Znl,Ii6 0],.dead,.arr 134 1 0 ([(Al.mk ([]:List A0))].flatMap Ay)] R ?_
   obtain ⟨v7,hv7,h⟩:=Ae h
   refine Ie (x':=.s (.one (.ls 1 v7.length))) (M':=[.arr 56 1 0 (v6.flatMap (eL eU8)),.arr 134 1 0 (v7.flatMap Ay),.box [.ls 0 v6.length,.ls 1 a1.length,Ii6 a2],.box (EL.el a3),.box [Znl,Znl,Ii6 0],.dead,.dead]) [1,6] R Aza (.func _) (Aa R (Aa R (Aa R Af))) (U4 hv7) R R (by decide) R R R ?_
   refine sv R (Ac Qs R) (sst A0h R R R R R (Ak ?_))
   exact ⟨(v6,v7),_,h,⟨R,R,R,R,trivial⟩,R⟩
  ·refine Bf (Ab ?_)
   exact ⟨(a0,a1),_,h,⟨R,R,R,R,trivial⟩,R⟩
def Ix (b5:(List (List UInt8)) × (List Al) × Int):Option (Bu × Int) :=
 if (decide (128<(b5.1.length:Int))) then (some (Pv,8)) else (some ((Bu.mk b5.1 b5.2.1 b5.2.2),0))
def Em (a2:List Av) (s6:Int × (List (List UInt8)) × (List Al) × Int):Option (LB (Int × (List (List UInt8)) × (List Al) × Int) ((List (List UInt8)) × (List Al) × Int)) :=
 if (decide (s6.1<(a2.length:Int))) then ((idx a2 s6.1).bind fun u7=>(Mo s6.2.1 s6.2.2.1 s6.2.2.2 u7).bind fun v8=>some (.cont ((wI (s6.1+1)),v8.2.1,v8.2.2,v8.1))) else (some (.brk (s6.2.1,s6.2.2.1,s6.2.2.2)))
def Jf (a0:Bu) (a1:Int) (a2:List Av) (b2:Unit):Option (Bu × Int) :=
 (I9 a0.Keys).bind fun v3=>(Ir a0.Chains).bind fun v4=>(Ct (Em a2) fuel (0,v3,v4,a1)).bind fun e9=>Ix e9
def I1 (a0:Bu) (a1:Int) (a2:List Av) (b1:Unit):Option (Bu × Int) :=
 if (decide (a1≤a0.Ts)) then (some (Pv,7)) else (if (decide (1099511627776<a1)) then (some (Pv,7)) else (Jf a0 a1 a2 ()))
def Dy (a0:Bu) (a1:Int) (a2:List Av):Option (Bu × Int) :=
 (C7 (Bu.mk a0.Keys a0.Chains a0.Ts)).bind fun v10=>if (!v10) then (some (Pv,1)) else ((Gf a2).bind fun v11=>if (!v11) then (some (Pv,1)) else (I1 a0 a1 a2 ()))
theorem Uu {a0:Bu} {a1:Int} {a2:List Av} {r:Bu × Int} (h:Dy a0 a1 a2=some r):Br Tryz.prog 143 [.agg (EL.el a0),.one (Ii6 a1),.one (.sl a2.length (a2.flatMap Ao))] (·=.tup [.agg (EL.el r.1),.one (Ii6 r.2)]):=by
 unfold Dy at h
 refine A5 Tryz.func143 R (nt:=53) R (Nbl R) ?_
 intro w0 S0
 refine csr (F4 R R (Bp R Af7 (rm 1 R (Ak (Bl (Bl (cj3 (Unit) (fun b1=>[(1,.s (.one (Ii6 a1))),(2,.s (.one (.sl a2.length (a2.flatMap Ao)))),(3,.s (.one (.lp 0 0))),(6,.s (.one (.lp 1 0)))]) (fun b1=>[.box (EL.el a0),.box [Znl,Znl,Ii6 0]]) (fun b1=>I1 a0 a1 a2 b1=some r) (fun _=>R) (fun b1 h=>?_) ?_)))))))
 ·unfold I1 at h
  refine Bl (Bl (cj3 (Unit) (fun b2=>[(1,.s (.one (Ii6 a1))),(2,.s (.one (.sl a2.length (a2.flatMap Ao)))),(3,.s (.one (.lp 0 0))),(6,.s (.one (.lp 1 0)))]) (fun b2=>[.box (EL.el a0),.box [Znl,Znl,Ii6 0]]) (fun b2=>Jf a0 a1 a2 b2=some r) (fun _=>R) (fun b2 h=>?_) ?_))
  ·unfold Jf at h
   refine Bl (Aah (Aah (Aah ?_)))
   obtain ⟨v3,hv3,h⟩:=Ae h
   obtain ⟨v4,hv4,h⟩:=Ae h
   refine Ane [2,5,8,9] [0,1,3,0,8,31,0,127,0,511] [([false,false,false,false],[.box (EL.el a0),.box [Znl,Znl,Ii6 0],.hole,.hole,.hole]),([false,false,true,false],[.box (EL.el a0),.box [Znl,Znl,Ii6 0],.hole,.hole,.box [Znl,Znl,Ii6 0]]),([true,false,false,false],[.box (EL.el a0),.box [Znl,Znl,Ii6 0],.arr 56 1 0 (v3.flatMap (eL eU8)),.hole,.hole]),([true,false,true,false],[.box (EL.el a0),.box [Znl,Znl,Ii6 0],.arr 56 1 0 (v3.flatMap (eL eU8)),.hole,.box [Znl,Znl,Ii6 0]]),([true,true,false,false],[.box (EL.el a0),.box [Znl,Znl,Ii6 0],.arr 56 1 0 (v3.flatMap (eL eU8)),.arr 134 1 0 (v4.flatMap Ay),.hole]),([true,true,true,false],[.box (EL.el a0),.box [Znl,Znl,Ii6 0],.arr 56 1 0 (v3.flatMap (eL eU8)),.arr 134 1 0 (v4.flatMap Ay),.box [Znl,Znl,Ii6 0]]),([true,true,true,true],[.box (EL.el a0),.box [Znl,Znl,Ii6 0],.arr 56 1 0 (v3.flatMap (eL eU8)),.arr 134 1 0 (v4.flatMap Ay),.box [.ls 2 v3.length,.ls 3 v4.length,Ii6 a1]])] (by kernel_rfl) mixed (by kernel_rfl) (by decide) R (by kernel_rfl) R R ?_
   refine Avq R R (Cx R (Ac Qz R) (Cx R (Ac Qz R) (Cd R (Cd R (Cd R (Cd R (Cd R G6))))))) (Avq R R (Cx R (l1 Abe R R R) (Cx R (l1 Abe R R R) (Cd R (Cd R (Cd R (Cd R (Cd R G6))))))) (mee (x:=.s (.one (.ls 2 v3.length))) 0 R R ?_ ?_))
   ·refine Cx R ⟨_,R,fun ζ=>?_⟩ ?_
    ·refine Wq (g:=(eL eU8)) (ys:=v3) 2 R Awq (.func _) (Aa R Af) (Qf hv3) R (fun _=>R) R R R R ?_
     exact Sv
    refine Cx R ⟨_,R,fun ζ=>?_⟩ ?_
    ·refine Wq (g:=(eL eU8)) (ys:=v3) 2 R Awq (.func _) (Aa R Af) (Qf hv3) R (fun _=>R) R R R R ?_
     exact Sv
    refine Cd R (Cd R (Cd R (Cd R (Cd R ?_))))
    exact G6
   refine Avq R R (Cx R (Ac Qs R) (Cx R (Ac Qs R) (Cx R (Ac Qs R) (Cx R (Ac Qs R) (Cd R (Cd R (Cd R G6))))))) (Avq R R (Cx R (l1 Akc R R R) (Cx R (l1 Akc R R R) (Cx R (l1 Akc R R R) (Cx R (l1 Akc R R R) (Cd R (Cd R (Cd R G6))))))) (mee (x:=.s (.one (.ls 3 v4.length))) 1 R R ?_ ?_))
   ·refine Cd R (Cd R (Cx R ⟨_,R,fun ζ=>?_⟩ ?_))
    ·refine Wq (g:=Ay) (ys:=v4) 3 R Au8 (.func _) (Aa R Af) (Qd hv4) R (fun _=>R) R R R R ?_
     exact Sv
    refine Cx R ⟨_,R,fun ζ=>?_⟩ ?_
    ·refine Wq (g:=Ay) (ys:=v4) 3 R Au8 (.func _) (Aa R Af) (Qd hv4) R (fun _=>R) R R R R ?_
     exact Sv
    refine Cd R (Cd R (Cd R ?_))
    exact G6
   refine Avi R R (fun _=>A4 R) ?_
   refine Avq R R (Cd R (Cd R (Cd R (Cd R (Cx R (A6 Af7 Arc (Ax R (Ax R (Ax R A1))) (.cons _ _ _ _ _ _ _ R R (Nbl R) (.cons _ _ _ _ _ _ _ R R (Nbl R) (.cons _ _ _ _ _ _ _ R R (Nbl R) (.nil _))))) (Cx R (A6 Af7 Arc (Ax R (Ax R (Ax R A1))) (.cons _ _ _ _ _ _ _ R R (Nbl R) (.cons _ _ _ _ _ _ _ R R (Nbl R) (.cons _ _ _ _ _ _ _ R R (Nbl R) (.nil _))))) (Cd R G6))))))) (mee (x:=.s (.one (.lp 4 0))) 2 R R ?_ ?_)
   ·refine Cx R ⟨_,R,fun ζ=>?_⟩ ?_
    ·refine Mg 4 R Af7 R ?_
     exact Sv
    refine Cd R (Cx R ⟨_,R,fun ζ=>?_⟩ ?_)
    ·refine Mg 4 R Af7 R ?_
     exact Sv
    refine Cd R (Cx R ⟨_,R,fun ζ=>?_⟩ ?_)
    ·refine Mg 4 R Af7 R ?_
     exact Sv
    refine Cd R (Cd R ?_)
    exact G6
   refine Azh 3 R ?_ ?_
   ·refine Cd R (Cd R (Cd R (Cd R (Cd R (Cx R ⟨_,R,fun ζ=>?_⟩ ?_)))))
    ·refine sst Ag6 R R R R R (Pz [.box (EL.el a0),.box [Znl,Znl,Ii6 0],.arr 56 1 0 (v3.flatMap (eL eU8)),.arr 134 1 0 (v4.flatMap Ay),.box [.ls 2 v3.length,.ls 3 v4.length,Ii6 a1]] R ?_)
     exact Sv
    refine Cd R ?_
    exact G6
   refine Aw0 (Ab (Bl (csr (rm 1 R (sv R (Aw V5 R) (rm 1 R (Ak (cj ((List (List UInt8)) × (List Al) × Int) (fun b5=>[(6,.s (.one (.lp 1 0))),(8,.s (.one (.lp 4 0)))]) (fun b5=>[.box (EL.el a0),.box [Znl,Znl,Ii6 0],.arr 56 1 0 (b5.1.flatMap (eL eU8)),.arr 134 1 0 (b5.2.1.flatMap Ay),.box [.ls 2 b5.1.length,.ls 3 b5.2.1.length,Ii6 b5.2.2]]) (fun b5=>Ix b5=some r) (fun _=>R) (fun b5 h=>?_) ?_))))))))
   ·unfold Ix at h
    refine Bl (csr (fl Qz Abe R R R R R R (sv R (Fu S7 R R (Au (f:=(eL eU8)) (fun _=>R) _).symm) ?_)))
    refine sv R (C5 R R) (Ak (ccI h R (fun h=>?_) (fun h=>?_)))
    ·refine csr (sv R (A6 Af7 Arc A1 (.nil _)) (sst Ag6 R R R R R (rm 1 R (Ak (Bs (Ag ?_))))))
     obtain rfl:=SJ h
     exact dn (Ad (ra Vs R R R) (Ad (rt R) Ai)) (Ip R) R
    ·refine Bf (Ab (csr (ld Vs R R R R (sst Ag6 R R R R R (rm 1 R (Ak (Bs ?_)))))))
     obtain rfl:=SJ h
     refine ⟨Or.inr R,_,_,_,(Ad (ra Vs R R R) (Ad (rt R) Ai)),(by (repeat' first | exact Ic.nil _ | apply Ic.cons | apply H6.one | apply H6.agg | exact Cz.nil | exact Cz.ls _ _ _ _ _ _ R (Au (f:=(eL eU8)) (fun _=>R) _).symm | exact Cz.ls _ _ _ _ _ _ R (Au (f:=Ay) (fun _=>R) _).symm | exact Cz.id _ R | exact Co.nil _ | apply Co.cons)),?_⟩
     rfl
   ·skip
    refine Bq ?_
    obtain ⟨x6,hx6,ho6⟩:=Ae h
    refine lpo (G:=Nat × (Int × (List (List UInt8)) × (List Al) × Int)) (fun g=>[(6,.s (.one (.lp 1 0))),(8,.s (.one (.lp 4 0))),(37,.s (.one (.sl a2.length (a2.flatMap Ao)))),(38,.s (.one (Ii6 (a2.length:Int)))),(39,.s (.one (Ii6 g.2.1)))]) (fun g=>[.box (EL.el a0),.box [Znl,Znl,Ii6 0],.arr 56 1 0 (g.2.2.1.flatMap (eL eU8)),.arr 134 1 0 (g.2.2.2.1.flatMap Ay),.box [.ls 2 g.2.2.1.length,.ls 3 g.2.2.2.1.length,Ii6 g.2.2.2.2]]) (fun g=>Ct (Em a2) g.1 g.2=some x6) (fun g=>g.1) (fuel,(0,v3,v4,a1)) hx6 ⟨R,R,R,R,R,trivial⟩ [] R (fun _=>R) ?_
    clear hx6 h
    rintro ⟨n6,s6⟩ h
    obtain ⟨n6,y6,rfl,h,hk6⟩:=Cu h
    unfold Em at h
    refine csr (sv R (Bt R R) (Ak (Bl (ccI h R (fun h=>?_) (fun h=>?_)))))
    ·refine Bf (Ab (Bl (Bq (Bl (Aq ?_)))))
     obtain ⟨u7,hu7,h⟩:=Ae h
     refine sv R (B8 (f:=Ao) V5 (fun _=>R) R R R R hu7) ?_
     refine sv R (Bz (ys:=[.sl u7.Key.length (u7.Key.flatMap eU8),.sl u7.Val.length (u7.Val.flatMap eU8),.b u7.Del]) Ady R (.cp _) R R) (Bp R Ajk (sst Al2 R R R R R (Ak (Aq (ld Vs R R R R (sv R (lo Ady R R R) ?_))))))
     obtain ⟨v8,hv8,h⟩:=Ae h
     refine Ie (x':=.s (.agg [.ls 2 v8.2.1.length,.ls 3 v8.2.2.length,Ii6 v8.1])) (M':=[.box (EL.el a0),.box [Znl,Znl,Ii6 0],.arr 56 1 0 (v8.2.1.flatMap (eL eU8)),.arr 134 1 0 (v8.2.2.flatMap Ay),.box [.ls 2 s6.2.1.length,.ls 3 s6.2.2.1.length,Ii6 s6.2.2.2],.box (EL.el u7)]) [2,3] R Aya (.func _) (Aa R (Aa R Af)) (X1 hv8) R R (by decide) R R R ?_
     refine sst Ag6 R R R R R (Kz (Ap (Ab (Aq (sv R (Bo R R) (rm 1 R (Ak ?_)))))))
     obtain rfl:=SJ h
     exact ⟨(n6,((wI (s6.1+1)),v8.2.1,v8.2.2,v8.1)),_,hk6,⟨R,R,R,R,R,trivial⟩,R,zG _⟩
    ·refine Da (As (As (Bj (Ab ?_))))
     obtain rfl:=SJ h
     obtain rfl:_=x6:=hk6
     exact ⟨(s6.2.1,s6.2.2.1,s6.2.2.2),_,ho6,⟨R,R,trivial⟩,R⟩
  ·skip
   refine Aq (rm 1 R (fl Q7 ti3 R R R R R R (sv R (De R R) (rm 1 R (ssI 24 h R (fun h=>?_) (fun h=>?_))))))
   ·refine rm 3 R (Ak (Ci R (fun _=>?_) (fun hx=>Bool.noConfusion hx)))
    refine csr (sv R (A6 Af7 Arc A1 (.nil _)) (sst Ag6 R R R R R (rm 1 R (Ak (Bs (Ag ?_))))))
    obtain rfl:=SJ h
    exact dn (Ad (ra Vs R R R) (Ad (rt R) Ai)) (Ip R) R
   ·refine rm 1 R (son R R R (sv R (C5 R R) (rm 1 R (Ak (ccI h R (fun h=>?_) (fun h=>?_))))))
    ·refine csr (sv R (A6 Af7 Arc A1 (.nil _)) (sst Ag6 R R R R R (rm 1 R (Ak (Bs (Ag ?_))))))
     obtain rfl:=SJ h
     exact dn (Ad (ra Vs R R R) (Ad (rt R) Ai)) (Ip R) R
    ·refine Bf (Ab ?_)
     exact ⟨(),_,h,⟨R,R,R,R,trivial⟩,R⟩
 ·skip
  refine Aq (sv R (lo Vs R R R) ?_)
  obtain ⟨v10,hv10,h⟩:=Ae h
  refine Ba R Avu (Aa R Af) (An R) (Lq hv10) (sv R (B0 R) (rm 1 R (ssI 14 h R (fun h=>?_) (fun h=>?_))))
  ·refine rm 4 R (Ak (Ci R (fun _=>?_) (fun hx=>Bool.noConfusion hx)))
   refine csr (sv R (A6 Af7 Arc A1 (.nil _)) (sst Ag6 R R R R R (rm 1 R (Ak (Bs (Ag ?_))))))
   obtain rfl:=SJ h
   exact dn (Ad (ra Vs R R R) (Ad (rt R) Ai)) (Ip R) R
  ·refine rm 1 R (son R R R ?_)
   obtain ⟨v11,hv11,h⟩:=Ae h
   refine Ba R Ayn (Aa R Af) (An R) (S9 hv11) (son R R R (sv R (B0 R) (rm 1 R (Ak (ccI h R (fun h=>?_) (fun h=>?_))))))
   ·refine csr (sv R (A6 Af7 Arc A1 (.nil _)) (sst Ag6 R R R R R (rm 1 R (Ak (Bs (Ag ?_))))))
    obtain rfl:=SJ h
    exact dn (Ad (ra Vs R R R) (Ad (rt R) Ai)) (Ip R) R
   ·refine Bf (Ab ?_)
    exact ⟨(),_,h,⟨R,R,R,R,trivial⟩,R⟩
def Og (b1:Int):Option Int :=
 some b1
def Gj (a0:Bc) (s2:Int × Int):Option (LB (Int × Int) (Int)) :=
 if (decide (s2.2<(a0.Txs.length:Int))) then ((idx a0.Txs s2.2).bind fun u3=>if (decide (u3.State=1)) then (some (.cont ((if u3.Begin<s2.1 then u3.Begin else s2.1),(wI (s2.2+1))))) else (some (.cont (s2.1,(wI (s2.2+1)))))) else (some (.brk s2.1))
def Kh (a0:Bc) (a1:Int):Option Int :=
 (Ct (Gj a0) fuel (a1,0)).bind fun e4=>Og e4
theorem R8 {a0:Bc} {a1:Int} {r:Int} (h:Kh a0 a1=some r):Br Tryz.prog 146 [.agg (EL.el a0),.one (Ii6 a1)] (·=.s (.one (Ii6 r))):=by
 unfold Kh at h
 refine A5 Tryz.func146 R (nt:=23) R (Nbl R) ?_
 intro w0 S0
 refine csr (F4 R R (rm 1 R (Ak (Bl (csr (fl Oo Aa8 R R R R R R (sv R (Aw Qm R) (rm 1 R (Ak (cj (Int) (fun b1=>[(1,.s (.one (Ii6 b1)))]) (fun b1=>[.box (EL.el a0)]) (fun b1=>Og b1=some r) (fun _=>R) (fun b1 h=>?_) ?_))))))))))
 ·unfold Og at h
  refine csr (rm 2 R (Ak (Bs ?_)))
  obtain rfl:=SJ h
  exact dnT R R R R
 ·skip
  refine Bq ?_
  obtain ⟨x2,hx2,ho2⟩:=Ae h
  refine lpo (G:=Nat × (Int × Int)) (fun g=>[(1,.s (.one (Ii6 g.2.1))),(8,.s (.one (.sl a0.Txs.length (a0.Txs.flatMap Bb)))),(9,.s (.one (Ii6 (a0.Txs.length:Int)))),(10,.s (.one (Ii6 g.2.2)))]) (fun g=>[.box (EL.el a0)]) (fun g=>Ct (Gj a0) g.1 g.2=some x2) (fun g=>g.1) (fuel,(a1,0)) hx2 ⟨R,R,R,R,trivial⟩ [] R (fun _=>R) ?_
  clear hx2 h
  rintro ⟨n2,s2⟩ h
  obtain ⟨n2,y2,rfl,h,hk2⟩:=Cu h
  unfold Gj at h
  refine csr (sv R (Bt R R) (Ak (Bl (ccI h R (fun h=>?_) (fun h=>?_)))))
  ·refine Bf (Ab (Bl (Bq (Bl (Aq ?_)))))
   obtain ⟨u3,hu3,h⟩:=Ae h
   refine sv R (B8 (f:=Bb) Qm (fun _=>R) R R R R hu3) ?_
   refine sv R (Bz (ys:=[Ii6 u3.ID,Ii6 u3.Begin,Ii6 u3.End,Ii6 u3.State,.b u3.In,.b u3.Out,.b u3.RO,.sl u3.Keys.length (u3.Keys.flatMap (eL eU8))]) Ju R (.cp _) R R) (Bp R Tj (sst Tb R R R R R (Ak (csr (fl Pj ti3 R R R R R R (sv R (B4 R R) (Ak (ccI h R (fun h=>?_) (fun h=>?_)))))))))
   ·refine Aq (rm 1 R (fl Vx ti3 R R R R R R (sv R (Ags R R) (rm 1 R (Kz (Ap (Ab (Aq (sv R (Bo R R) (rm 1 R (Ak ?_)))))))))))
    obtain rfl:=SJ h
    exact ⟨(n2,((if u3.Begin<s2.1 then u3.Begin else s2.1),(wI (s2.2+1)))),_,hk2,⟨R,R,R,R,trivial⟩,R,zG _⟩
   ·refine Bf (Ap (Ab (Aq (sv R (Bo R R) (rm 1 R (Ak ?_))))))
    obtain rfl:=SJ h
    exact ⟨(n2,(s2.1,(wI (s2.2+1)))),_,hk2,⟨R,R,R,R,trivial⟩,R,zG _⟩
  ·refine Da (As (As (Bj (Ab ?_))))
   obtain rfl:=SJ h
   obtain rfl:_=x2:=hk2
   exact ⟨s2.1,_,ho2,⟨R,trivial⟩,R⟩
def M9 (a0:Bc) (b1:(List Int)):Option Bc :=
 (Im a0 b1).bind fun v2=>some v2
def Ho (a0:Bc) (s3:Int × (List Int)):Option (LB (Int × (List Int)) ((List Int))) :=
 if (decide (s3.1<(a0.Txs.length:Int))) then ((idx a0.Txs s3.1).bind fun u4=>if (decide (u4.State=2)) then ((Kh a0 u4.End).bind fun v5=>if (decide (u4.End≤v5)) then (if (s3.2.length+[u4.ID].length)*8≤140737488355328 then (some (.cont ((wI (s3.1+1)),(s3.2++[u4.ID])))) else none) else (some (.cont ((wI (s3.1+1)),s3.2)))) else (some (.cont ((wI (s3.1+1)),s3.2)))) else (some (.brk s3.2))
def Jp (a0:Bc):Option Bc :=
 (Ct (Ho a0) fuel (0,([]:List Int))).bind fun e7=>M9 a0 e7
theorem Yx {a0:Bc} {r:Bc} (h:Jp a0=some r):Br Tryz.prog 144 [.agg (EL.el a0)] (·=.s (.agg (EL.el r))):=by
 unfold Jp at h
 refine A5 Tryz.func144 R (nt:=34) R (Nbl R) ?_
 intro w0 S0
 refine csr (F4 R R (Bp R Ya (Ak (csr (rm 1 R (Ak (Bl (csr (fl Oo Aa8 R R R R R R (sv R (Aw Qm R) (rm 1 R (Ak ?_))))))))))))
 refine C6 3 1 3 (by decide) R ?_
 refine cj ((List Int)) (fun b1=>[(1,.s (.one (.lp 0 0))),(2,.s (.one (.lp 1 0))),(3,.s (.one (.ls 2 b1.length)))]) (fun b1=>[.box (EL.el a0),.box [Znl,Znl],.arr 3 1 0 (b1.flatMap eI)]) (fun b1=>M9 a0 b1=some r) (fun _=>R) (fun b1 h=>?_) ?_
 ·unfold M9 at h
  refine csr (ld Qq R R R R (sv R (A4 R) ?_))
  refine Ah4 32 R (by (repeat' first | exact Ic.nil _ | apply Ic.cons | apply H6.one | apply H6.agg | exact Cz.nil | exact Cz.ls _ _ _ _ _ _ R (Au (f:=eI) (fun _=>R) _).symm | exact Cz.id _ R | exact Co.nil _ | apply Co.cons)) ?_
  obtain ⟨v2,hv2,h⟩:=Ae h
  refine Ba R Auj (Aa R (Aa R Af)) (An R) (Rh hv2) (sst Xu R R R R R (Ak (Bs ?_)))
  obtain rfl:=SJ h
  exact dnA R Qq R (.lp _ _ _ R) (Nbl R) R R
 ·skip
  refine Bq ?_
  obtain ⟨x3,hx3,ho3⟩:=Ae h
  refine lpo (G:=Nat × (Int × (List Int))) (fun g=>[(1,.s (.one (.lp 0 0))),(2,.s (.one (.lp 1 0))),(3,.s (.one (.ls 2 g.2.2.length))),(7,.s (.one (.sl a0.Txs.length (a0.Txs.flatMap Bb)))),(8,.s (.one (Ii6 (a0.Txs.length:Int)))),(9,.s (.one (Ii6 g.2.1)))]) (fun g=>[.box (EL.el a0),.box [Znl,Znl],.arr 3 1 0 (g.2.2.flatMap eI)]) (fun g=>Ct (Ho a0) g.1 g.2=some x3) (fun g=>g.1) (fuel,(0,([]:List Int))) hx3 ⟨R,R,R,R,R,R,trivial⟩ [] R (fun _=>R) ?_
  clear hx3 h
  rintro ⟨n3,s3⟩ h
  obtain ⟨n3,y3,rfl,h,hk3⟩:=Cu h
  unfold Ho at h
  refine csr (sv R (Bt R R) (Ak (Bl (ccI h R (fun h=>?_) (fun h=>?_)))))
  ·refine Bf (Ab (Bl (Bq (Bl (Aq ?_)))))
   obtain ⟨u4,hu4,h⟩:=Ae h
   refine sv R (B8 (f:=Bb) Qm (fun _=>R) R R R R hu4) ?_
   refine sv R (Bz (ys:=[Ii6 u4.ID,Ii6 u4.Begin,Ii6 u4.End,Ii6 u4.State,.b u4.In,.b u4.Out,.b u4.RO,.sl u4.Keys.length (u4.Keys.flatMap (eL eU8))]) Ju R (.cp _) R R) (Bp R Tj (sst Tb R R R R R (Ak (Bl ?_))))
   refine Z3 mixed (by kernel_rfl) ?_
   refine dv R (Ac Pj R) (dv R (l1 ti3 R R R) (dv R (B4 R R) (dv R (A4 R) (Tz 16 R (fun hc=>?_) (fun hc=>?_)))))
   ·replace h:=Su hc h
    clear hc
    refine dvg R R R (lo Qq R R R) (dvg R R R (Ac Q0 R) (dvg R R R (l1 ti3 R R R) ?_))
    obtain ⟨v5,hv5,h⟩:=Ae h
    refine ddg R R R (Cy Avc (Aa R (Aa R Af)) R (R8 hv5)) (dvg R R R (Ac Q0 R) (dvg R R R (l1 ti3 R R R) (dvg R R R (Hz R R) (dv R (Er R R) (Zq (Ab (ccI h R (fun h=>?_) (fun h=>?_))))))))
    ·refine Aq (rm 1 R (sv R (Ac T1 R) (sv R (l1 ti3 R R R) ?_)))
     refine Fo R Tryz.underlying225 ei3 R R (zJ.1 R) (by decide) ?_
     refine Pz [.box (EL.el a0),.box [Znl,Znl],.arr 3 1 0 (s3.2.flatMap eI),.box (EL.el u4),.arr 3 1 0 ([u4.ID].flatMap eI)] R ?_
     obtain ⟨hb6,h⟩:=Cp h
     refine Tr (f:=eI) (xs:=s3.2) (us:=[u4.ID]) R Tryz.underlying225 ei3 Am9 (fun _=>R) R R (.one _ _ _ _ (.ls _ _ _ _ _ _ R (Au (f:=eI) (fun _=>R) [u4.ID]).symm)) R R R (.sl _ _ _ (Au (f:=eI) (fun _=>R) _)) R R hb6 (by decide) ?_
     refine rm 1 R (Kz (Ap (Ab (Aq (sv R (Bo R R) (rm 1 R (Ak ?_)))))))
     obtain rfl:=SJ h
     exact ⟨(n3,((wI (s3.1+1)),(s3.2++[u4.ID]))),_,hk3,⟨R,R,R,R,R,R,trivial⟩,R,zG _⟩
    ·refine Bf (Ap (Ab (Aq (sv R (Bo R R) (rm 1 R (Ak ?_))))))
     obtain rfl:=SJ h
     exact ⟨(n3,((wI (s3.1+1)),s3.2)),_,hk3,⟨R,R,R,R,R,R,trivial⟩,R,zG _⟩
   ·replace h:=S6 hc h
    clear hc
    refine G7 R R R R (G7 R R R R (G7 R R R R (G7 R R R R (G7 R R R R (G7 R R R R (G7 R R R R (dv R (Hq R R) (Zq (Ab (Ci R (fun hx=>Bool.noConfusion hx) (fun _=>?_)))))))))))
    refine Bf (Ap (Ab (Aq (sv R (Bo R R) (rm 1 R (Ak ?_))))))
    obtain rfl:=SJ h
    exact ⟨(n3,((wI (s3.1+1)),s3.2)),_,hk3,⟨R,R,R,R,R,R,trivial⟩,R,zG _⟩
  ·refine Da (As (As (Bj (Ab ?_))))
   obtain rfl:=SJ h
   obtain rfl:_=x3:=hk3
   exact ⟨s3.2,_,ho3,⟨R,R,R,trivial⟩,R⟩
def I3 (a0:List A0):Option (List A0) :=
 if (([]:List A0).length+a0.length)*40≤140737488355328 then (some (([]:List A0)++a0)) else none
theorem Ut {a0:List A0} {r:(List A0)} (h:I3 a0=some r):Dl Tryz.prog 258 [] [.one (.sl a0.length (a0.flatMap A9))] (fun y m'=>y=.s (.one (.ls 0 r.length))∧m'=[.arr 136 3 0 (r.flatMap A9)]):=by
 unfold I3 at h
 refine Dc Tryz.func258 R (nt:=8) R (Nbl R) ?_
 intro w0 S0 X0 H0
 refine csr (rm 1 R (Ak (Bl (csr (rm 1 R (Ac4 R Tryz.underlying132 R (fun nq hnq=>?_)))))))
 cases nq
 ·skip
  refine Ak (Ci R (fun hx=>Bool.noConfusion hx) (fun _=>?_))
  refine Bf (Ab (csr (S8 R Tryz.underlying132 Alx (sv R (A4 R) ?_))))
  obtain ⟨hb1,h⟩:=Cp h
  refine Tr (f:=A9) (xs:=([]:List A0)) (us:=a0) R Tryz.underlying132 Alx Au4 (fun _=>R) R R (.one _ _ _ _ (.id _ R)) R R R (.sl _ _ _ (Au (f:=A9) (fun _=>R) _)) R R hb1 (by decide) ?_
  refine rm 1 R (Ak (Bs ?_))
  obtain rfl:=SJ h
  exact ⟨Or.inr R,_,[0],[.one (.ls 0 (([]:List A0)++a0).length)],[.arr 136 3 0 ((([]:List A0)++a0).flatMap A9)],(Ad (rt R) Ai),R,R,⟨by decide,R⟩,R,R,⟨R,R⟩⟩
 ·obtain rfl:=zZ (hnq rfl)
  replace h:(some ([]:List A0))=some r:=by first | exact h | (rw [if_pos (by decide)] at h;exact h)
  refine Ak (Ci R (fun _=>?_) (fun hx=>Bool.noConfusion hx))
  refine csr (rm 1 R (Ak ?_))
  refine C6 136 3 2 (by decide) R ?_
  refine Bs (Ag ?_)
  obtain rfl:=SJ h
  exact ⟨Or.inr R,_,[0],[.one (.ls 0 ([]:List A0).length)],[.arr 136 3 0 (([]:List A0).flatMap A9)],(Ad (rt R) Ai),R,R,⟨by decide,R⟩,R,R,⟨R,R⟩⟩
def Ff (a0:Al) (b4:Int):Option Al :=
 (cut a0.L b4 (a0.L.length:Int)).bind fun c5=>(I3 c5).bind fun v6=>some (Al.mk v6)
def Jy (a0:Al) (v1:Int) (b2:Unit):Option Al :=
 (idx a0.L v1).bind fun u3=>if u3.Del then (Ff a0 (wI (v1+1))) else (Ff a0 v1)
def Kd (a0:Al) (a1:Int):Option Al :=
 (Ky a0 a1).bind fun v1=>if (decide (v1<0)) then (some (Al.mk a0.L)) else ((Ex (Al.mk a0.L)).bind fun v7=>if (!v7) then (some (Al.mk a0.L)) else (Jy a0 v1 ()))
theorem Vr {a0:Al} {a1:Int} {r:Al} (h:Kd a0 a1=some r):Br Tryz.prog 217 [.agg [.sl a0.L.length (a0.L.flatMap A9)],.one (Ii6 a1)] (·=.s (.agg [.sl r.L.length (r.L.flatMap A9)])):=by
 unfold Kd at h
 refine A5 Tryz.func217 R (nt:=31) R (Nbl R) ?_
 intro w0 S0
 refine csr (F4 R R (Bp R Y8 (Ak (csr (ld O5 R R R R (sv R (A4 R) ?_))))))
 obtain ⟨v1,hv1,h⟩:=Ae h
 refine Ba R Av0 (Aa R (Aa R Af)) (An R) (Sc hv1) (rm 1 R (Ak (Bl (Bl (cj3 (Unit) (fun b2=>[(2,.s (.one (.lp 0 0))),(4,.s (.one (.lp 1 0))),(5,.s (.one (Ii6 v1)))]) (fun b2=>[.box [.sl a0.L.length (a0.L.flatMap A9)],.box [Znl]]) (fun b2=>Jy a0 v1 b2=some r) (fun _=>R) (fun b2 h=>?_) ?_)))))
 ·unfold Jy at h
  refine Bl (csr (fl Tu Aa5 R R R R R R (sv R (A4 R) ?_)))
  obtain ⟨u3,hu3,h⟩:=Ae h
  refine sv R (B8 (f:=A9) Ws (fun _=>R) R R R R hu3) ?_
  refine sv R (B9 Agh R) (sv R (B6 ti4 R (.cp _) R) (Ak (cj (Int) (fun b4=>[(2,.s (.one (.lp 0 0))),(4,.s (.one (.lp 1 0))),(5,.s (.one (Ii6 b4)))]) (fun b4=>[.box [.sl a0.L.length (a0.L.flatMap A9)],.box [Znl]]) (fun b4=>Ff a0 b4=some r) (fun _=>R) (fun b4 h=>?_) ?_)))
  ·unfold Ff at h
   refine csr (fl Tu Aa5 R R R R R R (sv R (A4 R) ?_))
   obtain ⟨c5,hc5,h⟩:=Ae h
   refine sv R (X2 (f:=A9) (lo:=b4) (hi:=(a0.L.length:Int)) Ws (fun _=>R) R R R (Ql R (T6 hc5).1.1) (by exact R) hc5) ?_
   obtain ⟨v6,hv6,h⟩:=Ae h
   refine Ie (x':=.s (.one (.ls 2 v6.length))) (M':=[.box [.sl a0.L.length (a0.L.flatMap A9)],.box [Znl],.arr 136 3 0 (v6.flatMap A9)]) [] R Ayh (.func _) (Aa R Af) (Ut hv6) R R (by decide) R R R ?_
   refine sv R (A6 Y8 Aka (Ax R A1) (.cons _ _ _ _ _ _ _ R R (Nbl R) (.nil _))) (sst Y4 R R R R R (Ak (Bs ?_)))
   obtain rfl:=SJ h
   refine ⟨Or.inr R,_,_,_,(Ad (ra O5 R R R) Ai),(by (repeat' first | exact Ic.nil _ | apply Ic.cons | apply H6.one | apply H6.agg | exact Cz.nil | exact Cz.ls _ _ _ _ _ _ R (Au (f:=A9) (fun _=>R) _).symm | exact Cz.id _ R | exact Co.nil _ | apply Co.cons)),?_⟩
   rfl
  ·skip
   refine ccI h R (fun h=>?_) (fun h=>?_)
   ·refine Aq (rm 1 R (sv R (Bo R R) (rm 1 R (Ak ?_))))
    exact ⟨(wI (v1+1)),_,h,⟨R,R,R,trivial⟩,R⟩
   ·refine Bf (Ab ?_)
    exact ⟨v1,_,h,⟨R,R,R,trivial⟩,R⟩
 ·skip
  refine Aq (rm 1 R (sv R (Bt R R) (rm 1 R (ssI 11 h R (fun h=>?_) (fun h=>?_)))))
  ·refine rm 4 R (Ak (Ci R (fun _=>?_) (fun hx=>Bool.noConfusion hx)))
   refine csr (ld O5 R R R R (sst Y4 R R R R R (Ak (Bs (Ag ?_)))))
   obtain rfl:=SJ h
   exact dnA R O5 R (.lp _ _ _ R) (Nbl R) R R
  ·refine son R R R (ld O5 R R R R (son R R R ?_))
   obtain ⟨v7,hv7,h⟩:=Ae h
   refine Ba R Atd (Aa R Af) (An R) (Pe hv7) (son R R R (sv R (B0 R) (rm 1 R (Ak (ccI h R (fun h=>?_) (fun h=>?_))))))
   ·refine csr (ld O5 R R R R (sst Y4 R R R R R (Ak (Bs (Ag ?_)))))
    obtain rfl:=SJ h
    exact dnA R O5 R (.lp _ _ _ R) (Nbl R) R R
   ·refine Bf (Ab ?_)
    exact ⟨(),_,h,⟨R,R,R,trivial⟩,R⟩
def Ng (a0:Bu) (b2:(List (List UInt8)) × (List Al)):Option Bu :=
 some (Bu.mk b2.1 b2.2 a0.Ts)
def Gz (a0:Bu) (a1:Int) (s3:Int × (List (List UInt8)) × (List Al)):Option (LB (Int × (List (List UInt8)) × (List Al)) ((List (List UInt8)) × (List Al))) :=
 if (decide (s3.1<(a0.Chains.length:Int))) then ((idx a0.Chains s3.1).bind fun u4=>(Kd u4 (if a0.Ts<a1 then a0.Ts else a1)).bind fun v5=>if (decide (0<(v5.L.length:Int))) then ((idx a0.Keys s3.1).bind fun u6=>if (s3.2.1.length+([u6]:List (List UInt8)).length)*24≤140737488355328 then (if (s3.2.2.length+[v5].length)*24≤140737488355328 then (some (.cont ((wI (s3.1+1)),(s3.2.1++([u6]:List (List UInt8))),(s3.2.2++[v5])))) else none) else none) else (some (.cont ((wI (s3.1+1)),s3.2.1,s3.2.2)))) else (some (.brk (s3.2.1,s3.2.2)))
def Kc (a0:Bu) (a1:Int):Option Bu :=
 (C7 a0).bind fun v1=>if (!v1) then (some a0) else ((Ct (Gz a0 a1) fuel (0,([]:List (List UInt8)),([]:List Al))).bind fun e9=>Ng a0 e9)
theorem Vt {a0:Bu} {a1:Int} {r:Bu} (h:Kc a0 a1=some r):Br Tryz.prog 145 [.agg (EL.el a0),.one (Ii6 a1)] (·=.s (.agg (EL.el r))):=by
 unfold Kc at h
 refine A5 Tryz.func145 R (nt:=52) R (Nbl R) ?_
 intro w0 S0
 refine csr (F4 R R (Bp R Af7 (Ak (Bl (csr (sv R (lo Vs R R R) ?_))))))
 obtain ⟨v1,hv1,h⟩:=Ae h
 refine Ba R Avu (Aa R Af) (An R) (Lq hv1) (sv R (B0 R) (Ak (ccI h R (fun h=>?_) (fun h=>?_))))
 ·refine csr (ld Vs R R R R (sst Ag6 R R R R R (Ak (Bs (Ag ?_)))))
  obtain rfl:=SJ h
  exact dnA R Vs R (.lp _ _ _ R) (Nbl R) R R
 ·refine Bf (Ab (csr (fl Q7 ti3 R R R R R R (sv R (A6 Af7 Arc (Ax R A1) (.cons _ _ _ _ _ _ _ R R (Nbl R) (.nil _))) (Bp R Af7 (sst Ag6 R R R R R (Ak (Bl (csr (fl Qs Akc R R R R R R (sv R (Aw Aov R) (rm 1 R (Ak ?_)))))))))))))
  refine Ys 56 1 2 0 (by decide) R R ?_
  refine Ys 134 1 2 1 (by decide) R R ?_
  refine cj ((List (List UInt8)) × (List Al)) (fun b2=>[(4,.s (.one (.lp 1 0))),(5,.s (.one (.lp 2 0)))]) (fun b2=>[.box (EL.el a0),.box [Znl,Znl,Ii6 0],.box [.ls 3 b2.1.length,.ls 4 b2.2.length,Ii6 a0.Ts],.arr 56 1 0 (b2.1.flatMap (eL eU8)),.arr 134 1 0 (b2.2.flatMap Ay)]) (fun b2=>Ng a0 b2=some r) (fun _=>R) (fun b2 h=>?_) ?_
  ·unfold Ng at h
   refine csr (ld Vs R R R R (sst Ag6 R R R R R (Ak (Bs ?_))))
   obtain rfl:=SJ h
   refine ⟨Or.inr R,_,_,_,(Ad (ra Vs R R R) Ai),(by (repeat' first | exact Ic.nil _ | apply Ic.cons | apply H6.one | apply H6.agg | exact Cz.nil | exact Cz.ls _ _ _ _ _ _ R (Au (f:=(eL eU8)) (fun _=>R) _).symm | exact Cz.ls _ _ _ _ _ _ R (Au (f:=Ay) (fun _=>R) _).symm | exact Cz.id _ R | exact Co.nil _ | apply Co.cons)),?_⟩
   rfl
  ·skip
   refine Bq ?_
   obtain ⟨x3,hx3,ho3⟩:=Ae h
   refine lpo (G:=Nat × (Int × (List (List UInt8)) × (List Al))) (fun g=>[(1,.s (.one (Ii6 a1))),(2,.s (.one (.lp 0 0))),(4,.s (.one (.lp 1 0))),(5,.s (.one (.lp 2 0))),(17,.s (.one (.sl a0.Chains.length (a0.Chains.flatMap Ay)))),(18,.s (.one (Ii6 (a0.Chains.length:Int)))),(19,.s (.one (Ii6 g.2.1)))]) (fun g=>[.box (EL.el a0),.box [Znl,Znl,Ii6 0],.box [.ls 3 g.2.2.1.length,.ls 4 g.2.2.2.length,Ii6 a0.Ts],.arr 56 1 0 (g.2.2.1.flatMap (eL eU8)),.arr 134 1 0 (g.2.2.2.flatMap Ay)]) (fun g=>Ct (Gz a0 a1) g.1 g.2=some x3) (fun g=>g.1) (fuel,(0,([]:List (List UInt8)),([]:List Al))) hx3 ⟨R,R,R,R,R,R,R,trivial⟩ [] R (fun _=>R) ?_
   clear hx3 h
   rintro ⟨n3,s3⟩ h
   obtain ⟨n3,y3,rfl,h,hk3⟩:=Cu h
   unfold Gz at h
   refine csr (sv R (Bt R R) (Ak (Bl (ccI h R (fun h=>?_) (fun h=>?_)))))
   ·refine Bf (Ab (Bl (Bq (csr (sv R (A4 R) ?_)))))
    obtain ⟨u4,hu4,h⟩:=Ae h
    refine sv R (B8 (f:=Ay) Aov (fun _=>R) R R R R hu4) ?_
    refine sv R (Bz (ys:=[.sl u4.L.length (u4.L.flatMap A9)]) O5 R (.cp _) R R) (Bp R Y8 (rm 1 R (sst Y4 R R R R R (Ak (csr (ld O5 R R R R (rm 1 R (fl Q7 ti3 R R R R R R (sv R (Ags R R) ?_)))))))))
    obtain ⟨v5,hv5,h⟩:=Ae h
    refine Ba R Ays (Aa R (Aa R Af)) (An R) (Vr hv5) (Bp R Y8 (sst Y4 R R R R R (Ak (csr (fl Tu Aa5 R R R R R R (sv R (Aw Ws R) (sv R (C5 R R) (Ak (ccI h R (fun h=>?_) (fun h=>?_))))))))))
    ·refine Bl ?_
     obtain ⟨u6,hu6,h⟩:=Ae h
     obtain ⟨hb7,h⟩:=Cp h
     refine Ig [8,10] [0,1,0,4,0,28,60,124,255,511,1023] [[.box (EL.el a0),.box [Znl,Znl,Ii6 0],.box [.ls 3 s3.2.1.length,.ls 4 s3.2.2.length,Ii6 a0.Ts],.arr 56 1 0 (s3.2.1.flatMap (eL eU8)),.arr 134 1 0 (s3.2.2.flatMap Ay),.box [.sl u4.L.length (u4.L.flatMap A9)],.box [.sl v5.L.length (v5.L.flatMap A9)]],[.box (EL.el a0),.box [Znl,Znl,Ii6 0],.box [.ls 3 s3.2.1.length,.ls 4 s3.2.2.length,Ii6 a0.Ts],.arr 56 1 0 ((s3.2.1++([u6]:List (List UInt8))).flatMap (eL eU8)),.arr 134 1 0 (s3.2.2.flatMap Ay),.box [.sl u4.L.length (u4.L.flatMap A9)],.box [.sl v5.L.length (v5.L.flatMap A9)]],[.box (EL.el a0),.box [Znl,Znl,Ii6 0],.box [.ls 3 (s3.2.1++([u6]:List (List UInt8))).length,.ls 4 s3.2.2.length,Ii6 a0.Ts],.arr 56 1 0 ((s3.2.1++([u6]:List (List UInt8))).flatMap (eL eU8)),.arr 134 1 0 (s3.2.2.flatMap Ay),.box [.sl u4.L.length (u4.L.flatMap A9)],.box [.sl v5.L.length (v5.L.flatMap A9)]]] (by kernel_rfl) mixed (by kernel_rfl) (by decide) R R R R ?_
     refine ev (A7 0 R R) R R (Ac Qz R) (ev (A7 0 R R) R R (l1 Abe R R R) (ev (A7 0 R R) R R (Ac Qz R) (ev (A7 0 R R) R R (l1 Abe R R R) (ev (A7 0 R R) R R (A4 R) (ev (A7 0 R R) R R (B8 (f:=(eL eU8)) S7 (fun _=>R) R R R R hu6) ?_)))))
     refine ev (A7 0 R R) R R (B6 Mz R (.cp _) R) ?_
     refine ed (A7 0 R R) R R (Zj (out:=([u6]:List (List UInt8)).flatMap (eL eU8)) Tryz.underlying25 Af4 (Ax R A1) (.cons _ _ _ _ _ _ _ R R (Nbl R) (.nil _)) R (by decide)) ?_
     refine ee (x:=.s (.one (.ls 3 (s3.2.1++([u6]:List (List UInt8))).length))) 0 R R R R R (fun ζ=>?_) ?_
     ·refine Tr (f:=(eL eU8)) (xs:=s3.2.1) (us:=([u6]:List (List UInt8))) R Tryz.underlying25 Af4 Ase (fun _=>R) R R (.one _ _ _ _ (.id _ R)) R R R (.sl _ _ _ (Au (f:=(eL eU8)) (fun _=>R) _)) R R hb7 (by decide) ?_
      exact Sv
     refine ev (A7 1 R R) R R (Ac Qz R) (ee0 1 R R R R (fun ζ=>?_) ?_)
     ·refine sst Aym R R R R R (Pz [.box (EL.el a0),.box [Znl,Znl,Ii6 0],.box [.ls 3 (s3.2.1++([u6]:List (List UInt8))).length,.ls 4 s3.2.2.length,Ii6 a0.Ts],.arr 56 1 0 ((s3.2.1++([u6]:List (List UInt8))).flatMap (eL eU8)),.arr 134 1 0 (s3.2.2.flatMap Ay),.box [.sl u4.L.length (u4.L.flatMap A9)],.box [.sl v5.L.length (v5.L.flatMap A9)]] R ?_)
      exact Sv
     refine Aas (Ab (Aq (fl Qs Akc R R R R R R (sv R (lo O5 R R R) ?_))))
     refine Fo R Tryz.underlying26 Agg R R (zJ.1 R) (by decide) ?_
     refine Pz [.box (EL.el a0),.box [Znl,Znl,Ii6 0],.box [.ls 3 (s3.2.1++([u6]:List (List UInt8))).length,.ls 4 s3.2.2.length,Ii6 a0.Ts],.arr 56 1 0 ((s3.2.1++([u6]:List (List UInt8))).flatMap (eL eU8)),.arr 134 1 0 (s3.2.2.flatMap Ay),.box [.sl u4.L.length (u4.L.flatMap A9)],.box [.sl v5.L.length (v5.L.flatMap A9)],.arr 134 1 0 ([v5].flatMap Ay)] R ?_
     obtain ⟨hb8,h⟩:=Cp h
     refine Tr (f:=Ay) (xs:=s3.2.2) (us:=[v5]) R Tryz.underlying26 Agg Axu (fun _=>R) R R (.one _ _ _ _ (.ls _ _ _ _ _ _ R (Au (f:=Ay) (fun _=>R) [v5]).symm)) R R R (.sl _ _ _ (Au (f:=Ay) (fun _=>R) _)) R R hb8 (by decide) ?_
     refine sv R (Ac Qs R) (sst A0h R R R R R (Kz (Ap (Ab (Aq (sv R (Bo R R) (rm 1 R (Ak ?_))))))))
     obtain rfl:=SJ h
     exact ⟨(n3,((wI (s3.1+1)),(s3.2.1++([u6]:List (List UInt8))),(s3.2.2++[v5]))),_,hk3,⟨R,R,R,R,R,R,R,trivial⟩,R,zG _⟩
    ·refine Bf (Ap (Ab (Aq (sv R (Bo R R) (rm 1 R (Ak ?_))))))
     obtain rfl:=SJ h
     exact ⟨(n3,((wI (s3.1+1)),s3.2.1,s3.2.2)),_,hk3,⟨R,R,R,R,R,R,R,trivial⟩,R,zG _⟩
   ·refine Da (As (As (Bj (Ab ?_))))
    obtain rfl:=SJ h
    obtain rfl:_=x3:=hk3
    exact ⟨(s3.2.1,s3.2.2),_,ho3,⟨R,R,trivial⟩,R⟩
def Nr (a0:Ah) (a1:Be) (a2:Int):Option (Ah × Int) :=
 if (decide (1099511627776<a2)) then (some (E4,11)) else ((My a1.Buf).bind fun v1=>(Dj a0.Cert a1.ID a2 v1).bind fun v2=>if (!decide (v2.2=0)) then (some (E4,v2.2)) else ((Gn a0.Toks a1.Token a1.Attempt a2).bind fun v3=>if (!decide (v3.2=0)) then (some (E4,v3.2)) else ((Dy a0.Store a2 a1.Buf.L).bind fun v4=>if (!decide (v4.2=0)) then (some (E4,v4.2)) else ((Kp a0 a1.ID).bind fun v5=>(Jp v2.1).bind fun v6=>(Kh v6 a2).bind fun v7=>(Kc v4.1 v7).bind fun v8=>some ((Ah.mk v8 v6 v3.1 v5.Open v5.Next),0)))))
theorem Y5 {a0:Ah} {a1:Be} {a2:Int} {r:Ah × Int} (h:Nr a0 a1 a2=some r):Br Tryz.prog 68 [.agg (EL.el a0),.agg (EL.el a1),.one (Ii6 a2)] (·=.tup [.agg (EL.el r.1),.one (Ii6 r.2)]):=by
 unfold Nr at h
 refine A5 Tryz.func68 R (nt:=78) R (Nbl R) ?_
 intro w0 S0
 refine csr (F4 R R (F4 R R (Bp R Qw (rm 1 R (Ak (Bl (csr (rm 1 R (sv R (C5 R R) (Ak (ccI h R (fun h=>?_) (fun h=>?_))))))))))))
 ·refine csr (sv R (A6 Qw Ale A1 (.nil _)) (sst Jn R R R R R (rm 1 R (Ak (Bs (Ag ?_))))))
  obtain rfl:=SJ h
  exact dn (Ad (ra Dd R R R) (Ad (rt R) Ai)) (Ip R) R
 ·refine Bf (Ab (Bl (Aah ?_)))
  obtain ⟨v1,hv1,h⟩:=Ae h
  obtain ⟨v2,hv2,h⟩:=Ae h
  refine Ig [12,13] [0,1,0,4,0,0,32,96,255,511,1023,1023,0,6143,16383] [[.box (EL.el a0),.box (EL.el a1),.box Zba,.hole],[.box (EL.el a0),.box (EL.el a1),.box Zba,.box [Znl,Znl]],[.box (EL.el a0),.box (EL.el a1),.box Zba,.box (EL.el v2.1)]] (by kernel_rfl) mixed (by kernel_rfl) (by decide) R R R R ?_
  refine evs (md:=[.box (EL.el a0),.box (EL.el a1),.box Zba,.dead]) (fun hS=>ev (B5 hS) R R (Ac Uc R) (ev (B5 hS) R R (lo Qq R R R) (ev (B5 hS) R R (Ac R9 R) (ev (B5 hS) R R (l1 ti3 R R R) (emv R R (fun _=>A4 R) ?_))))) ⟨⟨R,⟨R,⟨R,⟨trivial,trivial⟩⟩⟩⟩,⟨⟨R,⟨R,⟨R,⟨trivial,trivial⟩⟩⟩⟩,⟨⟨R,⟨R,⟨R,⟨trivial,trivial⟩⟩⟩⟩,trivial⟩⟩⟩
  refine evs (md:=[.box (EL.el a0),.box (EL.el a1),.box Zba,.dead]) (fun hS=>ev (B5 hS) R R (Ac Yq R) (ev (B5 hS) R R (lo Ag4 R R R) (ed (B5 hS) R R (Cy Ayt (Aa R Af) R (X6 hv1)) (ed (B5 hS) R R (Cy Axy (Aa R (Aa R (Aa R (Aa R Af)))) R (Xh hv2)) (emv R R (fun _=>Ca R) ?_))))) ⟨⟨R,⟨R,⟨R,⟨trivial,trivial⟩⟩⟩⟩,⟨⟨R,⟨R,⟨R,⟨trivial,trivial⟩⟩⟩⟩,⟨⟨R,⟨R,⟨R,⟨trivial,trivial⟩⟩⟩⟩,trivial⟩⟩⟩
  refine evs (md:=[.box (EL.el a0),.box (EL.el a1),.box Zba,.dead]) (fun hS=>ev (B5 hS) R R (Aj R R) (ev (B5 hS) R R (Aj R R) (ee (x:=.s (.one (.lp 3 0))) 0 R R R R R (fun ζ=>?_) ?_))) ⟨⟨R,⟨R,⟨R,⟨trivial,trivial⟩⟩⟩⟩,⟨⟨R,⟨R,⟨R,⟨trivial,trivial⟩⟩⟩⟩,⟨⟨R,⟨R,⟨R,⟨trivial,trivial⟩⟩⟩⟩,trivial⟩⟩⟩
  ·refine Mg 3 R Ya R ?_
   exact Sv
  refine ee0 1 R R R R (fun ζ=>?_) ?_
  ·refine sst Xu R R R R R (Pz [.box (EL.el a0),.box (EL.el a1),.box Zba,.box (EL.el v2.1)] R ?_)
   exact Sv
  refine ev (A7 2 R R) R R (Iu R) (Aas (Ab (Bl (csr (rm 1 R (sv R (Db R R) (Ak (ccI h R (fun h=>?_) (fun h=>?_)))))))))
  ·refine csr (sv R (A6 Qw Ale A1 (.nil _)) (rm 1 R (sst Jn R R R R R (rm 1 R (Ak (Bs (Ag ?_)))))))
   obtain rfl:=SJ h
   exact dn (Ad (ra Dd R R R) (Ad (rt R) Ai)) (Ip R) R
  ·refine Bf (Ab (csr (sv R (Ac Vd R) (ld Ou R R R R (fl Aed ti3 R R R R R R (fl Ai4 ti3 R R R R R R (sv R (A4 R) ?_)))))))
   obtain ⟨v3,hv3,h⟩:=Ae h
   refine Ba R Azj (Aa R (Aa R (Aa R (Aa R Af)))) (An R) (U5 hv3) (sv R (Ca R) (sv R (Aj R R) (sv R (Aj R R) (Bp R Wc (sst Tg R R R R R (rm 1 R (Ak (Bl (csr (rm 1 R (sv R (Db R R) (Ak (ccI h R (fun h=>?_) (fun h=>?_))))))))))))))
   ·refine csr (sv R (A6 Qw Ale A1 (.nil _)) (rm 1 R (sst Jn R R R R R (rm 1 R (Ak (Bs (Ag ?_)))))))
    obtain rfl:=SJ h
    exact dn (Ad (ra Dd R R R) (Ad (rt R) Ai)) (Ip R) R
   ·refine Bf (Ab (csr (sv R (Ac Pr R) (ld Vs R R R R (rm 1 R (sv R (Ac Yq R) (sv R (Ac Xc R) (sv R (l1 Aot R R R) ?_))))))))
    obtain ⟨v4,hv4,h⟩:=Ae h
    refine Ba R Azg (Aa R (Aa R (Aa R Af))) (An R) (Uu hv4) (sv R (Ca R) (sv R (Aj R R) (sv R (Aj R R) (Bp R Af7 (sst Ag6 R R R R R (rm 1 R (Ak (Bl (csr (rm 1 R (sv R (Db R R) (Ak (ccI h R (fun h=>?_) (fun h=>?_))))))))))))))
    ·refine csr (sv R (A6 Qw Ale A1 (.nil _)) (rm 1 R (sst Jn R R R R R (rm 1 R (Ak (Bs (Ag ?_)))))))
     obtain rfl:=SJ h
     exact dn (Ad (ra Dd R R R) (Ad (rt R) Ai)) (Ip R) R
    ·refine Bf (Ab (csr (ld Dd R R R R (sv R (Ac R9 R) (sv R (l1 ti3 R R R) ?_)))))
     obtain ⟨v5,hv5,h⟩:=Ae h
     refine Ba R Awv (Aa R (Aa R Af)) (An R) (R5 hv5) (Bp R Qw (sst Jn R R R R R (Ak (csr (ld Ou R R R R (sv R (Ac Vd R) (sst Tg R R R R R (Ak (csr (sv R (lo Qq R R R) ?_))))))))))
     obtain ⟨v6,hv6,h⟩:=Ae h
     refine Ba R Ayq (Aa R Af) (An R) (Yx hv6) (sv R (Ac Uc R) (sst Xu R R R R R (Ak (Bl ?_))))
     obtain ⟨v7,hv7,h⟩:=Ae h
     obtain ⟨v8,hv8,h⟩:=Ae h
     refine Ig [7] [0,0,2,0,14,31,63,127] [[.box (EL.el a0),.box (EL.el a1),.box Zba,.box (EL.el v2.1),.box [.sl v3.1.L.length (v3.1.L.flatMap Am)],.box (EL.el v4.1),.box (EL.el {v5 with Cert:=v6,Toks:=v3.1})],[.box (EL.el a0),.box (EL.el a1),.box Zba,.box (EL.el v2.1),.box [.sl v3.1.L.length (v3.1.L.flatMap Am)],.box (EL.el v4.1),.box [.sl v8.Keys.length (v8.Keys.flatMap (eL eU8)),.sl v8.Chains.length (v8.Chains.flatMap Ay),Ii6 v8.Ts,.sl v6.Txs.length (v6.Txs.flatMap Bb),.sl v6.Reads.L.length (v6.Reads.L.flatMap Ar),.sl v3.1.L.length (v3.1.L.flatMap Am),.sl v5.Open.length (v5.Open.flatMap Bm),Ii6 v5.Next]]] (by kernel_rfl) mixed (by kernel_rfl) (by decide) R R R R ?_
     refine ev (A7 0 R R) R R (lo Vs R R R) (ev (A7 0 R R) R R (Ac Uc R) (ev (A7 0 R R) R R (lo Qq R R R) (ev (A7 0 R R) R R (A4 R) (ed (A7 0 R R) R R (Cy Avc (Aa R (Aa R Af)) R (R8 hv7)) (ed (A7 0 R R) R R (Cy Ay7 (Aa R (Aa R Af)) R (Vt hv8)) (ev (A7 0 R R) R R (Ac Pr R) (ee0 0 R R R R (fun ζ=>?_) ?_)))))))
     ·refine sst Ag6 R R R R R (Pz [.box (EL.el a0),.box (EL.el a1),.box Zba,.box (EL.el v2.1),.box [.sl v3.1.L.length (v3.1.L.flatMap Am)],.box (EL.el v4.1),.box [.sl v8.Keys.length (v8.Keys.flatMap (eL eU8)),.sl v8.Chains.length (v8.Chains.flatMap Ay),Ii6 v8.Ts,.sl v6.Txs.length (v6.Txs.flatMap Bb),.sl v6.Reads.L.length (v6.Reads.L.flatMap Ar),.sl v3.1.L.length (v3.1.L.flatMap Am),.sl v5.Open.length (v5.Open.flatMap Bm),Ii6 v5.Next]] R ?_)
      exact Sv
     refine Aas (Ab (csr (ld Dd R R R R (sst Jn R R R R R (rm 1 R (Ak (Bs ?_)))))))
     obtain rfl:=SJ h
     exact dn (Ad (ra Dd R R R) (Ad (rt R) Ai)) (An R) R
def Hf (a0:Ah) (a1:Int):Option (Ah × Int × Int) :=
 (Hg a0 a1).bind fun v1=>if (!decide (v1.2=0)) then ((Dk a0 v1.2).bind fun v2=>some (v2,0,v1.2)) else ((Nr a0 v1.1 (wI (a0.Store.Ts+1))).bind fun v3=>if (!decide (v3.2=0)) then ((Cv a0 v1.1).bind fun v4=>some (v4,0,v3.2)) else (some (v3.1,(wI (a0.Store.Ts+1)),0)))
theorem Nz {a0:Ah} {a1:Int} {r:Ah × Int × Int} (h:Hf a0 a1=some r):Br Tryz.prog 27 [.agg (EL.el a0),.one (Ii6 a1)] (·=.tup [.agg (EL.el r.1),.one (Ii6 r.2.1),.one (Ii6 r.2.2)]):=by
 unfold Hf at h
 refine A5 Tryz.func27 R (nt:=42) R (Nbl R) ?_
 intro w0 S0
 refine csr (F4 R R (Bp R Qw (rm 2 R (Ak (csr (ld Dd R R R R (sv R (A4 R) ?_)))))))
 obtain ⟨v1,hv1,h⟩:=Ae h
 refine Ba R Awl (Aa R (Aa R Af)) (An R) (Nq hv1) (sv R (Ca R) (sv R (Aj R R) (sv R (Aj R R) (Bp R Ab1 (sst Ab7 R R R R R (rm 1 R (Ak (Bl (csr (rm 1 R (sv R (Db R R) (Ak (ccI h R (fun h=>?_) (fun h=>?_))))))))))))))
 ·refine csr (ld Dd R R R R (sv R (A4 R) ?_))
  obtain ⟨v2,hv2,h⟩:=Ae h
  refine Ba R Atb (Aa R (Aa R Af)) (An R) (Jr hv2) (rm 1 R (sst Jn R R R R R (rm 2 R (Ak (Bs (Ag ?_))))))
  obtain rfl:=SJ h
  exact dn (Ad (ra Dd R R R) (Ad (rt R) (Ad (rt R) Ai))) (An R) R
 ·refine Bf (Ab (csr (sv R (Ac Pr R) (fl Q7 ti3 R R R R R R (sv R (Bo R R) (rm 1 R (Ak (csr (ld Dd R R R R (ld X9 R R R R (sv R (A4 R) ?_)))))))))))
  obtain ⟨v3,hv3,h⟩:=Ae h
  refine Ba R A1g (Aa R (Aa R (Aa R Af))) (An R) (Y5 hv3) (sv R (Ca R) (sv R (Aj R R) (sv R (Aj R R) (Bp R Qw (sst Jn R R R R R (rm 1 R (Ak (Bl (csr (rm 1 R (sv R (Db R R) (Ak (ccI h R (fun h=>?_) (fun h=>?_))))))))))))))
  ·refine csr (ld Dd R R R R (sv R (lo X9 R R R) ?_))
   obtain ⟨v4,hv4,h⟩:=Ae h
   refine Ba R Aud (Aa R (Aa R Af)) (An R) (Ih hv4) (rm 1 R (sst Jn R R R R R (rm 2 R (Ak (Bs (Ag ?_))))))
   obtain rfl:=SJ h
   exact dn (Ad (ra Dd R R R) (Ad (rt R) (Ad (rt R) Ai))) (An R) R
  ·refine Bf (Ab (csr (ld Dd R R R R (rm 1 R (sst Jn R R R R R (rm 2 R (Ak (Bs ?_))))))))
   obtain rfl:=SJ h
   exact dn (Ad (ra Dd R R R) (Ad (rt R) (Ad (rt R) Ai))) (An R) R
def Rf  : Option Bool :=
 (Jm E4 1 1 false).bind fun v1=>(Jm v1.1 2 1 false).bind fun v2=>(N2 v2.1 v1.2.1 [(UInt8.ofBitVec (120#8))]).bind fun v3=>(N2 v3.1 v2.2.1 [(UInt8.ofBitVec (121#8))]).bind fun v4=>(Mv v4.1 v1.2.1 (Av.mk [(UInt8.ofBitVec (121#8))] ([]:List UInt8) false)).bind fun v5=>(Mv v5.1 v2.2.1 (Av.mk [(UInt8.ofBitVec (120#8))] ([]:List UInt8) false)).bind fun v6=>(Hf v6.1 v1.2.1).bind fun v7=>(Hf v7.1 v2.2.1).bind fun v8=>if (decide (v1.2.2=0)) then (if (decide (v2.2.2=0)) then (if (!v3.2.2.1) then (if (decide (v7.2.2=0)) then (if (decide (v7.2.1=1)) then (if (decide (v8.2.2=10)) then (if (decide ((v8.1.Open.length:Int)=0)) then ((Iz v8.1).bind fun v9=>some v9) else (some false)) else (some false)) else (some false)) else (some false)) else (some false)) else (some false)) else (some false)
theorem Aay  {r:Bool} (h:Rf=some r):Br Tryz.prog 9 [] (·=.s (.one (.b r))):=by
 unfold Rf at h
 refine A5 Tryz.func9 R (nt:=109) R (Nbl R) ?_
 intro w0 S0
 refine csr (rm 1 R (Ak (csr (sv R (A6 Qw Ale A1 (.nil _)) ?_))))
 obtain ⟨v1,hv1,h⟩:=Ae h
 refine Ba R Axj (Aa R (Aa R (Aa R (Aa R Af)))) (Ip R) (Ox hv1) (sv R (Ca R) (sv R (Aj R R) (sv R (Aj R R) (sv R (Aj R R) (Bp R Qw (sst Jn R R R R R (rm 2 R (Ak (csr (sv R (lo Dd R R R) ?_))))))))))
 obtain ⟨v2,hv2,h⟩:=Ae h
 refine Ba R Axj (Aa R (Aa R (Aa R (Aa R Af)))) (An R) (Ox hv2) (sv R (Ca R) (sv R (Aj R R) (sv R (Aj R R) (sv R (Aj R R) (sst Jn R R R R R (rm 2 R (Ak (csr (ld Dd R R R R (sv R (A4 R) ?_))))))))))
 refine Fo R Tryz.underlying56 ei5 R R (zJ.1 R) (by decide) ?_
 refine Pz [.box (EL.el v2.1),.arr 5 1 0 ([(UInt8.ofBitVec (120#8))].flatMap eU8)] R ?_
 refine Zf R Tryz.underlying56 Tryz.underlying5 R R (Au (f:=eU8) (fun _=>R) [(UInt8.ofBitVec (120#8))]).symm (by decide) ?_
 obtain ⟨v3,hv3,h⟩:=Ae h
 refine Ba R Ayc (Aa R (Aa R (Aa R Af))) (An R) (Sx hv3) (sv R (Ca R) (sv R (Aj R R) (sv R (Aj R R) (sv R (Aj R R) (sv R (Aj R R) (sst Jn R R R R R (rm 3 R (Ak (csr (ld Dd R R R R (sv R (A4 R) ?_)))))))))))
 refine Fo R Tryz.underlying56 ei5 R R (zJ.1 R) (by decide) ?_
 refine Pz [.box (EL.el v3.1),.dead,.arr 5 1 0 ([(UInt8.ofBitVec (121#8))].flatMap eU8)] R ?_
 refine Zf R Tryz.underlying56 Tryz.underlying5 R R (Au (f:=eU8) (fun _=>R) [(UInt8.ofBitVec (121#8))]).symm (by decide) ?_
 obtain ⟨v4,hv4,h⟩:=Ae h
 refine Ba R Ayc (Aa R (Aa R (Aa R Af))) (An R) (Sx hv4) (sv R (Ca R) (sv R (Aj R R) (sv R (Aj R R) (sv R (Aj R R) (sv R (Aj R R) (sst Jn R R R R R (Ak (csr (ld Dd R R R R (sv R (A4 R) ?_))))))))))
 refine Fo R Tryz.underlying56 ei5 R R (zJ.1 R) (by decide) ?_
 refine Pz [.box (EL.el v4.1),.dead,.dead,.arr 5 1 0 ([(UInt8.ofBitVec (121#8))].flatMap eU8)] R ?_
 refine Zf R Tryz.underlying56 Tryz.underlying5 R R (Au (f:=eU8) (fun _=>R) [(UInt8.ofBitVec (121#8))]).symm (by decide) ?_
 refine sv R (A6 Ajk Axi (Ax R A1) (.cons _ _ _ _ _ _ _ R R (Nbl R) (.nil _))) ?_
 obtain ⟨v5,hv5,h⟩:=Ae h
 refine Ba R Axf (Aa R (Aa R (Aa R Af))) (Ip R) (Qi hv5) (sv R (Ca R) (sv R (Aj R R) (sv R (Aj R R) (sst Jn R R R R R (Ak (csr (ld Dd R R R R (sv R (A4 R) ?_))))))))
 refine Fo R Tryz.underlying56 ei5 R R (zJ.1 R) (by decide) ?_
 refine Pz [.box (EL.el v5.1),.dead,.dead,.dead,.arr 5 1 0 ([(UInt8.ofBitVec (120#8))].flatMap eU8)] R ?_
 refine Zf R Tryz.underlying56 Tryz.underlying5 R R (Au (f:=eU8) (fun _=>R) [(UInt8.ofBitVec (120#8))]).symm (by decide) ?_
 refine sv R (A6 Ajk Axi (Ax R A1) (.cons _ _ _ _ _ _ _ R R (Nbl R) (.nil _))) ?_
 obtain ⟨v6,hv6,h⟩:=Ae h
 refine Ba R Axf (Aa R (Aa R (Aa R Af))) (Ip R) (Qi hv6) (sv R (Ca R) (sv R (Aj R R) (sv R (Aj R R) (sst Jn R R R R R (Ak (csr (ld Dd R R R R (sv R (A4 R) ?_))))))))
 obtain ⟨v7,hv7,h⟩:=Ae h
 refine Ba R Aw8 (Aa R (Aa R Af)) (An R) (Nz hv7) (sv R (Ca R) (sv R (Aj R R) (sv R (Aj R R) (sv R (Aj R R) (sst Jn R R R R R (rm 2 R (Ak (csr (ld Dd R R R R (sv R (A4 R) ?_))))))))))
 obtain ⟨v8,hv8,h⟩:=Ae h
 refine Ba R Aw8 (Aa R (Aa R Af)) (An R) (Nz hv8) (sv R (Ca R) (sv R (Aj R R) (sv R (Aj R R) (sv R (Aj R R) (sst Jn R R R R R (rm 2 R (Ak (csr (rm 1 R (sv R (B4 R R) (rm 1 R (ssI 79 h R (fun h=>?_) (fun h=>?_)))))))))))))
 ·refine rm 1 R (son R R R (sv R (B4 R R) (rm 2 R (ssI 83 h R (fun h=>?_) (fun h=>?_)))))
  ·refine rm 1 R (son R R R (sv R (B0 R) (rm 2 R (ssI 87 h R (fun h=>?_) (fun h=>?_)))))
   ·refine rm 1 R (son R R R (sv R (B4 R R) (rm 2 R (ssI 91 h R (fun h=>?_) (fun h=>?_)))))
    ·refine rm 1 R (son R R R (sv R (B4 R R) (rm 2 R (ssI 95 h R (fun h=>?_) (fun h=>?_)))))
     ·refine rm 1 R (son R R R (sv R (B4 R R) (rm 2 R (ssI 99 h R (fun h=>?_) (fun h=>?_)))))
      ·refine son R R R (sv R (Ac Qt R) (son R R R (sv R (l1 Ahe R R R) (son R R R (sv R (Aw Y1 R) (son R R R (sv R (B4 R R) (rm 2 R (ssI 105 h R (fun h=>?_) (fun h=>?_))))))))))
       ·refine son R R R (ld Dd R R R R (son R R R ?_))
        obtain ⟨v9,hv9,h⟩:=Ae h
        refine Ba R Avo (Aa R Af) (An R) (Nn hv9) (rm 2 R (Ak (Bs ?_)))
        obtain rfl:=SJ h
        exact dnT R R R R
       ·refine rm 4 R (Ak (Bs ?_))
        obtain rfl:=SJ h
        exact dnT R R R R
      ·refine rm 10 R (Ak (Bs ?_))
       obtain rfl:=SJ h
       exact dnT R R R R
     ·refine rm 14 R (Ak (Bs ?_))
      obtain rfl:=SJ h
      exact dnT R R R R
    ·refine rm 18 R (Ak (Bs ?_))
     obtain rfl:=SJ h
     exact dnT R R R R
   ·refine rm 22 R (Ak (Bs ?_))
    obtain rfl:=SJ h
    exact dnT R R R R
  ·refine rm 26 R (Ak (Bs ?_))
   obtain rfl:=SJ h
   exact dnT R R R R
 ·refine rm 30 R (Ak (Bs ?_))
  obtain rfl:=SJ h
  exact dnT R R R R
def Oi (a0:Bg):Option Bool :=
 if (decide ((a0.Lo.length:Int)≤100)) then (some (decide ((a0.Hi.length:Int)≤100))) else (some false)
theorem Z7 {a0:Bg} {r:Bool} (h:Oi a0=some r):Br Tryz.prog 29 [.agg (EL.el a0)] (·=.s (.one (.b r))):=by
 unfold Oi at h
 refine A5 Tryz.func29 R (nt:=13) R (Nbl R) ?_
 intro w0 S0
 refine csr (F4 R R (rm 1 R (Ak (csr (fl Abg Mz R R R R R R (sv R (Aw Yc R) (sv R (De R R) (rm 1 R (ssI 7 h R (fun h=>?_) (fun h=>?_))))))))))
 ·refine son R R R (sv R (Ac Yl R) (son R R R (sv R (l1 Mz R R R) (son R R R (sv R (Aw Yc R) (son R R R (sv R (De R R) (rm 2 R (Ak (Bs ?_))))))))))
  obtain rfl:=SJ h
  exact dnT R R R R
 ·refine rm 6 R (Ak (Bs ?_))
  obtain rfl:=SJ h
  exact dnT R R R R
def P3 (b1:Unit):Option Bool :=
 some true
def Lp (a0:List Fq) (s2:Int):Option (LR (Int) (Unit) (Bool)) :=
 if (decide (s2<(a0.length:Int))) then ((idx a0 s2).bind fun u3=>(Oi u3.Rng).bind fun v4=>if (!v4) then (some (.ret false)) else ((idx a0 s2).bind fun u5=>if (decide (50<(u5.Key.length:Int))) then (some (.ret false)) else ((idx a0 s2).bind fun u6=>if (decide (100<(u6.Val.length:Int))) then (some (.ret false)) else (some (.cont (wI (s2+1))))))) else (some (.brk ()))
def O1 (a0:List Fq):Option Bool :=
 if (decide (80<(a0.length:Int))) then (some false) else ((Lj (Lp a0) fuel 0).bind fun x=>match x with | .inl r=>some r | .inr e7=>P3 e7)
theorem Aap {a0:List Fq} {r:Bool} (h:O1 a0=some r):Br Tryz.prog 10 [.one (.sl a0.length (a0.flatMap Dx))] (·=.s (.one (.b r))):=by
 unfold O1 at h
 refine A5 Tryz.func10 R (nt:=38) R (Nbl R) ?_
 intro w0 S0
 refine csr (rm 1 R (Ak (Bl (csr (rm 1 R (sv R (Aw Ah2 R) (sv R (C5 R R) (Ak (ccI h R (fun h=>?_) (fun h=>?_))))))))))
 ·refine csr (rm 1 R (Ak (Bs (Ag ?_))))
  obtain rfl:=SJ h
  exact dnT R R R R
 ·refine Bf (Ab (Bl (csr (rm 1 R (Ak (cj (Unit) (fun b1=>[]) (fun b1=>[]) (fun b1=>P3 b1=some r) (fun _=>R) (fun b1 h=>?_) ?_))))))
  ·unfold P3 at h
   refine csr (rm 1 R (Ak (Bs ?_)))
   obtain rfl:=SJ h
   exact dnT R R R R
  ·skip
   refine Bq ?_
   obtain ⟨x2,hx2,ho2⟩:=Ae h
   refine lpo (G:=Nat × (Int)) (fun g=>[(0,.s (.one (.sl a0.length (a0.flatMap Dx)))),(3,.s (.one (Ii6 g.2)))]) (fun g=>[]) (fun g=>Lj (Lp a0) g.1 g.2=some x2) (fun g=>g.1) (fuel,0) hx2 ⟨R,R,trivial⟩ [] R (fun _=>R) ?_
   clear hx2 h
   rintro ⟨n2,s2⟩ h
   obtain ⟨n2,y2,rfl,h,hk2⟩:=Es h
   unfold Lp at h
   refine Bl (csr (rm 2 R (sv R (Aw Ah2 R) (sv R (Bt R R) (Ak (ccI h R (fun h=>?_) (fun h=>?_)))))))
   ·refine Bf (Ab (Bl (Bq (csr (rm 1 R (sv R (A4 R) ?_))))))
    obtain ⟨u3,hu3,h⟩:=Ae h
    refine sv R (B8 (f:=Dx) Ah2 (fun _=>R) R R R R hu3) ?_
    refine sv R (B9 Arl R) (sv R (Bz (ys:=[.sl u3.Rng.Lo.length (u3.Rng.Lo.flatMap eU8),.sl u3.Rng.Hi.length (u3.Rng.Hi.flatMap eU8),.b u3.Rng.Open]) Ada R (.cp _) R R) ?_)
    obtain ⟨v4,hv4,h⟩:=Ae h
    refine Ba R A03 (Aa R Af) (An R) (Z7 hv4) (sv R (B0 R) (rm 1 R (ssI 20 h R (fun h=>?_) (fun h=>?_))))
    ·refine rm 17 R (Ak (Ci R (fun _=>?_) (fun hx=>Bool.noConfusion hx)))
     refine csr (rm 1 R (Ak (Bs (Az (Ag (Ag (Az (Ag ?_))))))))
     obtain rfl:=SJ h
     obtain rfl:Sum.inl _=x2:=hk2
     replace ho2:some _=some _:=ho2
     obtain rfl:=zD ho2
     exact dnT R R R R
    ·refine rm 2 R (son R R R ?_)
     obtain ⟨u5,hu5,h⟩:=Ae h
     refine sv R (B8 (f:=Dx) Ah2 (fun _=>R) R R R R hu5) ?_
     refine son R R R (sv R (B9 Alg R) (son R R R (sv R (B6 Mz R (.cp _) R) (son R R R (sv R (Aw Yc R) (son R R R (sv R (C5 R R) (rm 2 R (ssI 29 h R (fun h=>?_) (fun h=>?_))))))))))
     ·refine rm 8 R (Ak (Ci R (fun _=>?_) (fun hx=>Bool.noConfusion hx)))
      refine csr (rm 1 R (Ak (Bs (Az (Ag (Ag (Az (Ag ?_))))))))
      obtain rfl:=SJ h
      obtain rfl:Sum.inl _=x2:=hk2
      replace ho2:some _=some _:=ho2
      obtain rfl:=zD ho2
      exact dnT R R R R
     ·refine rm 2 R (son R R R ?_)
      obtain ⟨u6,hu6,h⟩:=Ae h
      refine sv R (B8 (f:=Dx) Ah2 (fun _=>R) R R R R hu6) ?_
      refine son R R R (sv R (B9 Arj R) (son R R R (sv R (B6 Mz R (.cp _) R) (son R R R (sv R (Aw Yc R) (son R R R (sv R (C5 R R) (rm 1 R (Ak (ccI h R (fun h=>?_) (fun h=>?_)))))))))))
      ·refine csr (rm 1 R (Ak (Bs (Az (Ag (Ag (Az (Ag ?_))))))))
       obtain rfl:=SJ h
       obtain rfl:Sum.inl _=x2:=hk2
       replace ho2:some _=some _:=ho2
       obtain rfl:=zD ho2
       exact dnT R R R R
      ·refine Bf (Ap (Ab (Aq (rm 1 R (sv R (Bo R R) (rm 1 R (Ak ?_)))))))
       obtain rfl:=SJ h
       exact ⟨(n2,(wI (s2+1))),_,hk2,⟨R,R,trivial⟩,R,zG _⟩
   ·refine Da (As (As (Bj (Ab ?_))))
    obtain rfl:=SJ h
    obtain rfl:_=x2:=hk2
    exact ⟨(),_,ho2,trivial,R⟩
def O6 (b2:(List B3)):Option (List B3) :=
 some b2
def Kl (a0:Bu) (a1:Bg) (a2:Int) (a3:Int) (s3:Int × (List B3)):Option (LB (Int × (List B3)) ((List B3))) :=
 if (decide (s3.1<(a0.Keys.length:Int))) then ((idx a0.Keys s3.1).bind fun u4=>if (decide (a3≤(s3.2.length:Int))) then (some (.brk s3.2)) else ((G8 a1 u4).bind fun v5=>if (!v5) then (some (.cont ((wI (s3.1+1)),s3.2))) else ((idx a0.Chains s3.1).bind fun u6=>(Ew u6 a2).bind fun v7=>if v7.2 then (if (s3.2.length+[(B3.mk u4 v7.1)].length)*48≤140737488355328 then (some (.cont ((wI (s3.1+1)),(s3.2++[(B3.mk u4 v7.1)])))) else none) else (some (.cont ((wI (s3.1+1)),s3.2)))))) else (some (.brk s3.2))
def He (a0:Bu) (a1:Bg) (a2:Int) (a3:Int):Option (List B3) :=
 (C7 a0).bind fun v1=>if (!v1) then (some ([]:List B3)) else ((Ct (Kl a0 a1 a2 a3) fuel (0,([]:List B3))).bind fun e9=>O6 e9)
theorem Tc {a0:Bu} {a1:Bg} {a2:Int} {a3:Int} {r:(List B3)} (h:He a0 a1 a2 a3=some r):Br Tryz.prog 54 [.agg (EL.el a0),.agg (EL.el a1),.one (Ii6 a2),.one (Ii6 a3)] (·=.s (.one (.sl r.length (r.flatMap B7)))):=by
 unfold He at h
 refine A5 Tryz.func54 R (nt:=54) R (Nbl R) ?_
 intro w0 S0
 refine csr (F4 R R (F4 R R (rm 1 R (Ak ?_))))
 refine Avt (fun _ _ h=>by rcases h with ⟨h | h,_⟩ <;> cases h) ?_
 refine Bl (csr (sv R (lo Vs R R R) ?_))
 obtain ⟨v1,hv1,h⟩:=Ae h
 refine Ba R Avu (Aa R Af) (An R) (Lq hv1) (sv R (B0 R) (Ak (ccI h R (fun h=>?_) (fun h=>?_))))
 ·refine csr (rm 1 R (Ak (Bs (Ag ?_))))
  obtain rfl:=SJ h
  exact dn (Ad (rt R) Ai) (Ip R) R
 ·refine Bf (Ab (csr (rm 1 R (Ak (Bl (Awo (Ab (Bl (csr (fl Qz Abe R R R R R R (sv R (Aw S7 R) (rm 1 R (Ak ?_)))))))))))))
  refine C6 157 2 9 (by decide) R ?_
  refine cj ((List B3)) (fun b2=>[(9,.s (.one (.ls 2 b2.length)))]) (fun b2=>[.box (EL.el a0),.box (EL.el a1),.arr 157 2 0 (b2.flatMap B7)]) (fun b2=>O6 b2=some r) (fun _=>R) (fun b2 h=>?_) ?_
  ·unfold O6 at h
   refine csr (rm 2 R (Ak (Bs ?_)))
   obtain rfl:=SJ h
   refine ⟨Or.inr R,_,_,_,(Ad (rt R) Ai),(by (repeat' first | exact Ic.nil _ | apply Ic.cons | apply H6.one | apply H6.agg | exact Cz.nil | exact Cz.ls _ _ _ _ _ _ R (Au (f:=B7) (fun _=>R) _).symm | exact Cz.id _ R | exact Co.nil _ | apply Co.cons)),?_⟩
   rfl
  ·skip
   refine Bq ?_
   obtain ⟨x3,hx3,ho3⟩:=Ae h
   refine lpo (G:=Nat × (Int × (List B3))) (fun g=>[(2,.s (.one (Ii6 a2))),(3,.s (.one (Ii6 a3))),(4,.s (.one (.lp 0 0))),(5,.s (.one (.lp 1 0))),(9,.s (.one (.ls 2 g.2.2.length))),(18,.s (.one (.sl a0.Keys.length (a0.Keys.flatMap (eL eU8))))),(19,.s (.one (Ii6 (a0.Keys.length:Int)))),(20,.s (.one (Ii6 g.2.1)))]) (fun g=>[.box (EL.el a0),.box (EL.el a1),.arr 157 2 0 (g.2.2.flatMap B7)]) (fun g=>Ct (Kl a0 a1 a2 a3) g.1 g.2=some x3) (fun g=>g.1) (fuel,(0,([]:List B3))) hx3 ⟨R,R,R,R,R,R,R,R,trivial⟩ [] R (fun _=>R) ?_
   clear hx3 h
   rintro ⟨n3,s3⟩ h
   obtain ⟨n3,y3,rfl,h,hk3⟩:=Cu h
   unfold Kl at h
   refine csr (sv R (Bt R R) (Ak (Bl (ccI h R (fun h=>?_) (fun h=>?_)))))
   ·refine Bf (Ab (Bl (Bq (csr (sv R (A4 R) ?_)))))
    obtain ⟨u4,hu4,h⟩:=Ae h
    refine sv R (B8 (f:=(eL eU8)) S7 (fun _=>R) R R R R hu4) ?_
    refine sv R (B6 Mz R (.cp _) R) (rm 2 R (Ak (Bl (Bq (csr (rm 1 R (sv R (Fu Ahz R R (Au (f:=B7) (fun _=>R) _).symm) ?_)))))))
    refine rm 1 R (sv R (Hz R R) (rm 1 R (Ak (ccI h R (fun h=>?_) (fun h=>?_)))))
    ·refine Da (X5 R (As (X5 R (As (As (Bj (Ab ?_)))))))
     obtain rfl:=SJ h
     obtain rfl:_=x3:=hk3
     exact ⟨s3.2,_,ho3,⟨R,trivial⟩,R⟩
    ·refine csr (ld Ada R R R R (sv R (A4 R) ?_))
     obtain ⟨v5,hv5,h⟩:=Ae h
     refine Ba R Amo (Aa R (Aa R Af)) (An R) (Mj hv5) (sv R (B0 R) (rm 1 R (Ak (ccI h R (fun h=>?_) (fun h=>?_)))))
     ·refine Da (X5 R (As (Bj (Ab (Aq (sv R (Bo R R) (rm 1 R (Ak ?_))))))))
      obtain rfl:=SJ h
      exact ⟨(n3,((wI (s3.1+1)),s3.2)),_,hk3,⟨R,R,R,R,R,R,R,R,trivial⟩,R,zG _⟩
     ·refine Bf (Ap (Ab (csr (fl Qs Akc R R R R R R (sv R (A4 R) ?_)))))
      obtain ⟨u6,hu6,h⟩:=Ae h
      refine sv R (B8 (f:=Ay) Aov (fun _=>R) R R R R hu6) ?_
      refine sv R (Bz (ys:=[.sl u6.L.length (u6.L.flatMap A9)]) O5 R (.cp _) R R) (sv R (A4 R) ?_)
      obtain ⟨v7,hv7,h⟩:=Ae h
      refine Ba R A0f (Aa R (Aa R Af)) (An R) (Sg hv7) (sv R (Ca R) (sv R (Aj R R) (sv R (Aj R R) (rm 2 R (Ak (csr (rm 1 R (Ak (ccI h R (fun h=>?_) (fun h=>?_))))))))))
      ·refine Aq (rm 3 R (sv R (A6 Ang Av7 (Ax R (Ax R A1)) (.cons _ _ _ _ _ _ _ R R (Nbl R) (.cons _ _ _ _ _ _ _ R R (Nbl R) (.nil _)))) ?_))
       refine Fo R Tryz.underlying61 Apo R R (zJ.1 R) (by decide) ?_
       refine Pz [.box (EL.el a0),.box (EL.el a1),.arr 157 2 0 (s3.2.flatMap B7),.arr 157 2 0 ([(B3.mk u4 v7.1)].flatMap B7)] R ?_
       obtain ⟨hb8,h⟩:=Cp h
       refine Tr (f:=B7) (xs:=s3.2) (us:=[(B3.mk u4 v7.1)]) R Tryz.underlying61 Apo Az7 (fun _=>R) R R (.one _ _ _ _ (.ls _ _ _ _ _ _ R (Au (f:=B7) (fun _=>R) [(B3.mk u4 v7.1)]).symm)) R R R (.sl _ _ _ (Au (f:=B7) (fun _=>R) _)) R R hb8 (by decide) ?_
       refine rm 1 R (Kz (Ap (Ab (Aq (sv R (Bo R R) (rm 1 R (Ak ?_)))))))
       obtain rfl:=SJ h
       exact ⟨(n3,((wI (s3.1+1)),(s3.2++[(B3.mk u4 v7.1)]))),_,hk3,⟨R,R,R,R,R,R,R,R,trivial⟩,R,zG _⟩
      ·refine Bf (Ap (Ab (Aq (sv R (Bo R R) (rm 1 R (Ak ?_))))))
       obtain rfl:=SJ h
       exact ⟨(n3,((wI (s3.1+1)),s3.2)),_,hk3,⟨R,R,R,R,R,R,R,R,trivial⟩,R,zG _⟩
   ·refine Da (As (As (Bj (Ab ?_))))
    obtain rfl:=SJ h
    obtain rfl:_=x3:=hk3
    exact ⟨s3.2,_,ho3,⟨R,trivial⟩,R⟩
def Oa (a0:Ah) (a2:Bg) (a3:Int) (v1:Be × Int) (b3:Unit):Option (Ah × (List B3) × Int) :=
 (K0 a0 v1.1 a2).bind fun v4=>if (!decide (v4.2=0)) then (some (v4.1,([]:List B3),v4.2)) else ((He v4.1.Store a2 v1.1.Snap 128).bind fun v5=>(Ga v1.1.Buf v5 a2 a3).bind fun v6=>some (v4.1,v6,0))
def Pt (a0:Ah) (a1:Int) (a2:Bg) (a3:Int):Option (Ah × (List B3) × Int) :=
 (Hg a0 a1).bind fun v1=>if (!decide (v1.2=0)) then ((Dk a0 v1.2).bind fun v2=>some (v2,([]:List B3),v1.2)) else ((E0 a2).bind fun v7=>if (!v7) then (some (a0,([]:List B3),1)) else ((Hb a2).bind fun v8=>if v8 then (some (a0,([]:List B3),1)) else (Oa a0 a2 a3 v1 ())))
theorem Aaw {a0:Ah} {a1:Int} {a2:Bg} {a3:Int} {r:Ah × (List B3) × Int} (h:Pt a0 a1 a2 a3=some r):Br Tryz.prog 30 [.agg (EL.el a0),.one (Ii6 a1),.agg (EL.el a2),.one (Ii6 a3)] (·=.tup [.agg (EL.el r.1),.one (.sl r.2.1.length (r.2.1.flatMap B7)),.one (Ii6 r.2.2)]):=by
 unfold Pt at h
 refine A5 Tryz.func30 R (nt:=58) R (Nbl R) ?_
 intro w0 S0
 refine csr (F4 R R (F4 R R (Bp R Qw (rm 2 R (Ak (csr (ld Dd R R R R (sv R (A4 R) ?_))))))))
 obtain ⟨v1,hv1,h⟩:=Ae h
 refine Ba R Awl (Aa R (Aa R Af)) (An R) (Nq hv1) (sv R (Ca R) (sv R (Aj R R) (sv R (Aj R R) (Bp R Ab1 (sst Ab7 R R R R R (rm 1 R (Ak (Bl (csr (rm 1 R (sv R (Db R R) (Ak (ccI h R (fun h=>?_) (fun h=>?_))))))))))))))
 ·refine csr (ld Dd R R R R (sv R (A4 R) ?_))
  obtain ⟨v2,hv2,h⟩:=Ae h
  refine Ba R Atb (Aa R (Aa R Af)) (An R) (Jr hv2) (rm 1 R (sst Jn R R R R R (rm 2 R (Ak (Bs (Ag ?_))))))
  obtain rfl:=SJ h
  exact dn (Ad (ra Dd R R R) (Ad (rt R) (Ad (rt R) Ai))) (Ip R) R
 ·refine Bf (Ab (Bl (Bl (cj3 (Unit) (fun b3=>[(3,.s (.one (Ii6 a3))),(4,.s (.one (.lp 0 0))),(6,.s (.one (.lp 1 0))),(8,.s (.one (.lp 2 0))),(11,.s (.one (.lp 3 0)))]) (fun b3=>[.box (EL.el a0),.box (EL.el a2),.box Zba,.box (EL.el v1.1)]) (fun b3=>Oa a0 a2 a3 v1 b3=some r) (fun _=>R) (fun b3 h=>?_) ?_))))
  ·unfold Oa at h
   refine csr (ld Dd R R R R (ld X9 R R R R (sv R (lo Ada R R R) ?_)))
   obtain ⟨v4,hv4,h⟩:=Ae h
   refine Ba R A0k (Aa R (Aa R (Aa R Af))) (An R) (Vk hv4) (sv R (Ca R) (sv R (Aj R R) (sv R (Aj R R) (sst Jn R R R R R (rm 1 R (Ak (Bl (csr (rm 1 R (sv R (Db R R) (Ak (ccI h R (fun h=>?_) (fun h=>?_)))))))))))))
   ·refine csr (ld Dd R R R R (rm 1 R (sst Jn R R R R R (rm 2 R (Ak (Bs (Ag ?_)))))))
    obtain rfl:=SJ h
    exact dn (Ad (ra Dd R R R) (Ad (rt R) (Ad (rt R) Ai))) (Ip R) R
   ·refine Bf (Ab (csr (sv R (Ac Pr R) (ld Vs R R R R (ld Ada R R R R (sv R (Ac Aiv R) (sv R (l1 ti3 R R R) ?_)))))))
    obtain ⟨v5,hv5,h⟩:=Ae h
    refine Ba R A0a (Aa R (Aa R (Aa R (Aa R Af)))) (An R) (Tc hv5) (rm 1 R (Ak (Bl ?_)))
    obtain ⟨v6,hv6,h⟩:=Ae h
    refine Ig [7] [0,0,2,0,0,0,62,127,255,511] [[.box (EL.el v4.1),.box (EL.el a2),.box Zba,.box (EL.el v1.1)],[.box (EL.el v4.1),.box (EL.el a2),.box (EL.el v4.1),.box (EL.el v1.1)]] (by kernel_rfl) mixed (by kernel_rfl) (by decide) R R R R ?_
    refine ev (A7 0 R R) R R (lo Dd R R R) (ev (A7 0 R R) R R (Ac Yq R) (ev (A7 0 R R) R R (lo Ag4 R R R) (ev (A7 0 R R) R R (A4 R) (ev (A7 0 R R) R R (lo Ada R R R) (ev (A7 0 R R) R R (A4 R) (ed (A7 0 R R) R R (Cy A01 (Aa R (Aa R (Aa R (Aa R Af)))) R (X3 hv6)) (ee0 0 R R R R (fun ζ=>?_) ?_)))))))
    ·refine sst Jn R R R R R (Pz [.box (EL.el v4.1),.box (EL.el a2),.box (EL.el v4.1),.box (EL.el v1.1)] R ?_)
     exact Sv
    refine ev (A7 1 R R) R R (Iu R) (ev (A7 1 R R) R R (Iu R) (Aas (Ab (Bs ?_))))
    obtain rfl:=SJ h
    exact dn (Ad (ra Dd R R R) (Ad (rt R) (Ad (rt R) Ai))) (An R) R
  ·skip
   refine Aq (sv R (lo Ada R R R) ?_)
   obtain ⟨v7,hv7,h⟩:=Ae h
   refine Ba R A0t (Aa R Af) (An R) (P6 hv7) (sv R (B0 R) (rm 1 R (ssI 29 h R (fun h=>?_) (fun h=>?_))))
   ·refine rm 3 R (Ak (Ci R (fun _=>?_) (fun hx=>Bool.noConfusion hx)))
    refine csr (ld Dd R R R R (sst Jn R R R R R (rm 2 R (Ak (Bs (Ag ?_))))))
    obtain rfl:=SJ h
    exact dn (Ad (ra Dd R R R) (Ad (rt R) (Ad (rt R) Ai))) (Ip R) R
   ·refine son R R R (ld Ada R R R R (son R R R ?_))
    obtain ⟨v8,hv8,h⟩:=Ae h
    refine Ba R A0g (Aa R Af) (An R) (Td hv8) (rm 1 R (Ak (ccI h R (fun h=>?_) (fun h=>?_))))
    ·refine csr (ld Dd R R R R (sst Jn R R R R R (rm 2 R (Ak (Bs (Ag ?_))))))
     obtain rfl:=SJ h
     exact dn (Ad (ra Dd R R R) (Ad (rt R) (Ad (rt R) Ai))) (Ip R) R
    ·refine Bf (Ab ?_)
     exact ⟨(),_,h,⟨R,R,R,R,R,trivial⟩,R⟩
def M6 (a0:Ah) (a1:Int):Option (Ah × Int) :=
 (Hg a0 a1).bind fun v1=>if (!decide (v1.2=0)) then ((Dk a0 v1.2).bind fun v2=>some (v2,v1.2)) else ((Cv a0 v1.1).bind fun v3=>some (v3,0))
theorem T8 {a0:Ah} {a1:Int} {r:Ah × Int} (h:M6 a0 a1=some r):Br Tryz.prog 26 [.agg (EL.el a0),.one (Ii6 a1)] (·=.tup [.agg (EL.el r.1),.one (Ii6 r.2)]):=by
 unfold M6 at h
 refine A5 Tryz.func26 R (nt:=23) R (Nbl R) ?_
 intro w0 S0
 refine csr (F4 R R (Bp R Qw (rm 1 R (Ak (csr (ld Dd R R R R (sv R (A4 R) ?_)))))))
 obtain ⟨v1,hv1,h⟩:=Ae h
 refine Ba R Awl (Aa R (Aa R Af)) (An R) (Nq hv1) (sv R (Ca R) (sv R (Aj R R) (sv R (Aj R R) (Bp R Ab1 (sst Ab7 R R R R R (rm 1 R (Ak (Bl (csr (rm 1 R (sv R (Db R R) (Ak (ccI h R (fun h=>?_) (fun h=>?_))))))))))))))
 ·refine csr (ld Dd R R R R (sv R (A4 R) ?_))
  obtain ⟨v2,hv2,h⟩:=Ae h
  refine Ba R Atb (Aa R (Aa R Af)) (An R) (Jr hv2) (rm 1 R (sst Jn R R R R R (rm 1 R (Ak (Bs (Ag ?_))))))
  obtain rfl:=SJ h
  exact dn (Ad (ra Dd R R R) (Ad (rt R) Ai)) (An R) R
 ·refine Bf (Ab (csr (ld Dd R R R R (sv R (lo X9 R R R) ?_))))
  obtain ⟨v3,hv3,h⟩:=Ae h
  refine Ba R Aud (Aa R (Aa R Af)) (An R) (Ih hv3) (sst Jn R R R R R (rm 1 R (Ak (Bs ?_))))
  obtain rfl:=SJ h
  exact dn (Ad (ra Dd R R R) (Ad (rt R) Ai)) (An R) R
def Fz (v2:Bi × Int × Int) (b6:Ah):Option (Ah × Int × Int) :=
 some (b6,v2.2.1,0)
def Nl (a0:Ah) (a1:Int) (a2:Int):Option (Ah × Int × Int) :=
 (Iz a0).bind fun v1=>if (!v1) then (some (E4,0,1)) else ((Cq a0.Toks a1 a2).bind fun v2=>if (!decide (v2.2.2=0)) then ((Dk a0 v2.2.2).bind fun v3=>some (v3,0,v2.2.2)) else ((E3 v2.1 a1).bind fun v4=>(Kg ({a0 with Toks:=v2.1}) a1).bind fun v5=>if v5.2 then (if (decide (v4.1.State=3)) then (if (decide (v5.1.Attempt≤v4.1.Attempt)) then ((Cv ({a0 with Toks:=v2.1}) v5.1).bind fun v7=>Fz v2 v7) else (Fz v2 ({a0 with Toks:=v2.1}))) else (Fz v2 ({a0 with Toks:=v2.1}))) else (Fz v2 ({a0 with Toks:=v2.1}))))
theorem Y6 {a0:Ah} {a1:Int} {a2:Int} {r:Ah × Int × Int} (h:Nl a0 a1 a2=some r):Br Tryz.prog 31 [.agg (EL.el a0),.one (Ii6 a1),.one (Ii6 a2)] (·=.tup [.agg (EL.el r.1),.one (Ii6 r.2.1),.one (Ii6 r.2.2)]):=by
 unfold Nl at h
 refine A5 Tryz.func31 R (nt:=67) R (Nbl R) ?_
 intro w0 S0
 refine csr (F4 R R (Bp R Qw (rm 2 R (Ak (Bl (csr (sv R (lo Dd R R R) ?_)))))))
 obtain ⟨v1,hv1,h⟩:=Ae h
 refine Ba R Avo (Aa R Af) (An R) (Nn hv1) (sv R (B0 R) (Ak (ccI h R (fun h=>?_) (fun h=>?_))))
 ·refine csr (sv R (A6 Qw Ale A1 (.nil _)) (sst Jn R R R R R (rm 2 R (Ak (Bs (Ag ?_))))))
  obtain rfl:=SJ h
  exact dn (Ad (ra Dd R R R) (Ad (rt R) (Ad (rt R) Ai))) (Ip R) R
 ·refine Bf (Ab (csr (sv R (Ac Vd R) (ld Ou R R R R (rm 1 R (sv R (A4 R) ?_))))))
  obtain ⟨v2,hv2,h⟩:=Ae h
  refine Ba R A0j (Aa R (Aa R (Aa R Af))) (An R) (Ro hv2) (sv R (Ca R) (sv R (Aj R R) (sv R (Aj R R) (sv R (Aj R R) (Bp R Wc (sst Tg R R R R R (rm 2 R (Ak (Bl (csr (rm 1 R (sv R (Db R R) (Ak (ccI h R (fun h=>?_) (fun h=>?_)))))))))))))))
  ·refine csr (ld Dd R R R R (sv R (A4 R) ?_))
   obtain ⟨v3,hv3,h⟩:=Ae h
   refine Ba R Atb (Aa R (Aa R Af)) (An R) (Jr hv3) (rm 1 R (sst Jn R R R R R (rm 2 R (Ak (Bs (Ag ?_))))))
   obtain rfl:=SJ h
   exact dn (Ad (ra Dd R R R) (Ad (rt R) (Ad (rt R) Ai))) (An R) R
  ·refine Bf (Ab (csr (ld Ou R R R R (sv R (Ac Vd R) (sst Tg R R R R R (Ak (csr (ld Ou R R R R (sv R (A4 R) ?_)))))))))
   obtain ⟨v4,hv4,h⟩:=Ae h
   refine Ba R Av6 (Aa R (Aa R Af)) (An R) (Ku hv4) (sv R (Ca R) (sv R (Aj R R) (sv R (Aj R R) (Bp R V8 (sst Aax R R R R R (rm 1 R (Ak (Bl (csr (ld Dd R R R R (sv R (A4 R) ?_)))))))))))
   obtain ⟨v5,hv5,h⟩:=Ae h
   refine Ba R A0s (Aa R (Aa R Af)) (An R) (Sq hv5) (sv R (Ca R) (sv R (Aj R R) (sv R (Aj R R) (Bp R Ab1 (sst Ab7 R R R R R (rm 1 R (Ak (Bl (cj3 (Ah) (fun b6=>[(3,.s (.one (.lp 0 0))),(6,.s (.one (.lp 1 0))),(10,.s (.one (Ii6 v2.2.1)))]) (fun b6=>[.box (EL.el b6),.box Zba,.box [.sl v2.1.L.length (v2.1.L.flatMap Am)],.box (EL.el v4.1),.box (EL.el v5.1)]) (fun b6=>Fz v2 b6=some r) (fun _=>R) (fun b6 h=>?_) ?_)))))))))
   ·unfold Fz at h
    refine csr (ld Dd R R R R (rm 1 R (sst Jn R R R R R (rm 2 R (Ak (Bs ?_))))))
    obtain rfl:=SJ h
    exact dn (Ad (ra Dd R R R) (Ad (rt R) (Ad (rt R) Ai))) (An R) R
   ·skip
    refine Aq (rm 2 R (ssI 50 h R (fun h=>?_) (fun h=>?_)))
    ·refine son R R R (sv R (Ac Wh R) (son R R R (sv R (l1 ti3 R R R) (son R R R (sv R (B4 R R) (rm 2 R (ssI 55 h R (fun h=>?_) (fun h=>?_))))))))
     ·refine son R R R (sv R (Ac Ai4 R) (son R R R (sv R (l1 ti3 R R R) (son R R R (sv R (Ac We R) (son R R R (sv R (l1 ti3 R R R) (son R R R (sv R (De R R) (rm 1 R (Ak (ccI h R (fun h=>?_) (fun h=>?_)))))))))))))
      ·refine Aq (ld Dd R R R R (sv R (lo X9 R R R) ?_))
       obtain ⟨v7,hv7,h⟩:=Ae h
       refine Ba R Aud (Aa R (Aa R Af)) (An R) (Ih hv7) (sst Jn R R R R R (Ak ?_))
       exact ⟨v7,_,h,⟨R,R,R,trivial⟩,R⟩
      ·refine Bf (Ab ?_)
       exact ⟨{a0 with Toks:=v2.1},_,h,⟨R,R,R,trivial⟩,R⟩
     ·refine rm 6 R (Ak (Ci R (fun hx=>Bool.noConfusion hx) (fun _=>?_)))
      refine Bf (Ab ?_)
      exact ⟨{a0 with Toks:=v2.1},_,h,⟨R,R,R,trivial⟩,R⟩
    ·refine rm 11 R (Ak (Ci R (fun hx=>Bool.noConfusion hx) (fun _=>?_)))
     refine Bf (Ab ?_)
     exact ⟨{a0 with Toks:=v2.1},_,h,⟨R,R,R,trivial⟩,R⟩
def J3 (a0:Int) (b1:Unit):Option (List A8) :=
 if (decide (0<(wI (a0-(wI (0-0)))))) then (if 0<(wI (a0-(wI (0-0))))∧(wI (a0-(wI (0-0))))*((32:Nat):Int)≤281474976710656 then (if (0:Int)≤0∧0≤((List.replicate (wI (a0-(wI (0-0)))).toNat (A8.mk 0 0 0 0)).length:Int) then (some ((List.replicate (wI (a0-(wI (0-0)))).toNat (A8.mk 0 0 0 0)).take (0:Int).toNat)) else none) else none) else (some ([]:List A8))
def Kb (a0:Int):Option (List A8) :=
 if (decide (a0<0)) then none else (J3 a0 ())
theorem V0 {a0:Int} {r:(List A8)} (h:Kb a0=some r):Dl Tryz.prog 220 [] [.one (Znl),.one (Ii6 a0)] (fun y m'=>y=.s (.one (.ls 0 r.length))∧m'=[.arr 145 4 0 (r.flatMap Am)]):=by
 unfold Kb at h
 refine Dc Tryz.func220 R (nt:=27) R (Nbl R) ?_
 intro w0 S0 X0 H0
 refine csr (rm 1 R (Ak (Bl (csr (rm 1 R (sv R (Bt R R) (Ak (cj (Unit) (fun b1=>[(0,.s (.one (Znl))),(1,.s (.one (Ii6 a0)))]) (fun b1=>[]) (fun b1=>J3 a0 b1=some r) (fun _=>R) (fun b1 h=>?_) ?_))))))))
 ·unfold J3 at h
  refine Bl (csr (rm 2 R (sv R (Gu Acx R) (rm 1 R (sv R (F2 Acx R) (sv R (Nk R R) (sv R (Nk R R) (rm 1 R (Ak (csr (rm 1 R (sv R (C5 R R) (Ak (ccI h R (fun h=>?_) (fun h=>?_)))))))))))))))
  ·refine Aq (rm 2 R (sv R (Gu Acx R) (sv R (M0 Acx R R) (sv R (A4 R) ?_))))
   obtain ⟨hm2,h⟩:=Cp h
   refine Au0 (f:=Am) (z:=(A8.mk 0 0 0 0)) R Tryz.underlying35 Aky Tryz.underlying3 (fun _=>R) R R R hm2 (by decide) ?_
   refine rm 1 R (sv R (F2 Acx R) ?_)
   obtain ⟨hs3,h⟩:=Cp h
   refine Abz (f:=Am) R Acx (fun _=>R) R R R R R hs3 ?_
   refine rm 1 R (Ak (csr (rm 2 R (Ak (Bs ?_)))))
   obtain rfl:=SJ h
   exact ⟨Or.inr R,_,[1],[.one (.ls 0 ((List.replicate (wI (a0-(wI (0-0)))).toNat (A8.mk 0 0 0 0)).take (0:Int).toNat).length)],[.arr 145 4 0 (((List.replicate (wI (a0-(wI (0-0)))).toNat (A8.mk 0 0 0 0)).take (0:Int).toNat).flatMap Am)],(Ad (rt R) Ai),R,R,⟨by decide,R⟩,R,R,⟨R,R⟩⟩
  ·refine Bf (Ab (csr (rm 2 R (Ak ?_))))
   refine C6 145 4 4 (by decide) R ?_
   refine Bs ?_
   obtain rfl:=SJ h
   exact ⟨Or.inr R,_,[0],[.one (.ls 0 ([]:List A8).length)],[.arr 145 4 0 (([]:List A8).flatMap Am)],(Ad (rt R) Ai),R,R,⟨by decide,R⟩,R,R,⟨R,R⟩⟩
 ·skip
  refine ccI h R (fun h=>?_) (fun h=>?_)
  ·cases h
  ·refine Bf (Ab ?_)
   exact ⟨(),_,h,⟨R,R,trivial⟩,R⟩
def Mb (b3:(List A8)):Option (List A8) :=
 some b3
def En (a0:List (List A8)) (s4:Int × (List A8)):Option (LB (Int × (List A8)) ((List A8))) :=
 if (decide (s4.1<(a0.length:Int))) then ((idx a0 s4.1).bind fun u5=>if (s4.2.length+u5.length)*32≤140737488355328 then (some (.cont ((wI (s4.1+1)),(s4.2++u5)))) else none) else (some (.brk s4.2))
def I5 (a0:List (List A8)) (b1:Int):Option (List A8) :=
 (Kb b1).bind fun v2=>(Ct (En a0) fuel (0,v2)).bind fun e7=>Mb e7
def El (a0:List (List A8)) (s8:Int × Int):Option (LB (Int × Int) (Int)) :=
 if (decide (s8.2<(a0.length:Int))) then ((idx a0 s8.2).bind fun u9=>if (decide ((wI (s8.1+(u9.length:Int)))<0)) then none else (some (.cont ((wI (s8.1+(u9.length:Int))),(wI (s8.2+1)))))) else (some (.brk s8.1))
def I8 (a0:List (List A8)):Option (List A8) :=
 (Ct (El a0) fuel (0,0)).bind fun e10=>I5 a0 e10
theorem Uv {a0:List (List A8)} {r:(List A8)} (h:I8 a0=some r):Br Tryz.prog 151 [.one (.sl a0.length (a0.flatMap (eL Am)))] (·=.s (.one (.sl r.length (r.flatMap Am)))):=by
 unfold I8 at h
 refine A5 Tryz.func151 R (nt:=36) R (Nbl R) ?_
 intro w0 S0
 refine csr (rm 1 R (Ak (csr (rm 1 R (Ak (Bl (csr (rm 1 R (sv R (Aw Aog R) (rm 1 R (Ak (cj (Int) (fun b1=>[(0,.s (.one (.sl a0.length (a0.flatMap (eL Am))))),(3,.s (.one (Ii6 b1)))]) (fun b1=>[]) (fun b1=>I5 a0 b1=some r) (fun _=>R) (fun b1 h=>?_) ?_))))))))))))
 ·unfold I5 at h
  refine csr (sv R (A4 R) ?_)
  obtain ⟨v2,hv2,h⟩:=Ae h
  refine Ie (x':=.s (.one (.ls 0 v2.length))) (M':=[.arr 145 4 0 (v2.flatMap Am)]) [] R Aye (.func _) (Aa R (Aa R Af)) (V0 hv2) R R (by decide) R R R ?_
  refine rm 1 R (Ak (Bl (csr (rm 1 R (sv R (Aw Aog R) (rm 1 R (Ak (cj ((List A8)) (fun b3=>[(6,.s (.one (.ls 0 b3.length)))]) (fun b3=>[.arr 145 4 0 (b3.flatMap Am)]) (fun b3=>Mb b3=some r) (fun _=>R) (fun b3 h=>?_) ?_))))))))
  ·unfold Mb at h
   refine csr (rm 2 R (Ak (Bs ?_)))
   obtain rfl:=SJ h
   refine ⟨Or.inr R,_,_,_,(Ad (rt R) Ai),(by (repeat' first | exact Ic.nil _ | apply Ic.cons | apply H6.one | apply H6.agg | exact Cz.nil | exact Cz.ls _ _ _ _ _ _ R (Au (f:=Am) (fun _=>R) _).symm | exact Cz.id _ R | exact Co.nil _ | apply Co.cons)),?_⟩
   rfl
  ·skip
   refine Bq ?_
   obtain ⟨x4,hx4,ho4⟩:=Ae h
   refine lpo (G:=Nat × (Int × (List A8))) (fun g=>[(6,.s (.one (.ls 0 g.2.2.length))),(25,.s (.one (.sl a0.length (a0.flatMap (eL Am))))),(26,.s (.one (Ii6 (a0.length:Int)))),(27,.s (.one (Ii6 g.2.1)))]) (fun g=>[.arr 145 4 0 (g.2.2.flatMap Am)]) (fun g=>Ct (En a0) g.1 g.2=some x4) (fun g=>g.1) (fuel,(0,v2)) hx4 ⟨R,R,R,R,trivial⟩ [] R (fun _=>R) ?_
   clear hx4 h
   rintro ⟨n4,s4⟩ h
   obtain ⟨n4,y4,rfl,h,hk4⟩:=Cu h
   unfold En at h
   refine csr (sv R (Bt R R) (Ak (Bl (ccI h R (fun h=>?_) (fun h=>?_)))))
   ·refine Bf (Ab (Bl (Bq (Bl (Aq ?_)))))
    obtain ⟨u5,hu5,h⟩:=Ae h
    refine sv R (B8 (f:=(eL Am)) Aog (fun _=>R) R R R R hu5) ?_
    refine sv R (B6 Ak9 R (.cp _) R) (rm 1 R (Ak (Aq (rm 1 R (sv R (A4 R) ?_)))))
    obtain ⟨hb6,h⟩:=Cp h
    refine Tr (f:=Am) (xs:=s4.2) (us:=u5) R Tryz.underlying35 Aky Ayv (fun _=>R) R R (.one _ _ _ _ (.id _ R)) R R R (.sl _ _ _ (Au (f:=Am) (fun _=>R) _)) R R hb6 (by decide) ?_
    refine rm 1 R (Kz (Ap (Ab (Aq (sv R (Bo R R) (rm 1 R (Ak ?_)))))))
    obtain rfl:=SJ h
    exact ⟨(n4,((wI (s4.1+1)),(s4.2++u5))),_,hk4,⟨R,R,R,R,trivial⟩,R,zG _⟩
   ·refine Da (As (As (Bj (Ab ?_))))
    obtain rfl:=SJ h
    obtain rfl:_=x4:=hk4
    exact ⟨s4.2,_,ho4,⟨R,trivial⟩,R⟩
 ·skip
  refine Bq ?_
  obtain ⟨x8,hx8,ho8⟩:=Ae h
  refine lpo (G:=Nat × (Int × Int)) (fun g=>[(0,.s (.one (.sl a0.length (a0.flatMap (eL Am))))),(3,.s (.one (Ii6 g.2.1))),(9,.s (.one (.sl a0.length (a0.flatMap (eL Am))))),(10,.s (.one (Ii6 (a0.length:Int)))),(11,.s (.one (Ii6 g.2.2)))]) (fun g=>[]) (fun g=>Ct (El a0) g.1 g.2=some x8) (fun g=>g.1) (fuel,(0,0)) hx8 ⟨R,R,R,R,R,trivial⟩ [] R (fun _=>R) ?_
  clear hx8 h
  rintro ⟨n8,s8⟩ h
  obtain ⟨n8,y8,rfl,h,hk8⟩:=Cu h
  unfold El at h
  refine csr (sv R (Bt R R) (Ak (Bl (ccI h R (fun h=>?_) (fun h=>?_)))))
  ·refine Bf (Ab (Bl (Bq (Bl (Aq ?_)))))
   obtain ⟨u9,hu9,h⟩:=Ae h
   refine sv R (B8 (f:=(eL Am)) Aog (fun _=>R) R R R R hu9) ?_
   refine sv R (B6 Ak9 R (.cp _) R) (rm 1 R (Ak (csr (rm 2 R (sv R (Aw Acx R) (sv R (Bo R R) (rm 1 R (Ak (csr (rm 1 R (sv R (Bt R R) (Ak (ccI h R (fun h=>?_) (fun h=>?_))))))))))))))
   ·cases h
   ·refine Bf (Ap (Ab (Aq (sv R (Bo R R) (rm 1 R (Ak ?_))))))
    obtain rfl:=SJ h
    exact ⟨(n8,((wI (s8.1+(u9.length:Int))),(wI (s8.2+1)))),_,hk8,⟨R,R,R,R,R,trivial⟩,R,zG _⟩
  ·refine Da (As (As (Bj (Ab ?_))))
   obtain rfl:=SJ h
   obtain rfl:_=x8:=hk8
   exact ⟨s8.1,_,ho8,⟨R,R,trivial⟩,R⟩
def Jc (a0:Bi) (a1:Int) (b1:Unit):Option (Bi × Int) :=
 (E3 a0 a1).bind fun v2=>if (!v2.2) then (some (Cm,6)) else (if (decide (v2.1.State=1)) then (some (Cm,7)) else ((Ej a0 a1).bind fun v3=>(cut a0.L 0 v3).bind fun c4=>(cut a0.L (wI (v3+1)) (a0.L.length:Int)).bind fun c5=>(I8 ([c4,c5]:List (List A8))).bind fun v6=>some ((Bi.mk v6),0)))
def Gh (a0:Bi) (a1:Int):Option (Bi × Int) :=
 (C0 a0).bind fun v7=>if (!v7) then (some (Cm,1)) else ((Cn a1 0).bind fun v8=>if (!v8) then (some (Cm,1)) else (Jc a0 a1 ()))
theorem Uw {a0:Bi} {a1:Int} {r:Bi × Int} (h:Gh a0 a1=some r):Br Tryz.prog 75 [.agg [.sl a0.L.length (a0.L.flatMap Am)],.one (Ii6 a1)] (·=.tup [.agg [.sl r.1.L.length (r.1.L.flatMap Am)],.one (Ii6 r.2)]):=by
 unfold Gh at h
 refine A5 Tryz.func75 R (nt:=48) R (Nbl R) ?_
 intro w0 S0
 refine csr (F4 R R (Bp R Wc (rm 1 R (Ak (Bl (Bl (cj3 (Unit) (fun b1=>[(1,.s (.one (Ii6 a1))),(2,.s (.one (.lp 0 0))),(4,.s (.one (.lp 1 0)))]) (fun b1=>[.box [.sl a0.L.length (a0.L.flatMap Am)],.box [Znl]]) (fun b1=>Jc a0 a1 b1=some r) (fun _=>R) (fun b1 h=>?_) ?_)))))))
 ·unfold Jc at h
  refine csr (ld Ou R R R R (sv R (A4 R) ?_))
  obtain ⟨v2,hv2,h⟩:=Ae h
  refine Ba R Av6 (Aa R (Aa R Af)) (An R) (Ku hv2) (sv R (Ca R) (sv R (Aj R R) (sv R (Aj R R) (Bp R V8 (sst Aax R R R R R (rm 1 R (Ak (Bl (Bq (csr (rm 1 R (sv R (B0 R) (rm 1 R (Ak (ccI h R (fun h=>?_) (fun h=>?_))))))))))))))))
  ·refine csr (sv R (A6 Wc Abt A1 (.nil _)) (sst Tg R R R R R (rm 1 R (Ak (Bs (Az (Ag ?_)))))))
   obtain rfl:=SJ h
   exact dn (Ad (ra Ou R R R) (Ad (rt R) Ai)) (Ip R) R
  ·refine csr (fl Wh ti3 R R R R R R (sv R (B4 R R) (rm 1 R (Ak (ccI h R (fun h=>?_) (fun h=>?_))))))
   ·refine csr (sv R (A6 Wc Abt A1 (.nil _)) (sst Tg R R R R R (rm 1 R (Ak (Bs (Az (Ag ?_)))))))
    obtain rfl:=SJ h
    exact dn (Ad (ra Ou R R R) (Ad (rt R) Ai)) (Ip R) R
   ·refine Bf (Ap (Ab (csr (ld Ou R R R R (sv R (A4 R) ?_)))))
    obtain ⟨v3,hv3,h⟩:=Ae h
    refine Ba R Aqm (Aa R (Aa R Af)) (An R) (K9 hv3) (rm 1 R (Ak (Bl ?_)))
    obtain ⟨c4,hc4,h⟩:=Ae h
    obtain ⟨c5,hc5,h⟩:=Ae h
    obtain ⟨v6,hv6,h⟩:=Ae h
    refine Ig [12] [0,1,0,7,0,16,0,64,240,511,1023,2047,4095,8191] [[.box [.sl a0.L.length (a0.L.flatMap Am)],.box [Znl],.box (EL.el v2.1)],[.box [.sl a0.L.length (a0.L.flatMap Am)],.box [.sl v6.length (v6.flatMap Am)],.box (EL.el v2.1)]] (by kernel_rfl) mixed (by kernel_rfl) (by decide) R R R R ?_
    refine ev (A7 0 R R) R R (Ac Wp R) (ev (A7 0 R R) R R (l1 Ak9 R R R) (ev (A7 0 R R) R R (A4 R) (ev (A7 0 R R) R R (X2 (f:=Am) (lo:=0) (hi:=v3) Acx (fun _=>R) R R R Up (Ql R (Int.le_trans (T6 hc4).1.1 (T6 hc4).1.2.1)) hc4) ?_)))
    refine ev (A7 0 R R) R R (Ac Wp R) (ev (A7 0 R R) R R (l1 Ak9 R R R) (ev (A7 0 R R) R R (A4 R) (ev (A7 0 R R) R R (Bo R R) ?_)))
    refine ev (A7 0 R R) R R (X2 (f:=Am) (lo:=(wI (v3+1))) (hi:=(a0.L.length:Int)) Acx (fun _=>R) R R R (Ql R (T6 hc5).1.1) (by exact R) hc5) ?_
    refine ed (A7 0 R R) R R (Zj (out:=([c4,c5]:List (List A8)).flatMap (eL Am)) Tryz.underlying337 A02 (Ax R (Ax R A1)) (.cons _ _ _ _ _ _ _ R R (Nbl R) (.cons _ _ _ _ _ _ _ R R (Nbl R) (.nil _))) R (by decide)) ?_
    refine ed (A7 0 R R) R R (Cy Ayp (Aa R Af) R (Uv hv6)) (ev (A7 0 R R) R R (A6 Wc Abt (Ax R A1) (.cons _ _ _ _ _ _ _ R R (Nbl R) (.nil _))) (ee0 0 R R R R (fun ζ=>?_) ?_))
    ·refine sst Tg R R R R R (Pz [.box [.sl a0.L.length (a0.L.flatMap Am)],.box [.sl v6.length (v6.flatMap Am)],.box (EL.el v2.1)] R ?_)
     exact Sv
    refine ev (A7 1 R R) R R (Iu R) (Aas (Ab (Bs ?_)))
    obtain rfl:=SJ h
    exact dn (Ad (ra Ou R R R) (Ad (rt R) Ai)) (An R) R
 ·skip
  refine Aq (sv R (lo Ou R R R) ?_)
  obtain ⟨v7,hv7,h⟩:=Ae h
  refine Ba R Auu (Aa R Af) (An R) (Kj hv7) (sv R (B0 R) (rm 1 R (ssI 12 h R (fun h=>?_) (fun h=>?_))))
  ·refine rm 4 R (Ak (Ci R (fun _=>?_) (fun hx=>Bool.noConfusion hx)))
   refine csr (sv R (A6 Wc Abt A1 (.nil _)) (sst Tg R R R R R (rm 1 R (Ak (Bs (Ag ?_))))))
   obtain rfl:=SJ h
   exact dn (Ad (ra Ou R R R) (Ad (rt R) Ai)) (Ip R) R
  ·refine rm 1 R (son R R R ?_)
   obtain ⟨v8,hv8,h⟩:=Ae h
   refine Ba R Akm (Aa R (Aa R Af)) (An R) (D4 hv8) (son R R R (sv R (B0 R) (rm 1 R (Ak (ccI h R (fun h=>?_) (fun h=>?_))))))
   ·refine csr (sv R (A6 Wc Abt A1 (.nil _)) (sst Tg R R R R R (rm 1 R (Ak (Bs (Ag ?_))))))
    obtain rfl:=SJ h
    exact dn (Ad (ra Ou R R R) (Ad (rt R) Ai)) (Ip R) R
   ·refine Bf (Ab ?_)
    exact ⟨(),_,h,⟨R,R,R,trivial⟩,R⟩
def Mi (a0:Ah) (a1:Int):Option (Ah × Int) :=
 (Iz a0).bind fun v1=>if (!v1) then (some (E4,1)) else ((Gh a0.Toks a1).bind fun v2=>if (!decide (v2.2=0)) then ((Dk a0 v2.2).bind fun v3=>some (v3,v2.2)) else (some ({a0 with Toks:=v2.1},0)))
theorem Xf {a0:Ah} {a1:Int} {r:Ah × Int} (h:Mi a0 a1=some r):Br Tryz.prog 32 [.agg (EL.el a0),.one (Ii6 a1)] (·=.tup [.agg (EL.el r.1),.one (Ii6 r.2)]):=by
 unfold Mi at h
 refine A5 Tryz.func32 R (nt:=28) R (Nbl R) ?_
 intro w0 S0
 refine csr (F4 R R (Bp R Qw (rm 1 R (Ak (Bl (csr (sv R (lo Dd R R R) ?_)))))))
 obtain ⟨v1,hv1,h⟩:=Ae h
 refine Ba R Avo (Aa R Af) (An R) (Nn hv1) (sv R (B0 R) (Ak (ccI h R (fun h=>?_) (fun h=>?_))))
 ·refine csr (sv R (A6 Qw Ale A1 (.nil _)) (sst Jn R R R R R (rm 1 R (Ak (Bs (Ag ?_))))))
  obtain rfl:=SJ h
  exact dn (Ad (ra Dd R R R) (Ad (rt R) Ai)) (Ip R) R
 ·refine Bf (Ab (csr (sv R (Ac Vd R) (ld Ou R R R R (sv R (A4 R) ?_)))))
  obtain ⟨v2,hv2,h⟩:=Ae h
  refine Ba R A1b (Aa R (Aa R Af)) (An R) (Uw hv2) (sv R (Ca R) (sv R (Aj R R) (sv R (Aj R R) (Bp R Wc (sst Tg R R R R R (rm 1 R (Ak (Bl (csr (rm 1 R (sv R (Db R R) (Ak (ccI h R (fun h=>?_) (fun h=>?_))))))))))))))
  ·refine csr (ld Dd R R R R (sv R (A4 R) ?_))
   obtain ⟨v3,hv3,h⟩:=Ae h
   refine Ba R Atb (Aa R (Aa R Af)) (An R) (Jr hv3) (rm 1 R (sst Jn R R R R R (rm 1 R (Ak (Bs (Ag ?_))))))
   obtain rfl:=SJ h
   exact dn (Ad (ra Dd R R R) (Ad (rt R) Ai)) (An R) R
  ·refine Bf (Ab (csr (ld Ou R R R R (sv R (Ac Vd R) (sst Tg R R R R R (Ak (csr (ld Dd R R R R (sst Jn R R R R R (rm 1 R (Ak (Bs ?_))))))))))))
   obtain rfl:=SJ h
   exact dn (Ad (ra Dd R R R) (Ad (rt R) Ai)) (An R) R
def Sb (a0:Ah) (a1:Fq) (a2:Int):Option (Ah × Iv) :=
 if (decide (a1.What≤1)) then ((Jm a0 a1.Token a1.Attempt a1.RO).bind fun v1=>some (v1.1,(Iv.mk v1.2.1 false ([]:List UInt8) ([]:List B3) v1.2.2))) else (if (decide (a1.What≤3)) then ((N2 a0 a2 a1.Key).bind fun v2=>some (v2.1,(Iv.mk 0 v2.2.2.1 v2.2.1 ([]:List B3) v2.2.2.2))) else (if (decide (a1.What=4)) then ((Pt a0 a2 a1.Rng 8).bind fun v3=>some (v3.1,(Iv.mk 0 false ([]:List UInt8) v3.2.1 v3.2.2))) else (if (decide (a1.What≤7)) then ((Mv a0 a2 (Av.mk a1.Key a1.Val a1.Del)).bind fun v4=>some (v4.1,(Iv.mk 0 false ([]:List UInt8) ([]:List B3) v4.2))) else (if (decide (a1.What≤10)) then ((Hf a0 a2).bind fun v5=>some (v5.1,(Iv.mk v5.2.1 false ([]:List UInt8) ([]:List B3) v5.2.2))) else (if (decide (a1.What=11)) then ((M6 a0 a2).bind fun v6=>some (v6.1,(Iv.mk 0 false ([]:List UInt8) ([]:List B3) v6.2))) else (if (decide (a1.What=12)) then ((Nl a0 a1.Token a1.Attempt).bind fun v7=>some (v7.1,(Iv.mk v7.2.1 false ([]:List UInt8) ([]:List B3) v7.2.2))) else ((Mi a0 a1.Token).bind fun v8=>some (v8.1,(Iv.mk 0 false ([]:List UInt8) ([]:List B3) v8.2)))))))))
theorem Afz {a0:Ah} {a1:Fq} {a2:Int} {r:Ah × Iv} (h:Sb a0 a1 a2=some r):Br Tryz.prog 11 [.agg (EL.el a0),.agg (EL.el a1),.one (Ii6 a2)] (·=.tup [.agg (EL.el r.1),.agg (EL.el r.2)]):=by
 unfold Sb at h
 refine A5 Tryz.func11 R (nt:=162) R (Nbl R) ?_
 intro w0 S0
 refine csr (F4 R R (F4 R R (Bp R Qw (Bp R Anf (Ak (Bl (Bq (csr (fl Tf ti3 R R R R R R (sv R (De R R) (rm 1 R (Ak (ccI h R (fun h=>?_) (fun h=>?_))))))))))))))
 ·refine csr (ld Dd R R R R (fl Anv ti3 R R R R R R (fl Aq1 ti3 R R R R R R (sv R (Ac Awy R) (sv R (l1 ti4 R R R) ?_)))))
  obtain ⟨v1,hv1,h⟩:=Ae h
  refine Ba R Axj (Aa R (Aa R (Aa R (Aa R Af)))) (An R) (Ox hv1) (sv R (Ca R) (sv R (Aj R R) (sv R (Aj R R) (sv R (Aj R R) (Bp R Qw (sst Jn R R R R R (rm 2 R (Ak (csr (ld Dd R R R R (rm 2 R (sv R (A6 Anf Arb (Ax R (Ax R A1)) (.cons _ _ _ _ _ _ _ R R (Nbl R) (.cons _ _ _ _ _ _ _ R R (Nbl R) (.nil _)))) (sst Jn R R R R R (sst Ao8 R R R R R (Ak (Bs (Az (Ag ?_))))))))))))))))))
  obtain rfl:=SJ h
  exact dn (Ad (ra Dd R R R) (Ad (ra Apr R R R) Ai)) (Ip R) R
 ·refine csr (fl Tf ti3 R R R R R R (sv R (De R R) (rm 1 R (Ak (ccI h R (fun h=>?_) (fun h=>?_))))))
  ·refine csr (ld Dd R R R R (rm 1 R (sv R (Ac Alg R) (sv R (l1 Mz R R R) ?_))))
   obtain ⟨v2,hv2,h⟩:=Ae h
   refine Ba R Ayc (Aa R (Aa R (Aa R Af))) (An R) (Sx hv2) (sv R (Ca R) (sv R (Aj R R) (sv R (Aj R R) (sv R (Aj R R) (sv R (Aj R R) (Bp R Qw (sst Jn R R R R R (rm 3 R (Ak (csr (ld Dd R R R R (rm 3 R (sv R (A6 Anf Arb (Ax R (Ax R (Ax R A1))) (.cons _ _ _ _ _ _ _ R R (Nbl R) (.cons _ _ _ _ _ _ _ R R (Nbl R) (.cons _ _ _ _ _ _ _ R R (Nbl R) (.nil _))))) (sst Jn R R R R R (sst Ao8 R R R R R (Ak (Bs (Az (Ag ?_)))))))))))))))))))
   obtain rfl:=SJ h
   exact dn (Ad (ra Dd R R R) (Ad (ra Apr R R R) Ai)) (Ip R) R
  ·refine csr (fl Tf ti3 R R R R R R (sv R (B4 R R) (rm 1 R (Ak (ccI h R (fun h=>?_) (fun h=>?_))))))
   ·refine csr (ld Dd R R R R (rm 1 R (sv R (Ac Arl R) (sv R (lo Ada R R R) ?_))))
    obtain ⟨v3,hv3,h⟩:=Ae h
    refine Ba R A1e (Aa R (Aa R (Aa R (Aa R Af)))) (An R) (Aaw hv3) (sv R (Ca R) (sv R (Aj R R) (sv R (Aj R R) (sv R (Aj R R) (Bp R Qw (sst Jn R R R R R (rm 2 R (Ak (csr (ld Dd R R R R (rm 2 R (sv R (A6 Anf Arb (Ax R (Ax R A1)) (.cons _ _ _ _ _ _ _ R R (Nbl R) (.cons _ _ _ _ _ _ _ R R (Nbl R) (.nil _)))) (sst Jn R R R R R (sst Ao8 R R R R R (Ak (Bs (Az (Ag ?_))))))))))))))))))
    obtain rfl:=SJ h
    exact dn (Ad (ra Dd R R R) (Ad (ra Apr R R R) Ai)) (Ip R) R
   ·refine csr (fl Tf ti3 R R R R R R (sv R (De R R) (rm 1 R (Ak (ccI h R (fun h=>?_) (fun h=>?_))))))
    ·refine csr (ld Dd R R R R (rm 1 R (fl Alg Mz R R R R R R (fl Arj Mz R R R R R R (fl Awp ti4 R R R R R R (sv R (A6 Ajk Axi (Ax R (Ax R (Ax R A1))) (.cons _ _ _ _ _ _ _ R R (Nbl R) (.cons _ _ _ _ _ _ _ R R (Nbl R) (.cons _ _ _ _ _ _ _ R R (Nbl R) (.nil _))))) ?_))))))
     obtain ⟨v4,hv4,h⟩:=Ae h
     refine Ba R Axf (Aa R (Aa R (Aa R Af))) (An R) (Qi hv4) (sv R (Ca R) (sv R (Aj R R) (sv R (Aj R R) (Bp R Qw (sst Jn R R R R R (rm 1 R (Ak (csr (ld Dd R R R R (rm 1 R (sv R (A6 Anf Arb (Ax R A1) (.cons _ _ _ _ _ _ _ R R (Nbl R) (.nil _))) (sst Jn R R R R R (sst Ao8 R R R R R (Ak (Bs (Az (Ag ?_)))))))))))))))))
     obtain rfl:=SJ h
     exact dn (Ad (ra Dd R R R) (Ad (ra Apr R R R) Ai)) (Ip R) R
    ·refine csr (fl Tf ti3 R R R R R R (sv R (De R R) (rm 1 R (Ak (ccI h R (fun h=>?_) (fun h=>?_))))))
     ·refine csr (ld Dd R R R R (sv R (A4 R) ?_))
      obtain ⟨v5,hv5,h⟩:=Ae h
      refine Ba R Aw8 (Aa R (Aa R Af)) (An R) (Nz hv5) (sv R (Ca R) (sv R (Aj R R) (sv R (Aj R R) (sv R (Aj R R) (Bp R Qw (sst Jn R R R R R (rm 2 R (Ak (csr (ld Dd R R R R (rm 2 R (sv R (A6 Anf Arb (Ax R (Ax R A1)) (.cons _ _ _ _ _ _ _ R R (Nbl R) (.cons _ _ _ _ _ _ _ R R (Nbl R) (.nil _)))) (sst Jn R R R R R (sst Ao8 R R R R R (Ak (Bs (Az (Ag ?_))))))))))))))))))
      obtain rfl:=SJ h
      exact dn (Ad (ra Dd R R R) (Ad (ra Apr R R R) Ai)) (Ip R) R
     ·refine csr (fl Tf ti3 R R R R R R (sv R (B4 R R) (rm 1 R (Ak (ccI h R (fun h=>?_) (fun h=>?_))))))
      ·refine csr (ld Dd R R R R (sv R (A4 R) ?_))
       obtain ⟨v6,hv6,h⟩:=Ae h
       refine Ba R Az6 (Aa R (Aa R Af)) (An R) (T8 hv6) (sv R (Ca R) (sv R (Aj R R) (sv R (Aj R R) (Bp R Qw (sst Jn R R R R R (rm 1 R (Ak (csr (ld Dd R R R R (rm 1 R (sv R (A6 Anf Arb (Ax R A1) (.cons _ _ _ _ _ _ _ R R (Nbl R) (.nil _))) (sst Jn R R R R R (sst Ao8 R R R R R (Ak (Bs (Az (Ag ?_)))))))))))))))))
       obtain rfl:=SJ h
       exact dn (Ad (ra Dd R R R) (Ad (ra Apr R R R) Ai)) (Ip R) R
      ·refine csr (fl Tf ti3 R R R R R R (sv R (B4 R R) (rm 1 R (Ak (ccI h R (fun h=>?_) (fun h=>?_))))))
       ·refine csr (ld Dd R R R R (fl Anv ti3 R R R R R R (sv R (Ac Aq1 R) (sv R (l1 ti3 R R R) ?_))))
        obtain ⟨v7,hv7,h⟩:=Ae h
        refine Ba R A1r (Aa R (Aa R (Aa R Af))) (An R) (Y6 hv7) (sv R (Ca R) (sv R (Aj R R) (sv R (Aj R R) (sv R (Aj R R) (Bp R Qw (sst Jn R R R R R (rm 2 R (Ak (csr (ld Dd R R R R (rm 2 R (sv R (A6 Anf Arb (Ax R (Ax R A1)) (.cons _ _ _ _ _ _ _ R R (Nbl R) (.cons _ _ _ _ _ _ _ R R (Nbl R) (.nil _)))) (sst Jn R R R R R (sst Ao8 R R R R R (Ak (Bs (Az (Ag ?_))))))))))))))))))
        obtain rfl:=SJ h
        exact dn (Ad (ra Dd R R R) (Ad (ra Apr R R R) Ai)) (Ip R) R
       ·refine Bf (Ap (Ab (csr (ld Dd R R R R (sv R (Ac Anv R) (sv R (l1 ti3 R R R) ?_))))))
        obtain ⟨v8,hv8,h⟩:=Ae h
        refine Ba R A08 (Aa R (Aa R Af)) (An R) (Xf hv8) (sv R (Ca R) (sv R (Aj R R) (sv R (Aj R R) (Bp R Qw (sst Jn R R R R R (rm 1 R (Ak (csr (ld Dd R R R R (rm 1 R (sv R (A6 Anf Arb (Ax R A1) (.cons _ _ _ _ _ _ _ R R (Nbl R) (.nil _))) (sst Jn R R R R R (sst Ao8 R R R R R (Ak (Bs ?_)))))))))))))))
        obtain rfl:=SJ h
        exact dn (Ad (ra Dd R R R) (Ad (ra Apr R R R) Ai)) (Ip R) R
def O8 (b1:Ah × (List B1)):Option (Ah × (List B1)) :=
 some (b1.1,b1.2)
def Dm (s2:Int × Ah × (List B1) × (List B1)) (v5:Ah × Iv) (b9:(List B1) × (List B1)):Option (LB (Int × Ah × (List B1) × (List B1)) (Ah × (List B1))) :=
 some (.cont ((wI (s2.1+1)),v5.1,b9.1,b9.2))
def Dn (a0:List Fq) (s2:Int × Ah × (List B1) × (List B1)) (b3:Int) (v5:Ah × Iv) (b8:(List B1)):Option (LB (Int × Ah × (List B1) × (List B1)) (Ah × (List B1))) :=
 (idx a0 s2.1).bind fun u10=>if (decide (7<u10.What)) then ((idx a0 s2.1).bind fun u11=>if (decide (u11.What≤10)) then (if (decide (v5.2.e_=0)) then (if (decide (b3<(b8.length:Int))) then ((idx b8 b3).bind fun u12=>(idx (b8.set b3.toNat ({u12 with end_:=v5.2.n_})) b3).bind fun u13=>if (s2.2.2.1.length+[u13].length)*48≤140737488355328 then (Dm s2 v5 ((s2.2.2.1++[u13]),(b8.set b3.toNat ({u12 with end_:=v5.2.n_})))) else none) else (Dm s2 v5 (s2.2.2.1,b8))) else (Dm s2 v5 (s2.2.2.1,b8))) else (Dm s2 v5 (s2.2.2.1,b8))) else (Dm s2 v5 (s2.2.2.1,b8))
def Ft (a0:List Fq) (s2:Int × Ah × (List B1) × (List B1)) (b3:Int) (v5:Ah × Iv) (b7:(List B1)):Option (LB (Int × Ah × (List B1) × (List B1)) (Ah × (List B1))) :=
 (idx a0 s2.1).bind fun u15=>if (decide (1<u15.What)) then ((idx a0 s2.1).bind fun u16=>if (decide (u16.What≤7)) then (if (decide (v5.2.e_=0)) then (if (decide (b3<(b7.length:Int))) then ((idx b7 b3).bind fun u17=>(idx a0 s2.1).bind fun u18=>if (u17.acts_+([(F8.mk u18 v5.2)]:List F8).length)≤maxLen∧(u17.acts_+([(F8.mk u18 v5.2)]:List F8).length)*216≤140737488355328 then ((idx b7 b3).bind fun u20=>Dn a0 s2 b3 v5 (b7.set b3.toNat ({u20 with acts_:=(u17.acts_+([(F8.mk u18 v5.2)]:List F8).length)}))) else none) else (Dn a0 s2 b3 v5 b7)) else (Dn a0 s2 b3 v5 b7)) else (Dn a0 s2 b3 v5 b7)) else (Dn a0 s2 b3 v5 b7)
def Hk (a0:List Fq) (s2:Int × Ah × (List B1) × (List B1)) (b3:Int) (v5:Ah × Iv) (b6:Unit):Option (LB (Int × Ah × (List B1) × (List B1)) (Ah × (List B1))) :=
 (idx a0 s2.1).bind fun u21=>if (decide (u21.What≤1)) then (if (decide (v5.2.e_=0)) then (if (s2.2.2.2.length+[(B1.mk v5.2.n_ s2.2.1.Store.Ts 0 0)].length)*48≤140737488355328 then (Ft a0 s2 b3 v5 (s2.2.2.2++[(B1.mk v5.2.n_ s2.2.1.Store.Ts 0 0)])) else none) else (Ft a0 s2 b3 v5 s2.2.2.2)) else (Ft a0 s2 b3 v5 s2.2.2.2)
def Hm (a0:List Fq) (s2:Int × Ah × (List B1) × (List B1)) (b3:Int):Option (LB (Int × Ah × (List B1) × (List B1)) (Ah × (List B1))) :=
 (idx a0 s2.1).bind fun u4=>(Sb s2.2.1 u4 b3).bind fun v5=>if (decide (v5.2.e_=1)) then (if (decide (v5.1.Next=0)) then (some (.cont ((wI (s2.1+1)),s2.2.1,s2.2.2.1,s2.2.2.2))) else (Hk a0 s2 b3 v5 ())) else (Hk a0 s2 b3 v5 ())
def Ki (a0:List Fq) (s2:Int × Ah × (List B1) × (List B1)):Option (LB (Int × Ah × (List B1) × (List B1)) (Ah × (List B1))) :=
 if (decide (s2.1<(a0.length:Int))) then (if (decide (0<(s2.2.2.2.length:Int))) then ((idx a0 s2.1).bind fun u23=>if (s2.2.2.2.length:Int)≠0 then (Hm a0 s2 ((wI ((BitVec.ofInt 64 u23.N &&& BitVec.ofInt 64 65535).toNat:Int)).tmod (s2.2.2.2.length:Int))) else none) else (Hm a0 s2 0)) else (some (.brk (s2.2.1,s2.2.2.1)))
def Nv (a0:List Fq):Option (Ah × (List B1)) :=
 (Ct (Ki a0) fuel (0,E4,([]:List B1),([]:List B1))).bind fun e25=>O8 e25
theorem Xg {a0:List Fq}:∀ x ∈ ([.one (.sl a0.length (a0.flatMap Dx))]:List SV),NJs x:=by
 intro x hx
 obtain rfl:=zW.1 hx
 intro l hl
 obtain rfl:=zW.1 (show l ∈ [_] from hl)
 refine Anl fun y l hl=>?_
 simp only [Dx,yM,List.not_mem_nil,or_false] at hl
 rcases hl with rfl | rfl | rfl | rfl | rfl | rfl | rfl | rfl | rfl | rfl | rfl <;> first | exact A0n | exact A1d | exact nj_s | exact Anl Ay6
theorem Za {a0:List Fq} {r:Ah × (List B1)} (h:Nv a0=some r):Br Tryz.prog 17 [.one (.sl a0.length (a0.flatMap Dx))] (·=.tup [.agg (EL.el r.1),.one (.sl r.2.length (r.2.flatMap Bh))]):=by
 unfold Nv at h
 refine Akk Tryz.func17 R (nt:=151) R (Nbl R) Xg (fun x h=>by cases h) ?_
 intro w0 S0 hJ
 refine csr (Bp R Qw (rm 1 R (Ak (csr (sv R (A6 Qw Ale A1 (.nil _)) (Bp R Qw (sst Jn R R R R R (Ak (csr (rm 1 R (Ak (csr (rm 1 R (Ak (Bl (csr (rm 1 R (Ak ?_))))))))))))))))))
 refine C6 79 4 6 (by decide) R ?_
 refine cj (Ah × (List B1)) (fun b1=>[(2,.s (.one (.lp 0 0))),(4,.s (.one (.lp 1 0))),(6,.s (.one (.ls 2 b1.2.length)))]) (fun b1=>[.box Zba,.box (EL.el b1.1),.arr 79 4 0 (b1.2.flatMap Bh)]) (fun b1=>O8 b1=some r) (fun _=>R) (fun b1 h=>?_) ?_
 ·unfold O8 at h
  refine csr (ld Dd R R R R (rm 1 R (sst Jn R R R R R (rm 1 R (Ak (Bs ?_))))))
  obtain rfl:=SJ h
  refine ⟨Or.inr R,_,_,_,(Ad (ra Dd R R R) (Ad (rt R) Ai)),(by (repeat' first | exact Ic.nil _ | apply Ic.cons | apply H6.one | apply H6.agg | exact Cz.nil | exact Cz.ls _ _ _ _ _ _ R (Au (f:=Bh) (fun _=>R) _).symm | exact Cz.id _ R | exact Co.nil _ | apply Co.cons)),?_⟩
  rfl
 ·skip
  refine Bq ?_
  refine C6 79 4 5 (by decide) R ?_
  refine Xx 1 0 R R Cz.nil R (Xx 1 1 R R Cz.nil R (Xx 1 3 R R Cz.nil R (Xx 1 4 R R Cz.nil R (Xx 1 5 R R Cz.nil R (Xx 1 6 R R Cz.nil R ?_)))))
  obtain ⟨x2,hx2,ho2⟩:=Ae h
  refine lpo (G:=Nat × (Int × Ah × (List B1) × (List B1))) (fun g=>[(0,.s (.one (.sl a0.length (a0.flatMap Dx)))),(2,.s (.one (.lp 0 0))),(4,.s (.one (.lp 1 0))),(5,.s (.one (.ls 3 g.2.2.2.2.length))),(6,.s (.one (.ls 2 g.2.2.2.1.length))),(7,.s (.one (Ii6 g.2.1)))]) (fun g=>[.box Zba,.box (EL.el g.2.2.1),.arr 79 4 0 (g.2.2.2.1.flatMap Bh),.arr 79 4 0 (g.2.2.2.2.flatMap Bh)]) (fun g=>Ct (Ki a0) g.1 g.2=some x2) (fun g=>g.1) (fuel,(0,E4,([]:List B1),([]:List B1))) hx2 ⟨R,R,R,R,R,R,trivial⟩ [] R (fun _=>R) ?_
  clear hx2 h
  rintro ⟨n2,s2⟩ h
  obtain ⟨n2,y2,rfl,h,hk2⟩:=Cu h
  unfold Ki at h
  refine Bl (csr (rm 2 R (sv R (Aw Ah2 R) (sv R (Bt R R) (Ak (ccI h R (fun h=>?_) (fun h=>?_)))))))
  ·refine Bf (Ab (Bl (Bq (csr (rm 1 R (Ak (Bl (csr (rm 1 R (sv R (Fu Art R R (Au (f:=Bh) (fun _=>R) _).symm) ?_))))))))))
   refine sv R (C5 R R) (Ak (cj (Int) (fun b3=>[(0,.s (.one (.sl a0.length (a0.flatMap Dx)))),(2,.s (.one (.lp 0 0))),(4,.s (.one (.lp 1 0))),(5,.s (.one (.ls 3 s2.2.2.2.length))),(6,.s (.one (.ls 2 s2.2.2.1.length))),(7,.s (.one (Ii6 s2.1))),(8,.s (.one (Ii6 b3)))]) (fun b3=>[.box Zba,.box (EL.el s2.2.1),.arr 79 4 0 (s2.2.2.1.flatMap Bh),.arr 79 4 0 (s2.2.2.2.flatMap Bh)]) (fun b3=>Hm a0 s2 b3=some y2) (fun _=>R) (fun b3 h=>?_) ?_))
   ·unfold Hm at h
    refine Bl (Aah (Aah ?_))
    obtain ⟨u4,hu4,h⟩:=Ae h
    obtain ⟨v5,hv5,h⟩:=Ae h
    refine Ane [10,11,12,13] [0,0,0,6,14,0,63,127,255,255,0,0,3583,8191] [([false,false,false,false],[.box Zba,.box (EL.el s2.2.1),.arr 79 4 0 (s2.2.2.1.flatMap Bh),.arr 79 4 0 (s2.2.2.2.flatMap Bh),.hole,.hole]),([false,true,false,false],[.box Zba,.box (EL.el s2.2.1),.arr 79 4 0 (s2.2.2.1.flatMap Bh),.arr 79 4 0 (s2.2.2.2.flatMap Bh),.hole,.box [Ii6 0,.b false,Znl,Znl,Ii6 0]]),([true,false,false,false],[.box Zba,.box (EL.el s2.2.1),.arr 79 4 0 (s2.2.2.1.flatMap Bh),.arr 79 4 0 (s2.2.2.2.flatMap Bh),.box Zba,.hole]),([true,true,false,false],[.box Zba,.box (EL.el s2.2.1),.arr 79 4 0 (s2.2.2.1.flatMap Bh),.arr 79 4 0 (s2.2.2.2.flatMap Bh),.box Zba,.box [Ii6 0,.b false,Znl,Znl,Ii6 0]]),([true,true,true,false],[.box Zba,.box (EL.el s2.2.1),.arr 79 4 0 (s2.2.2.1.flatMap Bh),.arr 79 4 0 (s2.2.2.2.flatMap Bh),.box (EL.el v5.1),.box [Ii6 0,.b false,Znl,Znl,Ii6 0]]),([true,true,true,true],[.box Zba,.box (EL.el s2.2.1),.arr 79 4 0 (s2.2.2.1.flatMap Bh),.arr 79 4 0 (s2.2.2.2.flatMap Bh),.box (EL.el v5.1),.box (EL.el v5.2)])] (by kernel_rfl) mixed (by kernel_rfl) (by decide) R (by kernel_rfl) R R ?_
    refine mev (md:=[.box Zba,.box (EL.el s2.2.1),.arr 79 4 0 (s2.2.2.1.flatMap Bh),.arr 79 4 0 (s2.2.2.2.flatMap Bh),.dead,.dead]) (Cx R ⟨R,⟨R,⟨R,⟨R,⟨trivial,⟨trivial,trivial⟩⟩⟩⟩⟩⟩ (Cx R ⟨R,⟨R,⟨R,⟨R,⟨trivial,⟨trivial,trivial⟩⟩⟩⟩⟩⟩ (Cx R ⟨R,⟨R,⟨R,⟨R,⟨trivial,⟨trivial,trivial⟩⟩⟩⟩⟩⟩ (Cx R ⟨R,⟨R,⟨R,⟨R,⟨trivial,⟨trivial,trivial⟩⟩⟩⟩⟩⟩ (Cd R (Cd R G6)))))) R R (lo Dd R R R) (Avi R R (fun _=>A4 R) ?_)
    refine Avi R R (fun _=>A4 R) ?_
    refine mev (md:=[.box Zba,.box (EL.el s2.2.1),.arr 79 4 0 (s2.2.2.1.flatMap Bh),.arr 79 4 0 (s2.2.2.2.flatMap Bh),.dead,.dead]) (Cx R ⟨R,⟨R,⟨R,⟨R,⟨trivial,⟨trivial,trivial⟩⟩⟩⟩⟩⟩ (Cx R ⟨R,⟨R,⟨R,⟨R,⟨trivial,⟨trivial,trivial⟩⟩⟩⟩⟩⟩ (Cx R ⟨R,⟨R,⟨R,⟨R,⟨trivial,⟨trivial,trivial⟩⟩⟩⟩⟩⟩ (Cx R ⟨R,⟨R,⟨R,⟨R,⟨trivial,⟨trivial,trivial⟩⟩⟩⟩⟩⟩ (Cd R (Cd R G6)))))) R R (B8 (f:=Dx) Ah2 (fun _=>R) R R R R hu4) ?_
    refine mev (md:=[.box Zba,.box (EL.el s2.2.1),.arr 79 4 0 (s2.2.2.1.flatMap Bh),.arr 79 4 0 (s2.2.2.2.flatMap Bh),.dead,.dead]) (Cx R ⟨R,⟨R,⟨R,⟨R,⟨trivial,⟨trivial,trivial⟩⟩⟩⟩⟩⟩ (Cx R ⟨R,⟨R,⟨R,⟨R,⟨trivial,⟨trivial,trivial⟩⟩⟩⟩⟩⟩ (Cx R ⟨R,⟨R,⟨R,⟨R,⟨trivial,⟨trivial,trivial⟩⟩⟩⟩⟩⟩ (Cx R ⟨R,⟨R,⟨R,⟨R,⟨trivial,⟨trivial,trivial⟩⟩⟩⟩⟩⟩ (Cd R (Cd R G6)))))) R R (Bz (ys:=[Ii6 u4.What,Ii6 u4.N,Ii6 u4.Token,Ii6 u4.Attempt,.b u4.RO,.b u4.Del,.sl u4.Key.length (u4.Key.flatMap eU8),.sl u4.Val.length (u4.Val.flatMap eU8),.sl u4.Rng.Lo.length (u4.Rng.Lo.flatMap eU8),.sl u4.Rng.Hi.length (u4.Rng.Hi.flatMap eU8),.b u4.Rng.Open]) A0q R (.cp _) R R) (Avi R R (fun _=>A4 R) ?_)
    refine med (md:=[.box Zba,.box (EL.el s2.2.1),.arr 79 4 0 (s2.2.2.1.flatMap Bh),.arr 79 4 0 (s2.2.2.2.flatMap Bh),.dead,.dead]) (Cx R ⟨R,⟨R,⟨R,⟨R,⟨trivial,⟨trivial,trivial⟩⟩⟩⟩⟩⟩ (Cx R ⟨R,⟨R,⟨R,⟨R,⟨trivial,⟨trivial,trivial⟩⟩⟩⟩⟩⟩ (Cx R ⟨R,⟨R,⟨R,⟨R,⟨trivial,⟨trivial,trivial⟩⟩⟩⟩⟩⟩ (Cx R ⟨R,⟨R,⟨R,⟨R,⟨trivial,⟨trivial,trivial⟩⟩⟩⟩⟩⟩ (Cd R (Cd R G6)))))) R R (Cy A04 (Aa R (Aa R (Aa R Af))) R (Afz hv5)) (Avi R R (fun _=>Ca R) ?_)
    refine mev (md:=[.box Zba,.box (EL.el s2.2.1),.arr 79 4 0 (s2.2.2.1.flatMap Bh),.arr 79 4 0 (s2.2.2.2.flatMap Bh),.dead,.dead]) (Cx R ⟨R,⟨R,⟨R,⟨R,⟨trivial,⟨trivial,trivial⟩⟩⟩⟩⟩⟩ (Cx R ⟨R,⟨R,⟨R,⟨R,⟨trivial,⟨trivial,trivial⟩⟩⟩⟩⟩⟩ (Cx R ⟨R,⟨R,⟨R,⟨R,⟨trivial,⟨trivial,trivial⟩⟩⟩⟩⟩⟩ (Cx R ⟨R,⟨R,⟨R,⟨R,⟨trivial,⟨trivial,trivial⟩⟩⟩⟩⟩⟩ (Cd R (Cd R G6)))))) R R (Aj R R) (mev (md:=[.box Zba,.box (EL.el s2.2.1),.arr 79 4 0 (s2.2.2.1.flatMap Bh),.arr 79 4 0 (s2.2.2.2.flatMap Bh),.dead,.dead]) (Cx R ⟨R,⟨R,⟨R,⟨R,⟨trivial,⟨trivial,trivial⟩⟩⟩⟩⟩⟩ (Cx R ⟨R,⟨R,⟨R,⟨R,⟨trivial,⟨trivial,trivial⟩⟩⟩⟩⟩⟩ (Cx R ⟨R,⟨R,⟨R,⟨R,⟨trivial,⟨trivial,trivial⟩⟩⟩⟩⟩⟩ (Cx R ⟨R,⟨R,⟨R,⟨R,⟨trivial,⟨trivial,trivial⟩⟩⟩⟩⟩⟩ (Cx R ⟨R,⟨R,⟨R,⟨R,⟨trivial,⟨trivial,trivial⟩⟩⟩⟩⟩⟩ (Cd R G6)))))) R R (Aj R R) (mee (x:=.s (.one (.lp 4 0))) 0 R R ?_ ?_))
    ·refine Cx R ⟨_,R,fun ζ=>?_⟩ ?_
     ·refine Mg 4 R Qw R ?_
      exact Sv
     refine Cx R ⟨_,R,fun ζ=>?_⟩ ?_
     ·refine Mg 4 R Qw R ?_
      exact Sv
     refine Cd R (Cd R (Cd R (Cd R ?_)))
     exact G6
    refine mee (x:=.s (.one (.lp 5 0))) 1 R R ?_ ?_
    ·refine Cx R ⟨_,R,fun ζ=>?_⟩ ?_
     ·refine Mg 5 R Anf R ?_
      exact Sv
     refine Cd R (Cx R ⟨_,R,fun ζ=>?_⟩ ?_)
     ·refine Mg 5 R Anf R ?_
      exact Sv
     refine Cd R (Cd R (Cd R ?_))
     exact G6
    refine Azh 2 R ?_ ?_
    ·refine Cd R (Cd R (Cd R (Cx R ⟨_,R,fun ζ=>?_⟩ ?_)))
     ·refine sst Jn R R R R R (Pz [.box Zba,.box (EL.el s2.2.1),.arr 79 4 0 (s2.2.2.1.flatMap Bh),.arr 79 4 0 (s2.2.2.2.flatMap Bh),.box (EL.el v5.1),.box [Ii6 0,.b false,Znl,Znl,Ii6 0]] R ?_)
      exact Sv
     refine Cd R (Cd R ?_)
     exact G6
    refine Azh 3 R ?_ ?_
    ·refine Cd R (Cd R (Cd R (Cd R (Cx R ⟨_,R,fun ζ=>?_⟩ ?_))))
     ·refine sst Ao8 R R R R R (Pz [.box Zba,.box (EL.el s2.2.1),.arr 79 4 0 (s2.2.2.1.flatMap Bh),.arr 79 4 0 (s2.2.2.2.flatMap Bh),.box (EL.el v5.1),.box (EL.el v5.2)] R ?_)
      exact Sv
     refine Cd R ?_
     exact G6
    refine Aw0 (Ab (Bl (Bl (cj3 (Unit) (fun b6=>[(0,.s (.one (.sl a0.length (a0.flatMap Dx)))),(2,.s (.one (.lp 0 0))),(4,.s (.one (.lp 1 0))),(5,.s (.one (.ls 3 s2.2.2.2.length))),(6,.s (.one (.ls 2 s2.2.2.1.length))),(7,.s (.one (Ii6 s2.1))),(8,.s (.one (Ii6 b3))),(9,.s (.one (.lp 4 0))),(10,.s (.one (.lp 5 0)))]) (fun b6=>[.box Zba,.box (EL.el s2.2.1),.arr 79 4 0 (s2.2.2.1.flatMap Bh),.arr 79 4 0 (s2.2.2.2.flatMap Bh),.box (EL.el v5.1),.box (EL.el v5.2)]) (fun b6=>Hk a0 s2 b3 v5 b6=some y2) (fun _=>R) (fun b6 h=>?_) ?_))))
    ·unfold Hk at h
     refine Bl (Bl (cj3 ((List B1)) (fun b7=>[(0,.s (.one (.sl a0.length (a0.flatMap Dx)))),(2,.s (.one (.lp 0 0))),(4,.s (.one (.lp 1 0))),(5,.s (.one (.ls 3 b7.length))),(6,.s (.one (.ls 2 s2.2.2.1.length))),(7,.s (.one (Ii6 s2.1))),(8,.s (.one (Ii6 b3))),(9,.s (.one (.lp 4 0))),(10,.s (.one (.lp 5 0)))]) (fun b7=>[.box Zba,.box (EL.el s2.2.1),.arr 79 4 0 (s2.2.2.1.flatMap Bh),.arr 79 4 0 (b7.flatMap Bh),.box (EL.el v5.1),.box (EL.el v5.2)]) (fun b7=>Ft a0 s2 b3 v5 b7=some y2) (fun _=>R) (fun b7 h=>?_) ?_))
     ·unfold Ft at h
      refine Bl (Bl (cj3 ((List B1)) (fun b8=>[(0,.s (.one (.sl a0.length (a0.flatMap Dx)))),(2,.s (.one (.lp 0 0))),(4,.s (.one (.lp 1 0))),(5,.s (.one (.ls 3 b8.length))),(6,.s (.one (.ls 2 s2.2.2.1.length))),(7,.s (.one (Ii6 s2.1))),(8,.s (.one (Ii6 b3))),(9,.s (.one (.lp 4 0))),(10,.s (.one (.lp 5 0)))]) (fun b8=>[.box Zba,.box (EL.el s2.2.1),.arr 79 4 0 (s2.2.2.1.flatMap Bh),.arr 79 4 0 (b8.flatMap Bh),.box (EL.el v5.1),.box (EL.el v5.2)]) (fun b8=>Dn a0 s2 b3 v5 b8=some y2) (fun _=>R) (fun b8 h=>?_) ?_))
      ·unfold Dn at h
       refine Bl (Bl (cj3 ((List B1) × (List B1)) (fun b9=>[(0,.s (.one (.sl a0.length (a0.flatMap Dx)))),(2,.s (.one (.lp 0 0))),(4,.s (.one (.lp 1 0))),(5,.s (.one (.ls 3 b9.2.length))),(6,.s (.one (.ls 2 b9.1.length))),(7,.s (.one (Ii6 s2.1))),(9,.s (.one (.lp 4 0)))]) (fun b9=>[.box Zba,.box (EL.el s2.2.1),.arr 79 4 0 (b9.1.flatMap Bh),.arr 79 4 0 (b9.2.flatMap Bh),.box (EL.el v5.1),.box (EL.el v5.2)]) (fun b9=>Dm s2 v5 b9=some y2) (fun _=>R) (fun b9 h=>?_) ?_))
       ·unfold Dm at h
        refine Aq (ld Dd R R R R (sst Jn R R R R R (Kz (Ap (Ab (Aq (rm 1 R (sv R (Bo R R) (rm 1 R (Ak ?_))))))))))
        obtain rfl:=SJ h
        exact ⟨(n2,((wI (s2.1+1)),v5.1,b9.1,b9.2)),_,hk2,⟨R,R,R,R,R,R,trivial⟩,R,zG _⟩
       ·skip
        refine Aq (rm 1 R (sv R (A4 R) ?_))
        obtain ⟨u10,hu10,h⟩:=Ae h
        refine sv R (B8 (f:=Dx) Ah2 (fun _=>R) R R R R hu10) ?_
        refine sv R (B9 Tf R) (sv R (B6 ti3 R (.cp _) R) (sv R (C5 R R) (rm 1 R (ssI 116 h R (fun h=>?_) (fun h=>?_)))))
        ·refine rm 2 R (son R R R ?_)
         obtain ⟨u11,hu11,h⟩:=Ae h
         refine sv R (B8 (f:=Dx) Ah2 (fun _=>R) R R R R hu11) ?_
         refine son R R R (sv R (B9 Tf R) (son R R R (sv R (B6 ti3 R (.cp _) R) (son R R R (sv R (De R R) (rm 2 R (ssI 124 h R (fun h=>?_) (fun h=>?_))))))))
         ·refine son R R R (sv R (Ac Ais R) (son R R R (sv R (l1 Aw7 R R R) (son R R R (sv R (B4 R R) (rm 2 R (ssI 129 h R (fun h=>?_) (fun h=>?_))))))))
          ·refine rm 2 R (son R R R (sv R (Fu Art R R (Au (f:=Bh) (fun _=>R) _).symm) ?_))
           refine son R R R (sv R (Bt R R) (rm 1 R (Ak (ccI h R (fun h=>?_) (fun h=>?_)))))
           ·refine csr (rm 2 R (sv R (Ac Aq9 R) (sv R (l1 ti3 R R R) ?_)))
            obtain ⟨u12,hu12,h⟩:=Ae h
            refine sv R (Et (f:=Bh) Art (fun _=>R) R R R R R hu12) ?_
            refine sv R (C3 Auw R R (Au (f:=Bh) (fun _=>R) _).symm) ?_
            refine Zw (f:=Bh) (u':={u12 with end_:=v5.2.n_}) (sz:=4) 2 sz3 (fun _=>R) R R R R R R R (zJ.1 R) (Gq hu12).2 (Nbl R) R ?_
            refine Mx 5 (y:=.s (.one (.ls 3 b8.length))) (.s (.one (.ls 3 (b8.set b3.toNat ({u12 with end_:=v5.2.n_})).length))) R (congrArg (fun n=>AV.s (.one (.ls 3 n))) List.length_set.symm) ?_
            refine Mx 131 (y:=.s (.one (.ls 3 b8.length))) (.s (.one (.ls 3 (b8.set b3.toNat ({u12 with end_:=v5.2.n_})).length))) R (congrArg (fun n=>AV.s (.one (.ls 3 n))) List.length_set.symm) ?_
            refine Mx 135 (y:=.s (.one (.ls 3 b8.length))) (.s (.one (.ls 3 (b8.set b3.toNat ({u12 with end_:=v5.2.n_})).length))) R (congrArg (fun n=>AV.s (.one (.ls 3 n))) List.length_set.symm) ?_
            refine Ak (Aq (rm 2 R (sv R (A4 R) ?_)))
            obtain ⟨u13,hu13,h⟩:=Ae h
            refine sv R (Et (f:=Bh) Art (fun _=>R) R R R R R hu13) ?_
            refine sv R (Ov (f:=Bh) (sz:=4) 0 A1v (fun _=>R) R R R R (Gq hu13).2 (Nbl R) R) ?_
            refine Fo R Tryz.underlying73 Axd R R (zJ.1 R) (by decide) ?_
            refine Pz [.box Zba,.box (EL.el s2.2.1),.arr 79 4 0 (s2.2.2.1.flatMap Bh),.arr 79 4 0 ((b8.set b3.toNat ({u12 with end_:=v5.2.n_})).flatMap Bh),.box (EL.el v5.1),.box (EL.el v5.2),.arr 79 4 0 ([u13].flatMap Bh)] R ?_
            obtain ⟨hb14,h⟩:=Cp h
            refine Tr (f:=Bh) (xs:=s2.2.2.1) (us:=[u13]) R Tryz.underlying73 Axd A0r (fun _=>R) R R (.one _ _ _ _ (.ls _ _ _ _ _ _ R (Au (f:=Bh) (fun _=>R) [u13]).symm)) R R R (.sl _ _ _ (Au (f:=Bh) (fun _=>R) _)) R R hb14 (by decide) ?_
            refine rm 1 R (Ak ?_)
            exact ⟨((s2.2.2.1++[u13]),(b8.set b3.toNat ({u12 with end_:=v5.2.n_}))),_,h,⟨R,R,R,R,R,R,R,trivial⟩,R⟩
           ·refine Bf (Ab ?_)
            exact ⟨(s2.2.2.1,b8),_,h,⟨R,R,R,R,R,R,R,trivial⟩,R⟩
          ·refine rm 5 R (Ak (Ci R (fun hx=>Bool.noConfusion hx) (fun _=>?_)))
           refine Bf (Ab ?_)
           exact ⟨(s2.2.2.1,b8),_,h,⟨R,R,R,R,R,R,R,trivial⟩,R⟩
         ·refine rm 10 R (Ak (Ci R (fun hx=>Bool.noConfusion hx) (fun _=>?_)))
          refine Bf (Ab ?_)
          exact ⟨(s2.2.2.1,b8),_,h,⟨R,R,R,R,R,R,R,trivial⟩,R⟩
        ·refine rm 18 R (Ak (Ci R (fun hx=>Bool.noConfusion hx) (fun _=>?_)))
         refine Bf (Ab ?_)
         exact ⟨(s2.2.2.1,b8),_,h,⟨R,R,R,R,R,R,R,trivial⟩,R⟩
      ·skip
       refine Aq (rm 1 R (sv R (A4 R) ?_))
       obtain ⟨u15,hu15,h⟩:=Ae h
       refine sv R (B8 (f:=Dx) Ah2 (fun _=>R) R R R R hu15) ?_
       refine sv R (B9 Tf R) (sv R (B6 ti3 R (.cp _) R) (sv R (C5 R R) (rm 1 R (ssI 74 h R (fun h=>?_) (fun h=>?_)))))
       ·refine rm 2 R (son R R R ?_)
        obtain ⟨u16,hu16,h⟩:=Ae h
        refine sv R (B8 (f:=Dx) Ah2 (fun _=>R) R R R R hu16) ?_
        refine son R R R (sv R (B9 Tf R) (son R R R (sv R (B6 ti3 R (.cp _) R) (son R R R (sv R (De R R) (rm 2 R (ssI 82 h R (fun h=>?_) (fun h=>?_))))))))
        ·refine son R R R (sv R (Ac Ais R) (son R R R (sv R (l1 Aw7 R R R) (son R R R (sv R (B4 R R) (rm 2 R (ssI 87 h R (fun h=>?_) (fun h=>?_))))))))
         ·refine rm 2 R (son R R R (sv R (Fu Art R R (Au (f:=Bh) (fun _=>R) _).symm) ?_))
          refine son R R R (sv R (Bt R R) (rm 1 R (Ak (ccI h R (fun h=>?_) (fun h=>?_)))))
          ·obtain ⟨u17,hu17,h⟩:=Ae h
           obtain ⟨u18,hu18,h⟩:=Ae h
           obtain ⟨hb19,h⟩:=Cp h
           obtain ⟨u20,hu20,h⟩:=Ae h
           refine Ig [14,17] [0,0,0,0,12,28,60,0,0,384,896,0,3968,8064,16380,32767,65535,131071] [[.box Zba,.box (EL.el s2.2.1),.arr 79 4 0 (s2.2.2.1.flatMap Bh),.arr 79 4 0 (b7.flatMap Bh),.box (EL.el v5.1),.box (EL.el v5.2)],[.box Zba,.box (EL.el s2.2.1),.arr 79 4 0 (s2.2.2.1.flatMap Bh),.arr 79 4 0 (b7.flatMap Bh),.box (EL.el v5.1),.box (EL.el v5.2)],[.box Zba,.box (EL.el s2.2.1),.arr 79 4 0 (s2.2.2.1.flatMap Bh),.arr 79 4 0 ((b7.set b3.toNat ({u20 with acts_:=(u17.acts_+([(F8.mk u18 v5.2)]:List F8).length)})).flatMap Bh),.box (EL.el v5.1),.box (EL.el v5.2)]] (by kernel_rfl) mixed (by kernel_rfl) (by decide) R R R R ?_
           refine emv R R (fun _=>A4 R) ?_
           refine emv R R (fun _=>A4 R) ?_
           refine ev (A7 0 R R) R R (A4 R) (ev (A7 0 R R) R R (A4 R) ?_)
           refine ev (A7 0 rfl rfl) rfl rfl (Et (f:=Bh) Art (fun _=>rfl) rfl rfl rfl (by first | rfl | exact List.length_set.symm) rfl hu17) ?_
           refine ev (A7 0 R R) R R (C3 Arq R R (Au (f:=Bh) (fun _=>R) _).symm) ?_
           refine ev (A7 0 R R) R R (Rs (f:=Bh) 3 A09 (fun _=>R) R R R R (Gq hu17).2 R) ?_
           refine ev (A7 0 R R) R R (A4 R) (ev (A7 0 R R) R R (A4 R) (ev (A7 0 R R) R R (B8 (f:=Dx) Ah2 (fun _=>R) R R R R hu18) ?_))
           refine ev (A7 0 R R) R R (Bz (ys:=[Ii6 u18.What,Ii6 u18.N,Ii6 u18.Token,Ii6 u18.Attempt,.b u18.RO,.b u18.Del,.sl u18.Key.length (u18.Key.flatMap eU8),.sl u18.Val.length (u18.Val.flatMap eU8),.sl u18.Rng.Lo.length (u18.Rng.Lo.flatMap eU8),.sl u18.Rng.Hi.length (u18.Rng.Hi.flatMap eU8),.b u18.Rng.Open]) A0q R (.cp _) R R) (ev (A7 0 R R) R R (lo Apr R R R) (ev (A7 0 R R) R R (A6 Ax3 Axv (Ax R (Ax R A1)) (.cons _ _ _ _ _ _ _ R R (Nbl R) (.cons _ _ _ _ _ _ _ R R (Nbl R) (.nil _)))) ?_))
           refine ed (A7 0 R R) R R (Zj (out:=([(F8.mk u18 v5.2)]:List F8).flatMap Acy) Tryz.underlying77 Avj (Ax R A1) (.cons _ _ _ _ _ _ _ R R (Nbl R) (.nil _)) R (by decide)) ?_
           refine ee (x:=.s (.one (.jk 152 16 (u17.acts_+([(F8.mk u18 v5.2)]:List F8).length)))) 0 R R R R R (fun ζ=>?_) ?_
           ·refine Azs hJ R Tryz.underlying77 Avj A1p R R (.one _ _ _ _ (.id _ R)) (.sl _ _ _ (Au (f:=Acy) (fun _=>R) _)) hb19 ?_
            exact Sv
           refine ev (A7 1 rfl rfl) rfl rfl (Et (f:=Bh) Art (fun _=>rfl) rfl rfl rfl (by first | rfl | exact List.length_set.symm) rfl hu20) ?_
           refine ev (A7 1 R R) R R (C3 Arq R R (Au (f:=Bh) (fun _=>R) _).symm) ?_
           refine ee0 1 R R R R (fun ζ=>?_) ?_
           ·refine Zw (f:=Bh) (u':={u20 with acts_:=(u17.acts_+([(F8.mk u18 v5.2)]:List F8).length)}) (sz:=4) 3 A1n (fun _=>rfl) rfl rfl rfl rfl (by first | rfl | exact List.length_set.symm) rfl rfl (zJ.1 rfl) (Gq hu20).2 (Nbl rfl) rfl ?_
            exact Sv
           refine Apz 5 (y:=.s (.one (.ls 3 b7.length))) (.s (.one (.ls 3 (b7.set b3.toNat ({u20 with acts_:=(u17.acts_+([(F8.mk u18 v5.2)]:List F8).length)})).length))) R (congrArg (fun n=>AV.s (.one (.ls 3 n))) List.length_set.symm) ?_
           refine Apz 89 (y:=.s (.one (.ls 3 b7.length))) (.s (.one (.ls 3 (b7.set b3.toNat ({u20 with acts_:=(u17.acts_+([(F8.mk u18 v5.2)]:List F8).length)})).length))) R (congrArg (fun n=>AV.s (.one (.ls 3 n))) List.length_set.symm) ?_
           refine Apz 93 (y:=.s (.one (.ls 3 b7.length))) (.s (.one (.ls 3 (b7.set b3.toNat ({u20 with acts_:=(u17.acts_+([(F8.mk u18 v5.2)]:List F8).length)})).length))) R (congrArg (fun n=>AV.s (.one (.ls 3 n))) List.length_set.symm) ?_
           refine Apz 95 (y:=.s (.one (.ls 3 b7.length))) (.s (.one (.ls 3 (b7.set b3.toNat ({u20 with acts_:=(u17.acts_+([(F8.mk u18 v5.2)]:List F8).length)})).length))) R (congrArg (fun n=>AV.s (.one (.ls 3 n))) List.length_set.symm) ?_
           refine Aas (Ab ?_)
           exact ⟨(b7.set b3.toNat ({u20 with acts_:=(u17.acts_+([(F8.mk u18 v5.2)]:List F8).length)})),_,h,⟨R,R,R,R,R,R,R,R,R,trivial⟩,R⟩
          ·refine Bf (Ab ?_)
           exact ⟨b7,_,h,⟨R,R,R,R,R,R,R,R,R,trivial⟩,R⟩
         ·refine rm 5 R (Ak (Ci R (fun hx=>Bool.noConfusion hx) (fun _=>?_)))
          refine Bf (Ab ?_)
          exact ⟨b7,_,h,⟨R,R,R,R,R,R,R,R,R,trivial⟩,R⟩
        ·refine rm 10 R (Ak (Ci R (fun hx=>Bool.noConfusion hx) (fun _=>?_)))
         refine Bf (Ab ?_)
         exact ⟨b7,_,h,⟨R,R,R,R,R,R,R,R,R,trivial⟩,R⟩
       ·refine rm 18 R (Ak (Ci R (fun hx=>Bool.noConfusion hx) (fun _=>?_)))
        refine Bf (Ab ?_)
        exact ⟨b7,_,h,⟨R,R,R,R,R,R,R,R,R,trivial⟩,R⟩
     ·skip
      refine Aq (rm 1 R (sv R (A4 R) ?_))
      obtain ⟨u21,hu21,h⟩:=Ae h
      refine sv R (B8 (f:=Dx) Ah2 (fun _=>R) R R R R hu21) ?_
      refine sv R (B9 Tf R) (sv R (B6 ti3 R (.cp _) R) (sv R (De R R) (rm 1 R (ssI 54 h R (fun h=>?_) (fun h=>?_)))))
      ·refine son R R R (sv R (Ac Ais R) (son R R R (sv R (l1 Aw7 R R R) (son R R R (sv R (B4 R R) (rm 1 R (Ak (ccI h R (fun h=>?_) (fun h=>?_)))))))))
       ·refine Aq (rm 1 R (fl Aq9 ti3 R R R R R R (sv R (Ac Pr R) (fl Q7 ti3 R R R R R R (sv R (A6 A06 A0x (Ax R (Ax R A1)) (.cons _ _ _ _ _ _ _ R R (Nbl R) (.cons _ _ _ _ _ _ _ R R (Nbl R) (.nil _)))) ?_)))))
        refine Ah4 65 R (by (repeat' first | exact Ic.nil _ | apply Ic.cons | apply H6.one | apply H6.agg | exact Cz.nilj 152 16 | exact Cz.ls _ _ _ _ _ _ R (Au (f:=Bh) (fun _=>R) _).symm | exact Cz.id _ R | exact Co.nil _ | apply Co.cons)) ?_
        refine Fo R Tryz.underlying73 Axd R R (zJ.1 R) (by decide) ?_
        refine Pz [.box Zba,.box (EL.el s2.2.1),.arr 79 4 0 (s2.2.2.1.flatMap Bh),.arr 79 4 0 (s2.2.2.2.flatMap Bh),.box (EL.el v5.1),.box (EL.el v5.2),.arr 79 4 0 ([(B1.mk v5.2.n_ s2.2.1.Store.Ts 0 0)].flatMap Bh)] R ?_
        obtain ⟨hb22,h⟩:=Cp h
        refine Tr (f:=Bh) (xs:=s2.2.2.2) (us:=[(B1.mk v5.2.n_ s2.2.1.Store.Ts 0 0)]) R Tryz.underlying73 Axd A0r (fun _=>R) R R (.one _ _ _ _ (.ls _ _ _ _ _ _ R (Au (f:=Bh) (fun _=>R) [(B1.mk v5.2.n_ s2.2.1.Store.Ts 0 0)]).symm)) R R R (.sl _ _ _ (Au (f:=Bh) (fun _=>R) _)) R R hb22 (by decide) ?_
        refine rm 1 R (Ak ?_)
        exact ⟨(s2.2.2.2++[(B1.mk v5.2.n_ s2.2.1.Store.Ts 0 0)]),_,h,⟨R,R,R,R,R,R,R,R,R,trivial⟩,R⟩
       ·refine Bf (Ab ?_)
        exact ⟨s2.2.2.2,_,h,⟨R,R,R,R,R,R,R,R,R,trivial⟩,R⟩
      ·refine rm 4 R (Ak (Ci R (fun hx=>Bool.noConfusion hx) (fun _=>?_)))
       refine Bf (Ab ?_)
       exact ⟨s2.2.2.2,_,h,⟨R,R,R,R,R,R,R,R,R,trivial⟩,R⟩
    ·skip
     refine Aq (fl Ais Aw7 R R R R R R (sv R (B4 R R) (rm 1 R (ssI 43 h R (fun h=>?_) (fun h=>?_)))))
     ·refine son R R R (sv R (Ac Yh R) (son R R R (sv R (l1 ti3 R R R) (son R R R (sv R (B4 R R) (rm 1 R (Ak (ccI h R (fun h=>?_) (fun h=>?_)))))))))
      ·refine Da (As (Bj (Ab (Aq (rm 1 R (sv R (Bo R R) (rm 1 R (Ak ?_))))))))
       obtain rfl:=SJ h
       exact ⟨(n2,((wI (s2.1+1)),s2.2.1,s2.2.2.1,s2.2.2.2)),_,hk2,⟨R,R,R,R,R,R,trivial⟩,R,zG _⟩
      ·refine Bf (Ab ?_)
       exact ⟨(),_,h,⟨R,R,R,R,R,R,R,R,R,trivial⟩,R⟩
     ·refine rm 4 R (Ak (Ci R (fun hx=>Bool.noConfusion hx) (fun _=>?_)))
      refine Bf (Ab ?_)
      exact ⟨(),_,h,⟨R,R,R,R,R,R,R,R,R,trivial⟩,R⟩
   ·skip
    refine ccI h R (fun h=>?_) (fun h=>?_)
    ·refine Aq (rm 1 R (sv R (A4 R) ?_))
     obtain ⟨u23,hu23,h⟩:=Ae h
     refine sv R (B8 (f:=Dx) Ah2 (fun _=>R) R R R R hu23) ?_
     refine sv R (B9 Auv R) (sv R (B6 ti3 R (.cp _) R) (sv R (As5 R R) (rm 1 R (sv R (Fu Art R R (Au (f:=Bh) (fun _=>R) _).symm) ?_))))
     obtain ⟨hz24,h⟩:=Cp h
     refine sv R (As6 R R hz24) (rm 1 R (Ak ?_))
     exact ⟨((wI ((BitVec.ofInt 64 u23.N &&& BitVec.ofInt 64 65535).toNat:Int)).tmod (s2.2.2.2.length:Int)),_,h,⟨R,R,R,R,R,R,R,trivial⟩,R⟩
    ·refine Bf (Ab ?_)
     exact ⟨0,_,h,⟨R,R,R,R,R,R,R,trivial⟩,R⟩
  ·refine Da (As (As (Bj (Ab ?_))))
   obtain rfl:=SJ h
   obtain rfl:_=x2:=hk2
   exact ⟨(s2.2.1,s2.2.2.1),_,ho2,⟨R,R,R,trivial⟩,R⟩
def Fj (a0:Bu):Option (List B3) :=
 (He a0 (Bg.mk ([]:List UInt8) ([]:List UInt8) true) a0.Ts (a0.Keys.length:Int)).bind fun v1=>some v1
theorem Oj {a0:Bu} {r:(List B3)} (h:Fj a0=some r):Br Tryz.prog 21 [.agg (EL.el a0)] (·=.s (.one (.sl r.length (r.flatMap B7)))):=by
 unfold Fj at h
 refine A5 Tryz.func21 R (nt:=11) R (Nbl R) ?_
 intro w0 S0
 refine csr (F4 R R (rm 1 R (Ak (csr (ld Vs R R R R (sv R (A6 Ax1 A0e (Ax R A1) (.cons _ _ _ _ _ _ _ R R (Nbl R) (.nil _))) (fl Q7 ti3 R R R R R R (fl Qz Abe R R R R R R (sv R (Aw S7 R) ?_)))))))))
 obtain ⟨v1,hv1,h⟩:=Ae h
 refine Ba R A0a (Aa R (Aa R (Aa R (Aa R Af)))) (Ip R) (Tc hv1) (rm 1 R (Ak (Bs ?_)))
 obtain rfl:=SJ h
 exact dnT R R R R
def Ru (b1:Unit):Option Bool :=
 some true
def Nt (a0:List B3) (a1:List B3) (s2:Int):Option (LR (Int) (Unit) (Bool)) :=
 if (decide (s2<(a0.length:Int))) then ((idx a0 s2).bind fun u3=>(idx a1 s2).bind fun u4=>if (!(u3.Key == u4.Key)) then (some (.ret false)) else ((idx a0 s2).bind fun u5=>(idx a1 s2).bind fun u6=>if (!(u5.Val == u6.Val)) then (some (.ret false)) else (some (.cont (wI (s2+1)))))) else (some (.brk ()))
def Pi (a0:List B3) (a1:List B3):Option Bool :=
 if (!decide ((a0.length:Int)=(a1.length:Int))) then (some false) else ((Lj (Nt a0 a1) fuel 0).bind fun x=>match x with | .inl r=>some r | .inr e7=>Ru e7)
theorem W2 {a0:List B3} {a1:List B3} {r:Bool} (h:Pi a0 a1=some r):Br Tryz.prog 20 [.one (.sl a0.length (a0.flatMap B7)),.one (.sl a1.length (a1.flatMap B7))] (·=.s (.one (.b r))):=by
 unfold Pi at h
 refine A5 Tryz.func20 R (nt:=45) R (Nbl R) ?_
 intro w0 S0
 refine csr (rm 1 R (Ak (Bl (csr (rm 1 R (sv R (Aw Ahz R) (rm 1 R (sv R (Aw Ahz R) (sv R (Db R R) (Ak (ccI h R (fun h=>?_) (fun h=>?_))))))))))))
 ·refine csr (rm 1 R (Ak (Bs (Ag ?_))))
  obtain rfl:=SJ h
  exact dnT R R R R
 ·refine Bf (Ab (Bl (csr (rm 1 R (Ak (cj (Unit) (fun b1=>[]) (fun b1=>[]) (fun b1=>Ru b1=some r) (fun _=>R) (fun b1 h=>?_) ?_))))))
  ·unfold Ru at h
   refine csr (rm 1 R (Ak (Bs ?_)))
   obtain rfl:=SJ h
   exact dnT R R R R
  ·skip
   refine Bq ?_
   obtain ⟨x2,hx2,ho2⟩:=Ae h
   refine lpo (G:=Nat × (Int)) (fun g=>[(0,.s (.one (.sl a0.length (a0.flatMap B7)))),(1,.s (.one (.sl a1.length (a1.flatMap B7)))),(5,.s (.one (Ii6 g.2)))]) (fun g=>[]) (fun g=>Lj (Nt a0 a1) g.1 g.2=some x2) (fun g=>g.1) (fuel,0) hx2 ⟨R,R,R,trivial⟩ [] R (fun _=>R) ?_
   clear hx2 h
   rintro ⟨n2,s2⟩ h
   obtain ⟨n2,y2,rfl,h,hk2⟩:=Es h
   unfold Nt at h
   refine Bl (csr (rm 2 R (sv R (Aw Ahz R) (sv R (Bt R R) (Ak (ccI h R (fun h=>?_) (fun h=>?_)))))))
   ·refine Bf (Ab (Bl (Bq (Bl ?_))))
    refine Z3 mixed (by kernel_rfl) ?_
    refine dv R (A4 R) (dv R (A4 R) ?_)
    obtain ⟨u3,hu3,h⟩:=Ae h
    refine dv R (B8 (f:=B7) Ahz (fun _=>R) R R R R hu3) ?_
    refine dv R (B9 Aaf R) (dv R (B6 Mz R (.cp _) R) (dv R (Q4 (l:=u3.Key) Tryz.underlying56 Tryz.underlying5 Tryz.underlying9 R R R) (dv R (A4 R) (dv R (A4 R) ?_))))
    obtain ⟨u4,hu4,h⟩:=Ae h
    refine dv R (B8 (f:=B7) Ahz (fun _=>R) R R R R hu4) ?_
    refine dv R (B9 Aaf R) (dv R (B6 Mz R (.cp _) R) (dv R (Q4 (l:=u4.Key) Tryz.underlying56 Tryz.underlying5 Tryz.underlying9 R R R) (dv R (Wm R R) (dv R (A4 R) (Tz 30 R (fun hc=>?_) (fun hc=>?_))))))
    ·replace h:=Su hc h
     clear hc
     refine G7 R R R R (G7 R R R R (G7 R R R R (G7 R R R R (G7 R R R R (G7 R R R R (G7 R R R R (G7 R R R R (G7 R R R R (G7 R R R R (G7 R R R R (G7 R R R R (G7 R R R R (dv R (Er R R) (Zq (Ab (Ci R (fun _=>?_) (fun hx=>Bool.noConfusion hx)))))))))))))))))
     refine csr (rm 1 R (Ak (Bs (Az (Ag (Ag (Az (Ag ?_))))))))
     obtain rfl:=SJ h
     obtain rfl:Sum.inl _=x2:=hk2
     replace ho2:some _=some _:=ho2
     obtain rfl:=zD ho2
     exact dnT R R R R
    ·replace h:=S6 hc h
     clear hc
     refine dvg R R R (A4 R) (dvg R R R (A4 R) ?_)
     obtain ⟨u5,hu5,h⟩:=Ae h
     refine dvg R R R (B8 (f:=B7) Ahz (fun _=>R) R R R R hu5) ?_
     refine dvg R R R (B9 Am3 R) (dvg R R R (B6 Mz R (.cp _) R) (dvg R R R (Q4 (l:=u5.Val) Tryz.underlying56 Tryz.underlying5 Tryz.underlying9 R R R) (dvg R R R (A4 R) (dvg R R R (A4 R) ?_))))
     obtain ⟨u6,hu6,h⟩:=Ae h
     refine dvg R R R (B8 (f:=B7) Ahz (fun _=>R) R R R R hu6) ?_
     refine dvg R R R (B9 Am3 R) (dvg R R R (B6 Mz R (.cp _) R) (dvg R R R (Q4 (l:=u6.Val) Tryz.underlying56 Tryz.underlying5 Tryz.underlying9 R R R) (dvg R R R (Wm R R) (dv R (Hq R R) (Zq (Ab (ccI h R (fun h=>?_) (fun h=>?_))))))))
     ·refine csr (rm 1 R (Ak (Bs (Az (Ag (Ag (Az (Ag ?_))))))))
      obtain rfl:=SJ h
      obtain rfl:Sum.inl _=x2:=hk2
      replace ho2:some _=some _:=ho2
      obtain rfl:=zD ho2
      exact dnT R R R R
     ·refine Bf (Ap (Ab (Aq (rm 1 R (sv R (Bo R R) (rm 1 R (Ak ?_)))))))
      obtain rfl:=SJ h
      exact ⟨(n2,(wI (s2+1))),_,hk2,⟨R,R,R,trivial⟩,R,zG _⟩
   ·refine Da (As (As (Bj (Ab ?_))))
    obtain rfl:=SJ h
    obtain rfl:_=x2:=hk2
    exact ⟨(),_,ho2,trivial,R⟩
def G3 (v1:Bool) (b6:Ah × (List Av)) (v10:Ah × Int × Int) (b13:Unit):Option Bool :=
 if v1 then (some (decide ((v10.1.Open.length:Int)=(wI ((b6.1.Open.length:Int)-1))))) else (some false)
def Jz (b6:Ah × (List Av)) (v10:Ah × Int × Int) (s14:Int) (b15:Bool):Option (LR (Int) (Unit) (Bool)) :=
 (idx b6.2 s14).bind fun u16=>(Ez v10.1.Store u16.Key v10.1.Store.Ts).bind fun v17=>if b15 then ((idx b6.2 s14).bind fun u18=>if (!(v17.2 == (!u18.Del))) then (some (.ret false)) else ((idx b6.2 s14).bind fun u19=>if (!(v17.1 == u19.Val)) then (some (.ret false)) else (some (.cont (wI (s14+1)))))) else (some (.cont (wI (s14+1))))
def Fe (b6:Ah × (List Av)) (s14:Int) (s20:Bool × Int):Option (LB (Bool × Int) (Bool)) :=
 if (decide (s20.2<(b6.2.length:Int))) then (if s20.1 then ((idx b6.2 s20.2).bind fun u21=>(idx b6.2 s14).bind fun u22=>some (.cont ((!(u21.Key == u22.Key)),(wI (s20.2+1))))) else (some (.cont (false,(wI (s20.2+1)))))) else (some (.brk s20.1))
def G5 (b6:Ah × (List Av)) (v10:Ah × Int × Int) (s14:Int):Option (LR (Int) (Unit) (Bool)) :=
 if (decide (s14<(b6.2.length:Int))) then ((Ct (Fe b6 s14) fuel (true,(wI (s14+1)))).bind fun e23=>Jz b6 v10 s14 e23) else (some (.brk ()))
def Lb (a2:Bool) (v1:Bool) (v4:(List B3)) (v5:Ah × Int × Int) (b6:Ah × (List Av)):Option Bool :=
 if a2 then ((M6 b6.1 v5.2.1).bind fun v7=>if v1 then (if (decide (v7.2=0)) then ((Fj v7.1.Store).bind fun v8=>(Pi v8 v4).bind fun v9=>some v9) else (some false)) else (some false)) else ((Hf b6.1 v5.2.1).bind fun v10=>if (!decide (v10.2.2=0)) then (if v1 then ((Fj v10.1.Store).bind fun v11=>(Pi v11 v4).bind fun v12=>some v12) else (some false)) else ((Lj (G5 b6 v10) fuel 0).bind fun x=>match x with | .inl r=>some r | .inr e24=>G3 v1 b6 v10 e24))
def Jv (a1:List Av) (v1:Bool) (v5:Ah × Int × Int) (s25:Int × Ah × (List Av)) (b26:Unit):Option (LR (Int × Ah × (List Av)) (Ah × (List Av)) (Bool)) :=
 (idx a1 s25.1).bind fun u27=>(Mv s25.2.1 v5.2.1 u27).bind fun v28=>if (decide (v28.2=8)) then (some (.ret v1)) else (if (decide (v28.2=0)) then ((idx a1 s25.1).bind fun u29=>if (s25.2.2.length+[u29].length)*56≤140737488355328 then (some (.cont ((wI (s25.1+1)),v28.1,(s25.2.2++[u29])))) else none) else (some (.cont ((wI (s25.1+1)),s25.2.1,s25.2.2))))
def E6 (a1:List Av) (v1:Bool) (v5:Ah × Int × Int) (s25:Int × Ah × (List Av)):Option (LR (Int × Ah × (List Av)) (Ah × (List Av)) (Bool)) :=
 if (decide (s25.1<(a1.length:Int))) then ((idx a1 s25.1).bind fun u31=>if (decide (50<(u31.Key.length:Int))) then (some (.ret v1)) else ((idx a1 s25.1).bind fun u32=>if (decide (100<(u32.Val.length:Int))) then (some (.ret v1)) else (Jv a1 v1 v5 s25 ()))) else (some (.brk (s25.2.1,s25.2.2)))
def K7 (a0:List Fq) (a1:List Av) (a2:Bool) (v1:Bool) (b2:Unit):Option Bool :=
 (Nv a0).bind fun v3=>(Fj v3.1.Store).bind fun v4=>(Jm v3.1 1073741824 1 false).bind fun v5=>if (!decide (v5.2.2=0)) then (some v1) else ((Lj (E6 a1 v1 v5) fuel (0,v5.1,([]:List Av))).bind fun x=>match x with | .inl r=>some r | .inr e33=>Lb a2 v1 v4 v5 e33)
end Go.Proofs.YtkblaobhhoebaaaGreat.Abs
