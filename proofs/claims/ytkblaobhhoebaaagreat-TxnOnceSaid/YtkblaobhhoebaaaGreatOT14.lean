/-
 t
-/
import Derived.Test.YtkblaobhhoebaaaGreatOT14b
set_option linter.unusedVariables false
set_option linter.unusedSimpArgs false
namespace Go.Proofs.YtkblaobhhoebaaaGreat.Abs
open Go.RowKit Go.Proofs
set_option maxRecDepth 100000
def Gw (a0:List (List UInt8)) (a1:List UInt8):Option Int :=
 (Lj (Dr a0 a1) fuel 0).bind fun x=>match x with | .inl r=>some r | .inr e5=>Fg e5
theorem Q7 {a0:List (List UInt8)} {a1:List UInt8} {r:Int} (h:Gw a0 a1=some r):De Tryz.prog 147 [.arr 56 1 0 (a0.flatMap (eL eU8))] [.one (.ls 0 a0.length),.one (.fn 148 [.sl a1.length (a1.flatMap eU8)] [])] (fun y m'=>y=.s (.one (Ii6 r))∧m'=[.arr 56 1 0 (a0.flatMap (eL eU8))]):=by
 unfold Gw at h
 refine Da Tryz.func147 R (nt:=19) R (Nbl R) ?_
 intro w0 S0 X0 H0
 refine csr (rm 1 R (Ai (Br (csr (rm 1 R (sv R (Mf Sn R R (A1 (f:=(eL eU8)) (fun _=>R) _).symm) ?_))))))
 refine rm 1 R (Ai (Dt (Unit) (fun b1=>[]) (fun b1=>[.arr 56 1 0 (a0.flatMap (eL eU8))]) (fun b1=>Fg b1=some r) (fun _ _=>A5 R) (fun _ _=>Ap R) (fun _ _=>Nbl R) (fun b1 h=>?_) ?_))
 ·unfold Fg at h
  refine csr (rm 1 R (Ai (Bv ?_)))
  obtain rfl:=SJ h
  exact ⟨Or.inr R,_,[0],[.one (Ii6 (-1))],[.arr 56 1 0 (a0.flatMap (eL eU8))],(Ad (rt R) Ah),R,R,⟨by decide,R⟩,R,R,⟨R,R⟩⟩
 ·skip
  refine Bu ?_
  obtain ⟨x2,hx2,ho2⟩:=Ae h
  refine B6 (G:=Nat × (Int)) (fun g=>[(0,.s (.one (.ls 0 a0.length))),(1,.s (.one (.fn 148 [.sl a1.length (a1.flatMap eU8)] []))),(7,.s (.one (Ii6 (a0.length:Int)))),(8,.s (.one (Ii6 g.2)))]) (fun g=>[.arr 56 1 0 (a0.flatMap (eL eU8))]) (fun g=>Lj (Dr a0 a1) g.1 g.2=some x2) (fun g=>g.1) (fuel,0) hx2 ⟨R,R,R,R,trivial⟩ [] R (fun _ _=>A5 R) (fun _ _=>Ap R) (fun _ _=>Nbl R) ?_
  clear hx2 h
  rintro ⟨n2,s2⟩ h
  obtain ⟨n2,y2,rfl,h,hk2⟩:=Ff h
  unfold Dr at h
  refine csr (sv R (Bw R R) (Ai (Br (ccI h R (fun h=>?_) (fun h=>?_)))))
  ·refine Bj (Ab (Br (Bu (csr (rm 2 R (Ai (csr (rm 2 R (sv R (Bc R) ?_)))))))))
   obtain ⟨u3,hu3,h⟩:=Ae h
   refine sv R (I4 (f:=(eL eU8)) Sn (fun _=>R) R R R R R hu3) ?_
   refine sv R (Agh (f:=(eL eU8)) 0 Nr (fun _=>R) R R R R (L6 hu3).2 R) ?_
   obtain ⟨v4,hv4,h⟩:=Ae h
   refine sd R (Sq As5 (.fn _ _ _ _ R) (Aa R Af) R (Nm hv4)) (Ai (ccI h R (fun h=>?_) (fun h=>?_)))
   ·refine csr (rm 2 R (Ai (Bv (Ay (Ag (Ag (Ay (Ag ?_))))))))
    obtain rfl:=SJ h
    obtain rfl:Sum.inl _=x2:=hk2
    replace ho2:some _=some _:=ho2
    obtain rfl:=Option.some.inj ho2
    exact ⟨Or.inr R,_,[0],[.one (Ii6 s2)],[.arr 56 1 0 (a0.flatMap (eL eU8))],(Ad (rt R) Ah),R,R,⟨by decide,R⟩,R,R,⟨R,R⟩⟩
   ·refine Bj (Ar (Ab (As (sv R (Bs R R) (rm 1 R (Ai ?_))))))
    obtain rfl:=SJ h
    exact ⟨(n2,(wI (s2+1))),_,hk2,⟨R,R,R,R,trivial⟩,R,Nat.lt_succ_self _⟩
  ·refine Di (Au (Au (Bn (Ab ?_))))
   obtain rfl:=SJ h
   obtain rfl:_=x2:=hk2
   exact ⟨(),_,ho2,trivial,R⟩
def M6 (a0:List (List UInt8)) (a1:List UInt8):Option (Int × Bool) :=
 (Gw a0 a1).bind fun v1=>if (decide (v1<0)) then (some ((a0.length:Int),false)) else ((idx a0 v1).bind fun u2=>(Dl u2 a1).bind fun v3=>some (v1,v3))
theorem X1 {a0:List (List UInt8)} {a1:List UInt8} {r:Int × Bool} (h:M6 a0 a1=some r):De Tryz.prog 69 [.arr 56 1 0 (a0.flatMap (eL eU8))] [.one (.ls 0 a0.length),.one (.sl a1.length (a1.flatMap eU8))] (fun y m'=>y=.tup [.one (Ii6 r.1),.one (.b r.2)]∧m'=[.arr 56 1 0 (a0.flatMap (eL eU8))]):=by
 unfold M6 at h
 refine Da Tryz.func69 R (nt:=22) R (Nbl R) ?_
 intro w0 S0 X0 H0
 refine csr (rm 2 R (Ai (csr (rm 2 R (sv R (S8 (Uq R R P5) P5) ?_)))))
 obtain ⟨v1,hv1,h⟩:=Ae h
 refine Ho (x':=.s (.one (Ii6 v1))) (M':=[.arr 56 1 0 (a0.flatMap (eL eU8))]) [0] R At0 (.func _) (Aa R (Aa R Af)) (Q7 hv1) R R (by decide) R R R ?_
 refine rm 1 R (Ai (Br (csr (rm 1 R (sv R (Bw R R) (Ai (ccI h R (fun h=>?_) (fun h=>?_))))))))
 ·refine csr (rm 1 R (sv R (Mf Sn R R (A1 (f:=(eL eU8)) (fun _=>R) _).symm) ?_))
  refine rm 2 R (Ai (Bv (Ag ?_)))
  obtain rfl:=SJ h
  exact ⟨Or.inr R,_,[0],[.one (Ii6 (a0.length:Int)),.one (.b false)],[.arr 56 1 0 (a0.flatMap (eL eU8))],(Ad (rt R) (Ad (rt R) Ah)),R,R,⟨by decide,R⟩,R,R,⟨R,R⟩⟩
 ·refine Bj (Ab (csr (rm 2 R (sv R (Bc R) ?_))))
  obtain ⟨u2,hu2,h⟩:=Ae h
  refine sv R (I4 (f:=(eL eU8)) Sn (fun _=>R) R R R R R hu2) ?_
  refine sv R (Agh (f:=(eL eU8)) 0 Nr (fun _=>R) R R R R (L6 hu2).2 R) ?_
  refine sv R (Bc R) ?_
  obtain ⟨v3,hv3,h⟩:=Ae h
  refine Bb R Art (Aa R (Aa R Af)) (Ao R) (Nx hv3) (rm 2 R (Ai (Bv ?_)))
  obtain rfl:=SJ h
  exact ⟨Or.inr R,_,[0],[.one (Ii6 v1),.one (.b v3)],[.arr 56 1 0 (a0.flatMap (eL eU8))],(Ad (rt R) (Ad (rt R) Ah)),R,R,⟨by decide,R⟩,R,R,⟨R,R⟩⟩
section
open Go.Lib
set_option maxHeartbeats 4000000 in
theorem Ajh (b n c vb vc:Nat) (vs:List Value) (w:World) (i0:TypeInfo) (hi0:Tryz.prog.info? 56=some i0) (hs0:i0.size=1) (hroom:n+1≤c) (hc63:c≤9223372036854775807)
  (hvl:vs.length=1) (hsp:∀ j,j<1→(w.cell? ⟨b,n*1+j,none⟩).isSome=true) (hfz:∀ j,j<1→w.frozen? ⟨b,n*1+j,none⟩=false)
  (hvs:∀ j v,vs[j]? = some v→w.cell? ⟨vb,j,none⟩=some v) (h1v:∀ v ∈ vs,v.oneCell'=true) :
  Calls Tryz.prog 255 #[.slice (some ⟨b,0,none⟩) n c,.int .i64 n,.slice (some ⟨vb,0,none⟩) 1 vc] w fun e w' =>
   e=.returned (.slice (some ⟨b,0,none⟩) (n+1) c)∧w'=w.setCells b (n*1) vs:=by
 have hsrc:_root_.Go.Src Tryz.prog i0.size 25 (.slice (some ⟨vb,0,none⟩) 1 vc) 1 vs w:=by
  rw [hs0]
  exact _root_.Go.Src.ofSlice w Tryz.underlying25 ⟨vb,0,none⟩ 1 vc vs (by omega) (fun j u hj=>by rw [Addr.add_lit,Nat.zero_add];exact hvs j u hj) h1v
 go_enter Tryz.func255,Tryz.ntmps255
 go_wp2_with (at_builtin;refine wpList_append_room_src _ rfl _ _ 25 25 rfl 56 i0 Tryz.underlying25 hi0 b 0 n c rfl _ rfl 1 vs hsrc hroom (by rw [hvl,hs0,Nat.zero_add];exact hsp) (by rw [hvl,hs0,Nat.zero_add];exact hfz) ?_)
 go_ret
 refine ⟨R,?_⟩
 first | rfl | (simp;done) | (simp [hs0];done)
set_option maxHeartbeats 4000000 in
theorem Adf (b n c vb vc:Nat) (cs vs:List Value) (w:World) (i0:TypeInfo) (hi0:Tryz.prog.info? 56=some i0) (hz0:i0.zero=some (.slice none 0 0)) (hs0:i0.size=1) (hnc:n≤c) (hroom:c<n+1) (hn63:n+1≤9223372036854775807)
  (hfit:Builtin.nextslicecap (n+1) c*i0.bytes≤281474976710656) (hcl:cs.length=n*1) (hvl:vs.length=1)
  (hcs:∀ j v,cs[j]? = some v→w.cell? ⟨b,j,none⟩=some v) (hvs:∀ j v,vs[j]? = some v→w.cell? ⟨vb,j,none⟩=some v) (h1v:∀ v ∈ vs,v.oneCell'=true) :
  Calls Tryz.prog 255 #[.slice (some ⟨b,0,none⟩) n c,.int .i64 n,.slice (some ⟨vb,0,none⟩) 1 vc] w fun e w' =>
   e=.returned (.slice (some ⟨w.heap.size,0,none⟩) (n+1) (grownCap w (n+1) c 56)) ∧
   w'=w.drew.alloc (.cells ((cs++vs).toArray++Builtin.zeroCells (Value.cells (.slice none 0 0)) (grownCap w (n+1) c 56-(n+1))) 56):=by
 have hsrc:_root_.Go.Src Tryz.prog i0.size 25 (.slice (some ⟨vb,0,none⟩) 1 vc) 1 vs w:=by
  rw [hs0]
  exact _root_.Go.Src.ofSlice w Tryz.underlying25 ⟨vb,0,none⟩ 1 vc vs (by omega) (fun j u hj=>by rw [Addr.add_lit,Nat.zero_add];exact hvs j u hj) h1v
 have hold:(Builtin.firstCells i0.size n (.slice (some ⟨b,0,none⟩) n c)).run Tryz.prog w.drew=.ok cs.toArray w.drew:=by
  rw [hs0]
  exact run_firstCells_some w.drew 1 n ⟨b,0,none⟩ n c cs (by omega) (fun j v hj=>by rw [Addr.add_lit,Nat.zero_add];exact hcs j v hj)
 have hrun:∀ ty,(Builtin.append_ #[25,25] ty #[.slice (some ⟨b,0,none⟩) n c,.slice (some ⟨vb,0,none⟩) 1 vc]).run Tryz.prog w=.ok (.slice (some ⟨w.heap.size,0,none⟩) (n+1) (grownCap w (n+1) c 56)) (w.drew.alloc (.cells ((cs++vs).toArray++Builtin.zeroCells (Value.cells (.slice none 0 0)) (grownCap w (n+1) c 56-(n+1))) 56)):=fun ty =>
  run_append_grow_src w 25 25 ty 56 i0 _ Tryz.underlying25 hi0 hz0 (some ⟨b,0,none⟩) n c cs hold _ 1 vs hsrc hroom (by omega) hfit
 go_enter Tryz.func255,Tryz.ntmps255
 go_wp2_with (at_builtin;refine Lib.wpList_append_run _ rfl _ _ _ _ rfl _ _ rfl rfl _ _ (hrun _) ?_)
 all_goals (go_ret;first | exact ⟨rfl,rfl⟩ | exact ⟨rfl,by simp [Value.cells]⟩)
set_option maxHeartbeats 4000000 in
theorem Adb (b n c i vb vc:Nat) (cs vs:List Value) (w:World) (hs0:(Tryz.prog.info? 56).map (·.size)=some 1) (hi:i<n) (hroom:n+1≤c) (hc63:c≤9223372036854775807) (hvb:vb≠b)
  (hcl:cs.length=n*1) (hvl:vs.length=1)
  (hcs:∀ j v,cs[j]? = some v→w.cell? ⟨b,j,none⟩=some v) (hsp:∀ j,j<(n+1)*1→(w.cell? ⟨b,j,none⟩).isSome=true) (hfz:∀ j,j<(n+1)*1→w.frozen? ⟨b,j,none⟩=false)
  (hvs:∀ j v,vs[j]? = some v→w.cell? ⟨vb,j,none⟩=some v) (h1c:∀ v ∈ cs,v.oneCell'=true) (h1v:∀ v ∈ vs,v.oneCell'=true)
  (tA tB:TypeId) (kA kB:Nat) (hsa:w.shape? vb=some (tA,kA)) (hsb:w.shape? b=some (tB,kB)) (hkB:kB≠0) (hfa:w.frozen? ⟨vb,0,none⟩=false) (hfe:w.frozen? ⟨vb,kA,none⟩=false) :
  Calls Tryz.prog 255 #[.slice (some ⟨b,0,none⟩) n c,.int .i64 i,.slice (some ⟨vb,0,none⟩) 1 vc] w fun e w' =>
   e=.returned (.slice (some ⟨b,0,none⟩) (n+1) c)∧w'=(w.drew.setCells b (i+1) (cs.drop (i))).setCells b (i) vs:=by
 have hz2:¬ ((i:Int)=(n:Int)):=by omega
 have hz3:¬ ((c:Int)<(n:Int)+1):=by omega
 have mixed:Tryz.prog.follows .mixedOrders=true:=by kernel_rfl
 have hov:∀ lb cb,(callFunc 271 #[.slice (some ⟨vb,0,none⟩) 1 vc,.slice (some ⟨b,i+1,none⟩) lb cb]).run Tryz.prog w=.ok (.value (.bool false)) w:=fun lb cb=>by
  rw [run_callFunc_extern Tryz.func271 (by kernel_rfl) (by kernel_rfl) (by kernel_rfl) (e:=Extern.SlicesOverlaps.overlaps #[25,25] #[4]) (by kernel_rfl),
   Lib.run_overlaps_apart w 25 4 56 Tryz.underlying25 1 (fun w=>C6 hs0 w) ⟨vb,0,none⟩ ⟨b,i+1,none⟩ 1 vc lb cb hvb tA tB kA kB hsa hsb hkB hfa hfe]
  rfl
 have hdl:(cs.drop (i)).length=(n-i)*1:=by rw [List.length_drop,hcl];omega
 have hw1:IntKind.i64.wrap ((i:Int)+1)=(i:Int)+1:=by rw [IntKind.wrap_i64];omega
 have hb1:(0:Int)≤(i:Int)+1:=by omega
 have hin:i≤n:=by omega
 have htn:((i:Int)+1).toNat=i+1:=by omega
 have hb2:¬ (c=i+1):=by omega
 have hb3:(i:Int)≤(n:Int)+1:=by omega
 have hb4:¬ (c=i):=by omega
 have hcp1:∀ ty dc sc,(Builtin.copy_ #[25,25] ty #[.slice (some ⟨b,i+1,none⟩) (n-i) dc,.slice (some ⟨b,i,none⟩) (n+1-i) sc]).run Tryz.prog w.drew=.ok (goInt (n-i:Nat)) (w.drew.setCells b (i+1) (cs.drop (i))):=fun ty dc sc =>
  Hu w.drew _ _ ty 56 b (i+1) (n-i) dc ⟨b,i,none⟩ (n+1-i) sc 1 (n-i) (cs.drop (i)) Tryz.underlying25 hs0 (by simp only [Nat.min_def];split <;> omega) hdl
   (fun j v hj=>by rw [Addr.add_lit];exact hcs (i+j) v (by rwa [List.getElem?_drop] at hj))
   (fun j hj=>hsp _ (by rw [hdl] at hj;omega)) (fun j hj=>hfz _ (by rw [hdl] at hj;omega)) (fun v hv=>h1c v (List.mem_of_mem_drop hv))
 obtain ⟨W1,hW1⟩:∃ W1,W1=w.drew.setCells b (i+1) (cs.drop (i)):=⟨_,rfl⟩
 have hsp1:∀ k,k<(n+1)*1→(W1.cell? ⟨b,k,none⟩).isSome=true:=fun k hk=>by
  rw [hW1]
  exact isSome_setCells b (cs.drop (i)) (i+1) w.drew (fun j hj=>hsp _ (by rw [hdl] at hj;omega)) _ (hsp k hk)
 have hcp2:∀ (W:World),(∀ x,W.cell? x=W1.cell? x)→(∀ x,W.frozen? x=W1.frozen? x)→∀ ty dc,(Builtin.copy_ #[25,25] ty #[.slice (some ⟨b,i,none⟩) (n+1-i) dc,.slice (some ⟨vb,0,none⟩) 1 vc]).run Tryz.prog W=.ok (goInt (1:Nat)) (W.setCells b (i) vs):=fun W hWc hWf ty dc =>
  Hu W _ _ ty 56 b (i) (n+1-i) dc ⟨vb,0,none⟩ 1 vc 1 1 vs Tryz.underlying25 hs0 (by simp only [Nat.min_def];split <;> omega) (by omega)
   (fun j v hj=>by
    rw [Addr.add_lit,hWc,hW1,Nat.zero_add,World.cell?_setCells_out b _ _ _ _ (fun h _=>absurd h hvb)]
    exact hvs j v hj)
   (fun j hj=>by rw [hWc];exact hsp1 _ (by omega)) (fun j hj=>by rw [hWf,hW1,World.frozen?_setCells];exact hfz _ (by omega)) h1v
 rw [← hW1] at hcp1
 go_enter Tryz.func255,Tryz.ntmps255
 go_wp2_with (simp only [hov])
 go_region_law_o (refine step_copy_runI rfl _ _ 25 25 rfl _ _ (by simp [Act.eval,Act.put]) (by simp [Act.eval,Act.put]) (hcp1 _ _ _) ?_)
 go_wp2_with (at_builtin;refine wpList_copy_runI _ rfl _ _ 25 25 rfl _ _ rfl rfl (hcp2 _ (fun _=>rfl) (fun _=>rfl) _ _) ?_)
 go_ret
 first | exact ⟨rfl,rfl⟩ | exact ⟨rfl,by rw [hW1]⟩
set_option maxHeartbeats 4000000 in
theorem Aev (b n c i vb vc:Nat) (cs vs:List Value) (w:World) (i0:TypeInfo) (hi0:Tryz.prog.info? 56=some i0) (hz0:i0.zero=some (.slice none 0 0)) (hs0:i0.size=1) (hi:i<n) (hnc:n≤c) (hroom:c<n+1) (hn63:n+1≤4611686018427387904)
  (hb48:(n+1)*i0.bytes≤281474976710656) (hfit:Builtin.nextslicecap (n+1) c*i0.bytes≤281474976710656) (hcl:cs.length=n*1) (hvl:vs.length=1)
  (hcs:∀ j v,cs[j]? = some v→w.cell? ⟨b,j,none⟩=some v) (hvs:∀ j v,vs[j]? = some v→w.cell? ⟨vb,j,none⟩=some v) (h1c:∀ v ∈ cs,v.oneCell'=true) (h1v:∀ v ∈ vs,v.oneCell'=true) :
  Calls Tryz.prog 255 #[.slice (some ⟨b,0,none⟩) n c,.int .i64 i,.slice (some ⟨vb,0,none⟩) 1 vc] w fun e w' =>
   e=.returned (.slice (some ⟨w.heap.size,0,none⟩) (n+1) (grownCap w (n+1) c 56)) ∧
   w'=(((w.alloc (.cells ((cs.take (i)).toArray++Builtin.zeroCells (Value.cells (.slice none 0 0)) (n+1-i)++Builtin.zeroCells (Value.cells (.slice none 0 0)) (grownCap w (n+1) c 56-(n+1))) 56)).drew.setCells w.heap.size (i) vs).drew).setCells w.heap.size (i+1) (cs.drop (i)):=by
 have mixed:Tryz.prog.follows .mixedOrders=true:=by kernel_rfl
 have hz2:¬ ((i:Int)=(n:Int)):=by omega
 have hz3:(c:Int)<(n:Int)+1:=by omega
 have hsz:(Tryz.prog.info? 56).map (·.size)=some 1:=by rw [hi0];simp [hs0]
 have hbw:b<w.heap.size:=block_lt_of_cell (hcs 0 _ (List.getElem?_eq_getElem (by omega)))
 have hvw:vb<w.heap.size:=block_lt_of_cell (hvs 0 _ (List.getElem?_eq_getElem (by omega)))
 have hkk:(n:Int)+1-(i:Int)=((n+1-i:Nat):Int):=by omega
 have hik:i+(n+1-i)=n+1:=by omega
 have htl:(cs.take (i)).length=i*1:=by rw [List.length_take];omega
 have hold:(Builtin.firstCells i0.size i (.slice (some ⟨b,0,none⟩) i c)).run Tryz.prog w.drew=.ok (cs.take (i)).toArray w.drew:=by
  rw [hs0]
  exact run_firstCells_some w.drew 1 i ⟨b,0,none⟩ i c (cs.take (i)) htl (fun j v hj=>by
   rw [Addr.add_lit,Nat.zero_add]
   rw [List.getElem?_take] at hj
   split at hj
   ·exact hcs j v hj
   ·cases hj)
 have hrz:∀ ty,(Builtin.append_ #[25,3] ty #[.slice (some ⟨b,0,none⟩) i c,.int .i64 ((n:Int)+1-(i:Int))]).run Tryz.prog w =
   .ok (.slice (some ⟨w.heap.size,0,none⟩) (n+1) (grownCap w (n+1) c 56)) (w.drew.alloc (.cells ((cs.take (i)).toArray++Builtin.zeroCells (Value.cells (.slice none 0 0)) (n+1-i)++Builtin.zeroCells (Value.cells (.slice none 0 0)) (grownCap w (n+1) c 56-(n+1))) 56)):=fun ty=>by
  have h:=Lib.run_append_grow_zeros w 25 3 ty 56 i0 _ .i64 .i64 Tryz.underlying25 Tryz.underlying3 hi0 hz0 (some ⟨b,0,none⟩) i c (cs.take (i)) hold (n+1-i) (by omega) (by omega) (by omega) (by omega) (Nat.le_trans (Nat.mul_le_mul_right _ (by omega)) hb48) (by rw [hik];exact hfit)
  rw [hik] at h
  rw [hkk]
  exact h
 obtain ⟨G,hG⟩:∃ G,G=grownCap w (n+1) c 56:=⟨_,rfl⟩
 obtain ⟨ROW,hROW⟩:∃ ROW:Array Value,ROW=(cs.take (i)).toArray++Builtin.zeroCells (Value.cells (.slice none 0 0)) (n+1-i)++Builtin.zeroCells (Value.cells (.slice none 0 0)) (G-(n+1)):=⟨_,rfl⟩
 rw [← hG] at hrz ⊢
 rw [← hROW] at hrz ⊢
 have hzc:∀ k,(Builtin.zeroCells (Value.cells (.slice none 0 0)) k).size=k*1:=fun k=>by simp [Builtin.zeroCells,Value.cells]
 have hRl:(n+1)*1≤ROW.size:=by
  rw [hROW,Array.size_append,Array.size_append,hzc,hzc,List.size_toArray,htl]
  omega
 obtain ⟨W1,hW1⟩:∃ W1,W1=w.drew.alloc (.cells ROW 56):=⟨_,rfl⟩
 rw [← hW1] at hrz
 have hN:∀ j,j<(n+1)*1→(W1.cell? ⟨w.heap.size,j,none⟩).isSome=true:=fun j hj=>by
  rw [hW1,World.cell?_alloc_at (w:=w.drew) ROW _ w.heap.size j rfl,Array.getElem?_eq_getElem (by omega)];rfl
 have hNf:∀ j,W1.frozen? ⟨w.heap.size,j,none⟩=false:=fun j=>by rw [hW1];exact World.frozen?_alloc_at (w:=w.drew) ROW _ w.heap.size j rfl
 have hOb:∀ j v,w.cell? ⟨b,j,none⟩=some v→W1.cell? ⟨b,j,none⟩=some v:=fun j v h=>by rw [hW1,World.cell?_alloc_past (w:=w.drew) _ b j hbw];exact h
 have hOv:∀ j v,w.cell? ⟨vb,j,none⟩=some v→W1.cell? ⟨vb,j,none⟩=some v:=fun j v h=>by rw [hW1,World.cell?_alloc_past (w:=w.drew) _ vb j hvw];exact h
 have hcpA:∀ (W:World),(∀ x,W.cell? x=W1.cell? x)→(∀ x,W.frozen? x=W1.frozen? x)→∀ ty dc,(Builtin.copy_ #[25,25] ty #[.slice (some ⟨w.heap.size,i,none⟩) (n+1-i) dc,.slice (some ⟨vb,0,none⟩) 1 vc]).run Tryz.prog W=.ok (goInt (1:Nat)) (W.setCells w.heap.size (i) vs):=fun W hWc hWf ty dc =>
  Hu W _ _ ty 56 w.heap.size (i) (n+1-i) dc ⟨vb,0,none⟩ 1 vc 1 1 vs Tryz.underlying25 hsz (by simp only [Nat.min_def];split <;> omega) (by omega)
   (fun j v hj=>by rw [Addr.add_lit,hWc,Nat.zero_add];exact hOv _ v (hvs j v hj))
   (fun j hj=>by rw [hWc];exact hN _ (by omega)) (fun j hj=>by rw [hWf];exact hNf _) h1v
 have hGn:n+1≤G:=by rw [hG];exact grownCap_ge w _ _ _
 have hG63:G≤9223372036854775807:=by
  have:=grownCap_le_maxLen w (n+1) c 56 (by unfold maxLen;omega)
  rw [← hG] at this
  unfold maxLen at this
  omega
 have hGi:¬ (G=i):=by omega
 have hGim:¬ (G=i+1):=by omega
 have hci:¬ (c=i):=by omega
 have hbN:b≠w.heap.size:=by omega
 have hdl:(cs.drop (i)).length=(n-i)*1:=by rw [List.length_drop,hcl];omega
 have hcpB:∀ (W:World),(∀ x,W.cell? x=(W1.setCells w.heap.size (i) vs).cell? x)→(∀ x,W.frozen? x=(W1.setCells w.heap.size (i) vs).frozen? x)→∀ ty dc sc,(Builtin.copy_ #[25,25] ty #[.slice (some ⟨w.heap.size,i+1,none⟩) (n-i) dc,.slice (some ⟨b,i,none⟩) (n-i) sc]).run Tryz.prog W=.ok (goInt (n-i:Nat)) (W.setCells w.heap.size (i+1) (cs.drop (i))):=fun W hWc hWf ty dc sc =>
  Hu W _ _ ty 56 w.heap.size (i+1) (n-i) dc ⟨b,i,none⟩ (n-i) sc 1 (n-i) (cs.drop (i)) Tryz.underlying25 hsz (by simp only [Nat.min_def];split <;> omega) hdl
   (fun j v hj=>by
    rw [Addr.add_lit,hWc,World.cell?_setCells_out _ _ _ _ _ (fun h _=>absurd h hbN)]
    exact hOb _ v (hcs (i+j) v (by rwa [List.getElem?_drop] at hj)))
   (fun j hj=>by rw [hWc];exact isSome_setCells w.heap.size vs (i) W1 (fun t ht=>hN _ (by omega)) _ (hN _ (by rw [hdl] at hj;omega)))
   (fun j hj=>by rw [hWf,World.frozen?_setCells];exact hNf _) (fun v hv=>h1c v (List.mem_of_mem_drop hv))
 subst hW1
 have hE1:∀ x,((w.alloc (.cells ROW 56)).drew).cell? x=(w.drew.alloc (.cells ROW 56)).cell? x:=fun x=>rfl
 have hE2:∀ x,((w.alloc (.cells ROW 56)).drew).frozen? x=(w.drew.alloc (.cells ROW 56)).frozen? x:=fun x=>rfl
 have hF1:∀ x,(((w.alloc (.cells ROW 56)).drew.setCells w.heap.size (i) vs).drew).cell? x=((w.drew.alloc (.cells ROW 56)).setCells w.heap.size (i) vs).cell? x:=fun x=>rfl
 have hF2:∀ x,(((w.alloc (.cells ROW 56)).drew.setCells w.heap.size (i) vs).drew).frozen? x=((w.drew.alloc (.cells ROW 56)).setCells w.heap.size (i) vs).frozen? x:=fun x=>rfl
 have hw1:IntKind.i64.wrap ((i:Int)+1)=(i:Int)+1:=by rw [IntKind.wrap_i64];omega
 have hb1:(0:Int)≤(i:Int)+1:=by omega
 have hin:i≤n:=by omega
 have htn:((i:Int)+1).toNat=i+1:=by omega
 have hb3:(i:Int)≤(n:Int):=by omega
 clear hkk hik hold hROW hG hRl htl hzc
 go_enter Tryz.func255,Tryz.ntmps255
 go_wp2_with (first
  | (at_builtin;refine Lib.wpList_append_run _ rfl _ _ _ _ rfl _ _ rfl rfl _ _ (hrz _) ?_)
  | (at_builtin;refine wpList_copy_runI _ rfl _ _ 25 25 rfl _ _ rfl rfl (hcpA _ hE1 hE2 _ _) ?_)
  | (at_builtin;refine wpList_copy_runI _ rfl _ _ 25 25 rfl _ _ rfl rfl (hcpB _ (fun _=>rfl) (fun _=>rfl) _ _ _) ?_))
 go_region_law_o (refine step_copy_runI rfl _ _ 25 25 rfl (.slice (some ⟨w.heap.size,i+1,none⟩) (n-i) (G-(i+1))) (.slice (some ⟨b,i,none⟩) (n-i) (c-i)) (by simp [Act.eval,Act.put]) (by simp [Act.eval,Act.put]) (hcpB _ hF1 hF2 3 (G-(i+1)) (c-i)) ?_)
 go_wp2
 go_ret
 exact ⟨R,R⟩
set_option maxHeartbeats 4000000 in
theorem Ai4 (vb vc:Nat) (vs:List Value) (w:World) (i0:TypeInfo) (hi0:Tryz.prog.info? 56=some i0) (hz0:i0.zero=some (.slice none 0 0)) (hs0:i0.size=1)
  (hfit:Builtin.nextslicecap (0+1) 0*i0.bytes≤281474976710656) (hvl:vs.length=1)
  (hvs:∀ j v,vs[j]? = some v→w.cell? ⟨vb,j,none⟩=some v) (h1v:∀ v ∈ vs,v.oneCell'=true) :
  Calls Tryz.prog 255 #[.slice none 0 0,.int .i64 ((0:Nat):Int),.slice (some ⟨vb,0,none⟩) 1 vc] w fun e w' =>
   e=.returned (.slice (some ⟨w.heap.size,0,none⟩) (0+1) (grownCap w (0+1) 0 56)) ∧
   w'=w.drew.alloc (.cells (([]++vs).toArray++Builtin.zeroCells (Value.cells (.slice none 0 0)) (grownCap w (0+1) 0 56-(0+1))) 56):=by
 have hsrc:_root_.Go.Src Tryz.prog i0.size 25 (.slice (some ⟨vb,0,none⟩) 1 vc) 1 vs w:=by
  rw [hs0]
  exact _root_.Go.Src.ofSlice w Tryz.underlying25 ⟨vb,0,none⟩ 1 vc vs (by omega) (fun j u hj=>by rw [Addr.add_lit,Nat.zero_add];exact hvs j u hj) h1v
 have hold:(Builtin.firstCells i0.size 0 (.slice none 0 0)).run Tryz.prog w.drew=.ok ([]:List Value).toArray w.drew:=by
  rw [hs0]
  exact run_firstCells_none w.drew 1 0 0 0
 have hrun:∀ ty,(Builtin.append_ #[25,25] ty #[.slice none 0 0,.slice (some ⟨vb,0,none⟩) 1 vc]).run Tryz.prog w=.ok (.slice (some ⟨w.heap.size,0,none⟩) (0+1) (grownCap w (0+1) 0 56)) (w.drew.alloc (.cells (([]++vs).toArray++Builtin.zeroCells (Value.cells (.slice none 0 0)) (grownCap w (0+1) 0 56-(0+1))) 56)):=fun ty =>
  run_append_grow_src w 25 25 ty 56 i0 _ Tryz.underlying25 hi0 hz0 none 0 0 [] hold _ 1 vs hsrc (by omega) (by omega) hfit
 go_enter Tryz.func255,Tryz.ntmps255
 go_wp2_with (at_builtin;refine Lib.wpList_append_run _ rfl _ _ _ _ rfl _ _ rfl rfl _ _ (hrun _) ?_)
 all_goals (go_ret;first | exact ⟨rfl,rfl⟩ | exact ⟨rfl,by simp [Value.cells]⟩)
theorem Aey:(Tryz.prog.info? 56).map (fun i=>(i.zero,i.size,i.bytes))=some (some (.slice none 0 0),1,24):=by kernel_rfl
theorem Anh {cs vs:List Lf} {n i:Nat} (hcl:cs.length=n*1) (hvl:vs.length=1) (hi:i≤n) (hn:(n+1)*24≤140737488355328) :
  De Tryz.prog 255 [.arr 56 1 0 cs,.arr 56 1 0 vs] [.one (.ls 0 n),.one (Ii6 (i:Int)),.one (.ls 1 1)] (fun y m'=>y=.s (.one (.ls 0 (n+1)))∧m'=[.arr 56 1 0 (cs.take (i*1)++vs++cs.drop (i*1)),.dead]):=by
 refine Wv (by decide) hcl hvl (fun w v1 vb vc cur2 xs ys hown hg2 hcell hyl hne hx1 hy1=>?_)
 obtain ⟨i0,hi0,hz0,hs0,hb0⟩:=info_parts Aey
 have hxl:=hown.1
 have hfitG:∀ {old},old<n+1→Builtin.nextslicecap (n+1) old*i0.bytes≤281474976710656:=fun h=>growslice_fits h (by rw [hb0];exact hn)
 have hsz':(Tryz.prog.info? 56).map (·.size)=some 1:=by rw [hi0];simp [hs0]
 have hzc:∀ k,(Builtin.zeroCells (Value.cells (.slice none 0 0)) k).size=k*1:=fun k=>by simp [Builtin.zeroCells,Value.cells]
 have hg63:∀ c,grownCap w (n+1) c 56≤maxLen:=fun c=>grownCap_le_maxLen w (n+1) c 56 (by unfold maxLen;omega)
 have hgge:∀ c,n+1≤grownCap w (n+1) c 56:=fun c=>grownCap_ge w _ _ _
 rcases hown.2 with ⟨rfl,h0⟩ | ⟨g,cap,cur,rfl,_,hg,hnc,hcm,hcs,hct⟩
 ·subst h0
  have hi0':i=0:=by omega
  subst hi0'
  have hx0:xs=[]:=List.length_eq_zero_iff.1 (hxl.trans (Nat.zero_mul _))
  subst hx0
  refine (Ai4 vb vc ys w i0 hi0 hz0 hs0 (hfitG (by omega)) hyl hcell hy1).mono ?_
  rintro e w' ⟨rfl,rfl⟩
  refine ⟨_,w.heap.size,R,Ot (hgge 0) (hg63 0) ?_ ?_,.inr (Nat.le_refl _)⟩
  ·have:=hgge 0
   rw [Array.size_append,hzc,List.size_toArray,List.nil_append,hyl];omega
  ·rw [Array.toList_append,List.toList_toArray,List.take_left' (by rw [List.nil_append,hyl])]
   simp
 ·have hcur:cur.toList.length=cap*1:=by rw [Array.length_toList];exact hcs
  have hcell1:∀ j v,xs[j]? = some v→w.cell? ⟨g,j,none⟩=some v:=fun j v hj=>by
   unfold World.cell?
   rw [hg]
   rw [← hct,List.getElem?_take] at hj
   split at hj
   ·simpa using hj
   ·cases hj
  have hc63:cap≤9223372036854775807:=by unfold maxLen at hcm;exact hcm
  have hsome:∀ j,j<cap*1→(w.cell? ⟨g,j,none⟩).isSome=true:=fun j hj=>by
   unfold World.cell?
   rw [hg]
   show (cur[j]?).isSome=true
   rw [Array.getElem?_eq_getElem (by omega)];rfl
  have hfrz:∀ j,w.frozen? ⟨g,j,none⟩=false:=fun j=>by
   unfold World.frozen?
   rw [hg]
   show (decide (0≤j) && decide (j<0))=false
   rw [decide_eq_false (Nat.not_lt_zero j),Bool.and_false]
  have hfrz2:∀ j,w.frozen? ⟨vb,j,none⟩=false:=fun j=>by
   unfold World.frozen?
   rw [hg2]
   show (decide (0≤j) && decide (j<0))=false
   rw [decide_eq_false (Nat.not_lt_zero j),Bool.and_false]
  have hvb:vb≠g:=fun e=>hne (by rw [e];rfl)
  rcases Nat.lt_or_eq_of_le hi with hlt | rfl
  ·rcases Nat.lt_or_ge cap (n+1) with hroom | hroom
   ·refine (Aev g n cap i vb vc xs ys w i0 hi0 hz0 hs0 hlt hnc hroom (by omega) (by rw [hb0];omega) (hfitG hroom) hxl hyl hcell1 hcell hx1 hy1).mono ?_
    rintro e w' ⟨rfl,rfl⟩
    have hge:=hgge cap
    have htl:(xs.take (i*1)).length=i*1:=by rw [List.length_take];omega
    have:=Tn (E:=56) (sz:=1) (w:=w) (row:=(xs.take (i*1)).toArray++Builtin.zeroCells (Value.cells (.slice none 0 0)) (n+1-i)++Builtin.zeroCells (Value.cells (.slice none 0 0)) (grownCap w (n+1) cap 56-(n+1))) (xs:=xs.take (i*1)) (vs:=ys) (D:=xs.drop (i*1)) hlt hge (hg63 cap)
     (by rw [Array.size_append,Array.size_append,hzc,hzc,List.size_toArray,htl];omega) hyl (by rw [List.length_drop,hxl];omega)
     (by rw [Array.toList_append,Array.toList_append,List.toList_toArray,List.append_assoc,List.take_left' htl])
    refine ⟨_,w.heap.size,R,?_,.inr (Nat.le_refl _)⟩
    first | exact this | simpa only [Nat.mul_one] using this
   ·refine (Adb g n cap i vb vc xs ys w hsz' hlt hroom hc63 hvb hxl hyl hcell1 (fun j hj=>hsome j (by omega)) (fun j _=>hfrz j) hcell hx1 hy1 56 56 cur2.size cur.size (by unfold World.shape?;rw [hg2]) (by unfold World.shape?;rw [hg]) (by omega) (hfrz2 _) (hfrz2 _)).mono ?_
    rintro e w' ⟨rfl,rfl⟩
    have:=Rz (E:=56) (sz:=1) (b:=g) (vs:=ys) hg hlt hroom hcm hcs hyl
    rw [hct] at this
    refine ⟨_,g,R,?_,.inl R⟩
    first | exact this | simpa only [Nat.mul_one] using this
  ·have hxe:xs.take (i*1)++ys++xs.drop (i*1)=xs++ys:=by
    rw [List.take_of_length_le (by omega),List.drop_of_length_le (by omega),List.append_nil]
   rw [hxe]
   rcases Nat.lt_or_ge cap (i+1) with hroom | hroom
   ·refine (Adf g i cap vb vc xs ys w i0 hi0 hz0 hs0 hnc hroom (by omega) (hfitG hroom) hxl hyl hcell1 hcell hy1).mono ?_
    rintro e w' ⟨rfl,rfl⟩
    have hge:=hgge cap
    refine ⟨_,w.heap.size,R,Ot hge (hg63 cap) ?_ ?_,.inr (Nat.le_refl _)⟩
    ·rw [Array.size_append,hzc,List.size_toArray,List.length_append,hxl,hyl];omega
    ·rw [Array.toList_append,List.toList_toArray,List.take_left' (by rw [List.length_append,hxl,hyl];omega)]
   ·refine (Ajh g i cap vb vc ys w i0 hi0 hs0 hroom hc63 hyl (fun j hj=>hsome _ (by omega)) (fun j _=>hfrz _) hcell hy1).mono ?_
    rintro e w' ⟨rfl,rfl⟩
    have:=U4 (E:=56) (sz:=1) (n:=i) (b:=g) (vs:=ys) hg hroom hcm hcs hyl
    rw [hct] at this
    exact ⟨_,g,R,this,.inl R⟩
end
def Qx (a0:List (List UInt8)) (a1:Int) (a2:List (List UInt8)):Option (List (List UInt8)):=Amr 24 a0 a1 a2
theorem Ug {a0:List (List UInt8)} {a1:Int} {a2 r:List (List UInt8)} (h:Qx a0 a1 a2=some r):De Tryz.prog 255 [.arr 56 1 0 (a0.flatMap (eL eU8)),.arr 56 1 0 (a2.flatMap (eL eU8))] [.one (.ls 0 a0.length),.one (Ii6 a1),.one (.ls 1 a2.length)] (fun y m'=>y=.s (.one (.ls 0 r.length))∧m'=[.arr 56 1 0 (r.flatMap (eL eU8)),.dead]) :=
 Alg (f:=(eL eU8)) (fun _=>rfl) Anh h
section
open Go.Lib
set_option maxHeartbeats 4000000 in
theorem Aja (b n c vb vc:Nat) (vs:List Value) (w:World) (i0:TypeInfo) (hi0:Tryz.prog.info? 134=some i0) (hs0:i0.size=1) (hroom:n+1≤c) (hc63:c≤9223372036854775807)
  (hvl:vs.length=1) (hsp:∀ j,j<1→(w.cell? ⟨b,n*1+j,none⟩).isSome=true) (hfz:∀ j,j<1→w.frozen? ⟨b,n*1+j,none⟩=false)
  (hvs:∀ j v,vs[j]? = some v→w.cell? ⟨vb,j,none⟩=some v) (h1v:∀ v ∈ vs,v.oneCell'=true) :
  Calls Tryz.prog 256 #[.slice (some ⟨b,0,none⟩) n c,.int .i64 n,.slice (some ⟨vb,0,none⟩) 1 vc] w fun e w' =>
   e=.returned (.slice (some ⟨b,0,none⟩) (n+1) c)∧w'=w.setCells b (n*1) vs:=by
 have hsrc:_root_.Go.Src Tryz.prog i0.size 26 (.slice (some ⟨vb,0,none⟩) 1 vc) 1 vs w:=by
  rw [hs0]
  exact _root_.Go.Src.ofSlice w Tryz.underlying26 ⟨vb,0,none⟩ 1 vc vs (by omega) (fun j u hj=>by rw [Addr.add_lit,Nat.zero_add];exact hvs j u hj) h1v
 go_enter Tryz.func256,Tryz.ntmps256
 go_wp2_with (at_builtin;refine wpList_append_room_src _ rfl _ _ 26 26 rfl 134 i0 Tryz.underlying26 hi0 b 0 n c rfl _ rfl 1 vs hsrc hroom (by rw [hvl,hs0,Nat.zero_add];exact hsp) (by rw [hvl,hs0,Nat.zero_add];exact hfz) ?_)
 go_ret
 refine ⟨R,?_⟩
 first | rfl | (simp;done) | (simp [hs0];done)
set_option maxHeartbeats 4000000 in
theorem Adm (b n c vb vc:Nat) (cs vs:List Value) (w:World) (i0:TypeInfo) (hi0:Tryz.prog.info? 134=some i0) (hz0:i0.zero=some (.agg #[.slice none 0 0])) (hs0:i0.size=1) (hnc:n≤c) (hroom:c<n+1) (hn63:n+1≤9223372036854775807)
  (hfit:Builtin.nextslicecap (n+1) c*i0.bytes≤281474976710656) (hcl:cs.length=n*1) (hvl:vs.length=1)
  (hcs:∀ j v,cs[j]? = some v→w.cell? ⟨b,j,none⟩=some v) (hvs:∀ j v,vs[j]? = some v→w.cell? ⟨vb,j,none⟩=some v) (h1v:∀ v ∈ vs,v.oneCell'=true) :
  Calls Tryz.prog 256 #[.slice (some ⟨b,0,none⟩) n c,.int .i64 n,.slice (some ⟨vb,0,none⟩) 1 vc] w fun e w' =>
   e=.returned (.slice (some ⟨w.heap.size,0,none⟩) (n+1) (grownCap w (n+1) c 134)) ∧
   w'=w.drew.alloc (.cells ((cs++vs).toArray++Builtin.zeroCells (Value.cells (.agg #[.slice none 0 0])) (grownCap w (n+1) c 134-(n+1))) 134):=by
 have hsrc:_root_.Go.Src Tryz.prog i0.size 26 (.slice (some ⟨vb,0,none⟩) 1 vc) 1 vs w:=by
  rw [hs0]
  exact _root_.Go.Src.ofSlice w Tryz.underlying26 ⟨vb,0,none⟩ 1 vc vs (by omega) (fun j u hj=>by rw [Addr.add_lit,Nat.zero_add];exact hvs j u hj) h1v
 have hold:(Builtin.firstCells i0.size n (.slice (some ⟨b,0,none⟩) n c)).run Tryz.prog w.drew=.ok cs.toArray w.drew:=by
  rw [hs0]
  exact run_firstCells_some w.drew 1 n ⟨b,0,none⟩ n c cs (by omega) (fun j v hj=>by rw [Addr.add_lit,Nat.zero_add];exact hcs j v hj)
 have hrun:∀ ty,(Builtin.append_ #[26,26] ty #[.slice (some ⟨b,0,none⟩) n c,.slice (some ⟨vb,0,none⟩) 1 vc]).run Tryz.prog w=.ok (.slice (some ⟨w.heap.size,0,none⟩) (n+1) (grownCap w (n+1) c 134)) (w.drew.alloc (.cells ((cs++vs).toArray++Builtin.zeroCells (Value.cells (.agg #[.slice none 0 0])) (grownCap w (n+1) c 134-(n+1))) 134)):=fun ty =>
  run_append_grow_src w 26 26 ty 134 i0 _ Tryz.underlying26 hi0 hz0 (some ⟨b,0,none⟩) n c cs hold _ 1 vs hsrc hroom (by omega) hfit
 go_enter Tryz.func256,Tryz.ntmps256
 go_wp2_with (at_builtin;refine Lib.wpList_append_run _ rfl _ _ _ _ rfl _ _ rfl rfl _ _ (hrun _) ?_)
 all_goals (go_ret;first | exact ⟨rfl,rfl⟩ | exact ⟨rfl,by simp [Value.cells]⟩)
set_option maxHeartbeats 4000000 in
theorem Acm (b n c i vb vc:Nat) (cs vs:List Value) (w:World) (hs0:(Tryz.prog.info? 134).map (·.size)=some 1) (hi:i<n) (hroom:n+1≤c) (hc63:c≤9223372036854775807) (hvb:vb≠b)
  (hcl:cs.length=n*1) (hvl:vs.length=1)
  (hcs:∀ j v,cs[j]? = some v→w.cell? ⟨b,j,none⟩=some v) (hsp:∀ j,j<(n+1)*1→(w.cell? ⟨b,j,none⟩).isSome=true) (hfz:∀ j,j<(n+1)*1→w.frozen? ⟨b,j,none⟩=false)
  (hvs:∀ j v,vs[j]? = some v→w.cell? ⟨vb,j,none⟩=some v) (h1c:∀ v ∈ cs,v.oneCell'=true) (h1v:∀ v ∈ vs,v.oneCell'=true)
  (tA tB:TypeId) (kA kB:Nat) (hsa:w.shape? vb=some (tA,kA)) (hsb:w.shape? b=some (tB,kB)) (hkB:kB≠0) (hfa:w.frozen? ⟨vb,0,none⟩=false) (hfe:w.frozen? ⟨vb,kA,none⟩=false) :
  Calls Tryz.prog 256 #[.slice (some ⟨b,0,none⟩) n c,.int .i64 i,.slice (some ⟨vb,0,none⟩) 1 vc] w fun e w' =>
   e=.returned (.slice (some ⟨b,0,none⟩) (n+1) c)∧w'=(w.drew.setCells b (i+1) (cs.drop (i))).setCells b (i) vs:=by
 have hz2:¬ ((i:Int)=(n:Int)):=by omega
 have hz3:¬ ((c:Int)<(n:Int)+1):=by omega
 have mixed:Tryz.prog.follows .mixedOrders=true:=by kernel_rfl
 have hov:∀ lb cb,(callFunc 273 #[.slice (some ⟨vb,0,none⟩) 1 vc,.slice (some ⟨b,i+1,none⟩) lb cb]).run Tryz.prog w=.ok (.value (.bool false)) w:=fun lb cb=>by
  rw [run_callFunc_extern Tryz.func273 (by kernel_rfl) (by kernel_rfl) (by kernel_rfl) (e:=Extern.SlicesOverlaps.overlaps #[26,26] #[4]) (by kernel_rfl),
   Lib.run_overlaps_apart w 26 4 134 Tryz.underlying26 1 (fun w=>C6 hs0 w) ⟨vb,0,none⟩ ⟨b,i+1,none⟩ 1 vc lb cb hvb tA tB kA kB hsa hsb hkB hfa hfe]
  rfl
 have hdl:(cs.drop (i)).length=(n-i)*1:=by rw [List.length_drop,hcl];omega
 have hw1:IntKind.i64.wrap ((i:Int)+1)=(i:Int)+1:=by rw [IntKind.wrap_i64];omega
 have hb1:(0:Int)≤(i:Int)+1:=by omega
 have hin:i≤n:=by omega
 have htn:((i:Int)+1).toNat=i+1:=by omega
 have hb2:¬ (c=i+1):=by omega
 have hb3:(i:Int)≤(n:Int)+1:=by omega
 have hb4:¬ (c=i):=by omega
 have hcp1:∀ ty dc sc,(Builtin.copy_ #[26,26] ty #[.slice (some ⟨b,i+1,none⟩) (n-i) dc,.slice (some ⟨b,i,none⟩) (n+1-i) sc]).run Tryz.prog w.drew=.ok (goInt (n-i:Nat)) (w.drew.setCells b (i+1) (cs.drop (i))):=fun ty dc sc =>
  Hu w.drew _ _ ty 134 b (i+1) (n-i) dc ⟨b,i,none⟩ (n+1-i) sc 1 (n-i) (cs.drop (i)) Tryz.underlying26 hs0 (by simp only [Nat.min_def];split <;> omega) hdl
   (fun j v hj=>by rw [Addr.add_lit];exact hcs (i+j) v (by rwa [List.getElem?_drop] at hj))
   (fun j hj=>hsp _ (by rw [hdl] at hj;omega)) (fun j hj=>hfz _ (by rw [hdl] at hj;omega)) (fun v hv=>h1c v (List.mem_of_mem_drop hv))
 obtain ⟨W1,hW1⟩:∃ W1,W1=w.drew.setCells b (i+1) (cs.drop (i)):=⟨_,rfl⟩
 have hsp1:∀ k,k<(n+1)*1→(W1.cell? ⟨b,k,none⟩).isSome=true:=fun k hk=>by
  rw [hW1]
  exact isSome_setCells b (cs.drop (i)) (i+1) w.drew (fun j hj=>hsp _ (by rw [hdl] at hj;omega)) _ (hsp k hk)
 have hcp2:∀ (W:World),(∀ x,W.cell? x=W1.cell? x)→(∀ x,W.frozen? x=W1.frozen? x)→∀ ty dc,(Builtin.copy_ #[26,26] ty #[.slice (some ⟨b,i,none⟩) (n+1-i) dc,.slice (some ⟨vb,0,none⟩) 1 vc]).run Tryz.prog W=.ok (goInt (1:Nat)) (W.setCells b (i) vs):=fun W hWc hWf ty dc =>
  Hu W _ _ ty 134 b (i) (n+1-i) dc ⟨vb,0,none⟩ 1 vc 1 1 vs Tryz.underlying26 hs0 (by simp only [Nat.min_def];split <;> omega) (by omega)
   (fun j v hj=>by
    rw [Addr.add_lit,hWc,hW1,Nat.zero_add,World.cell?_setCells_out b _ _ _ _ (fun h _=>absurd h hvb)]
    exact hvs j v hj)
   (fun j hj=>by rw [hWc];exact hsp1 _ (by omega)) (fun j hj=>by rw [hWf,hW1,World.frozen?_setCells];exact hfz _ (by omega)) h1v
 rw [← hW1] at hcp1
 go_enter Tryz.func256,Tryz.ntmps256
 go_wp2_with (simp only [hov])
 go_region_law_o (refine step_copy_runI rfl _ _ 26 26 rfl _ _ (by simp [Act.eval,Act.put]) (by simp [Act.eval,Act.put]) (hcp1 _ _ _) ?_)
 go_wp2_with (at_builtin;refine wpList_copy_runI _ rfl _ _ 26 26 rfl _ _ rfl rfl (hcp2 _ (fun _=>rfl) (fun _=>rfl) _ _) ?_)
 go_ret
 first | exact ⟨rfl,rfl⟩ | exact ⟨rfl,by rw [hW1]⟩
set_option maxHeartbeats 4000000 in
theorem Afv (b n c i vb vc:Nat) (cs vs:List Value) (w:World) (i0:TypeInfo) (hi0:Tryz.prog.info? 134=some i0) (hz0:i0.zero=some (.agg #[.slice none 0 0])) (hs0:i0.size=1) (hi:i<n) (hnc:n≤c) (hroom:c<n+1) (hn63:n+1≤4611686018427387904)
  (hb48:(n+1)*i0.bytes≤281474976710656) (hfit:Builtin.nextslicecap (n+1) c*i0.bytes≤281474976710656) (hcl:cs.length=n*1) (hvl:vs.length=1)
  (hcs:∀ j v,cs[j]? = some v→w.cell? ⟨b,j,none⟩=some v) (hvs:∀ j v,vs[j]? = some v→w.cell? ⟨vb,j,none⟩=some v) (h1c:∀ v ∈ cs,v.oneCell'=true) (h1v:∀ v ∈ vs,v.oneCell'=true) :
  Calls Tryz.prog 256 #[.slice (some ⟨b,0,none⟩) n c,.int .i64 i,.slice (some ⟨vb,0,none⟩) 1 vc] w fun e w' =>
   e=.returned (.slice (some ⟨w.heap.size,0,none⟩) (n+1) (grownCap w (n+1) c 134)) ∧
   w'=(((w.alloc (.cells ((cs.take (i)).toArray++Builtin.zeroCells (Value.cells (.agg #[.slice none 0 0])) (n+1-i)++Builtin.zeroCells (Value.cells (.agg #[.slice none 0 0])) (grownCap w (n+1) c 134-(n+1))) 134)).drew.setCells w.heap.size (i) vs).drew).setCells w.heap.size (i+1) (cs.drop (i)):=by
 have mixed:Tryz.prog.follows .mixedOrders=true:=by kernel_rfl
 have hz2:¬ ((i:Int)=(n:Int)):=by omega
 have hz3:(c:Int)<(n:Int)+1:=by omega
 have hsz:(Tryz.prog.info? 134).map (·.size)=some 1:=by rw [hi0];simp [hs0]
 have hbw:b<w.heap.size:=block_lt_of_cell (hcs 0 _ (List.getElem?_eq_getElem (by omega)))
 have hvw:vb<w.heap.size:=block_lt_of_cell (hvs 0 _ (List.getElem?_eq_getElem (by omega)))
 have hkk:(n:Int)+1-(i:Int)=((n+1-i:Nat):Int):=by omega
 have hik:i+(n+1-i)=n+1:=by omega
 have htl:(cs.take (i)).length=i*1:=by rw [List.length_take];omega
 have hold:(Builtin.firstCells i0.size i (.slice (some ⟨b,0,none⟩) i c)).run Tryz.prog w.drew=.ok (cs.take (i)).toArray w.drew:=by
  rw [hs0]
  exact run_firstCells_some w.drew 1 i ⟨b,0,none⟩ i c (cs.take (i)) htl (fun j v hj=>by
   rw [Addr.add_lit,Nat.zero_add]
   rw [List.getElem?_take] at hj
   split at hj
   ·exact hcs j v hj
   ·cases hj)
 have hrz:∀ ty,(Builtin.append_ #[26,3] ty #[.slice (some ⟨b,0,none⟩) i c,.int .i64 ((n:Int)+1-(i:Int))]).run Tryz.prog w =
   .ok (.slice (some ⟨w.heap.size,0,none⟩) (n+1) (grownCap w (n+1) c 134)) (w.drew.alloc (.cells ((cs.take (i)).toArray++Builtin.zeroCells (Value.cells (.agg #[.slice none 0 0])) (n+1-i)++Builtin.zeroCells (Value.cells (.agg #[.slice none 0 0])) (grownCap w (n+1) c 134-(n+1))) 134)):=fun ty=>by
  have h:=Lib.run_append_grow_zeros w 26 3 ty 134 i0 _ .i64 .i64 Tryz.underlying26 Tryz.underlying3 hi0 hz0 (some ⟨b,0,none⟩) i c (cs.take (i)) hold (n+1-i) (by omega) (by omega) (by omega) (by omega) (Nat.le_trans (Nat.mul_le_mul_right _ (by omega)) hb48) (by rw [hik];exact hfit)
  rw [hik] at h
  rw [hkk]
  exact h
 obtain ⟨G,hG⟩:∃ G,G=grownCap w (n+1) c 134:=⟨_,rfl⟩
 obtain ⟨ROW,hROW⟩:∃ ROW:Array Value,ROW=(cs.take (i)).toArray++Builtin.zeroCells (Value.cells (.agg #[.slice none 0 0])) (n+1-i)++Builtin.zeroCells (Value.cells (.agg #[.slice none 0 0])) (G-(n+1)):=⟨_,rfl⟩
 rw [← hG] at hrz ⊢
 rw [← hROW] at hrz ⊢
 have hzc:∀ k,(Builtin.zeroCells (Value.cells (.agg #[.slice none 0 0])) k).size=k*1:=fun k=>by simp [Builtin.zeroCells,Value.cells]
 have hRl:(n+1)*1≤ROW.size:=by
  rw [hROW,Array.size_append,Array.size_append,hzc,hzc,List.size_toArray,htl]
  omega
 obtain ⟨W1,hW1⟩:∃ W1,W1=w.drew.alloc (.cells ROW 134):=⟨_,rfl⟩
 rw [← hW1] at hrz
 have hN:∀ j,j<(n+1)*1→(W1.cell? ⟨w.heap.size,j,none⟩).isSome=true:=fun j hj=>by
  rw [hW1,World.cell?_alloc_at (w:=w.drew) ROW _ w.heap.size j rfl,Array.getElem?_eq_getElem (by omega)];rfl
 have hNf:∀ j,W1.frozen? ⟨w.heap.size,j,none⟩=false:=fun j=>by rw [hW1];exact World.frozen?_alloc_at (w:=w.drew) ROW _ w.heap.size j rfl
 have hOb:∀ j v,w.cell? ⟨b,j,none⟩=some v→W1.cell? ⟨b,j,none⟩=some v:=fun j v h=>by rw [hW1,World.cell?_alloc_past (w:=w.drew) _ b j hbw];exact h
 have hOv:∀ j v,w.cell? ⟨vb,j,none⟩=some v→W1.cell? ⟨vb,j,none⟩=some v:=fun j v h=>by rw [hW1,World.cell?_alloc_past (w:=w.drew) _ vb j hvw];exact h
 have hcpA:∀ (W:World),(∀ x,W.cell? x=W1.cell? x)→(∀ x,W.frozen? x=W1.frozen? x)→∀ ty dc,(Builtin.copy_ #[26,26] ty #[.slice (some ⟨w.heap.size,i,none⟩) (n+1-i) dc,.slice (some ⟨vb,0,none⟩) 1 vc]).run Tryz.prog W=.ok (goInt (1:Nat)) (W.setCells w.heap.size (i) vs):=fun W hWc hWf ty dc =>
  Hu W _ _ ty 134 w.heap.size (i) (n+1-i) dc ⟨vb,0,none⟩ 1 vc 1 1 vs Tryz.underlying26 hsz (by simp only [Nat.min_def];split <;> omega) (by omega)
   (fun j v hj=>by rw [Addr.add_lit,hWc,Nat.zero_add];exact hOv _ v (hvs j v hj))
   (fun j hj=>by rw [hWc];exact hN _ (by omega)) (fun j hj=>by rw [hWf];exact hNf _) h1v
 have hGn:n+1≤G:=by rw [hG];exact grownCap_ge w _ _ _
 have hG63:G≤9223372036854775807:=by
  have:=grownCap_le_maxLen w (n+1) c 134 (by unfold maxLen;omega)
  rw [← hG] at this
  unfold maxLen at this
  omega
 have hGi:¬ (G=i):=by omega
 have hGim:¬ (G=i+1):=by omega
 have hci:¬ (c=i):=by omega
 have hbN:b≠w.heap.size:=by omega
 have hdl:(cs.drop (i)).length=(n-i)*1:=by rw [List.length_drop,hcl];omega
 have hcpB:∀ (W:World),(∀ x,W.cell? x=(W1.setCells w.heap.size (i) vs).cell? x)→(∀ x,W.frozen? x=(W1.setCells w.heap.size (i) vs).frozen? x)→∀ ty dc sc,(Builtin.copy_ #[26,26] ty #[.slice (some ⟨w.heap.size,i+1,none⟩) (n-i) dc,.slice (some ⟨b,i,none⟩) (n-i) sc]).run Tryz.prog W=.ok (goInt (n-i:Nat)) (W.setCells w.heap.size (i+1) (cs.drop (i))):=fun W hWc hWf ty dc sc =>
  Hu W _ _ ty 134 w.heap.size (i+1) (n-i) dc ⟨b,i,none⟩ (n-i) sc 1 (n-i) (cs.drop (i)) Tryz.underlying26 hsz (by simp only [Nat.min_def];split <;> omega) hdl
   (fun j v hj=>by
    rw [Addr.add_lit,hWc,World.cell?_setCells_out _ _ _ _ _ (fun h _=>absurd h hbN)]
    exact hOb _ v (hcs (i+j) v (by rwa [List.getElem?_drop] at hj)))
   (fun j hj=>by rw [hWc];exact isSome_setCells w.heap.size vs (i) W1 (fun t ht=>hN _ (by omega)) _ (hN _ (by rw [hdl] at hj;omega)))
   (fun j hj=>by rw [hWf,World.frozen?_setCells];exact hNf _) (fun v hv=>h1c v (List.mem_of_mem_drop hv))
 subst hW1
 have hE1:∀ x,((w.alloc (.cells ROW 134)).drew).cell? x=(w.drew.alloc (.cells ROW 134)).cell? x:=fun x=>rfl
 have hE2:∀ x,((w.alloc (.cells ROW 134)).drew).frozen? x=(w.drew.alloc (.cells ROW 134)).frozen? x:=fun x=>rfl
 have hF1:∀ x,(((w.alloc (.cells ROW 134)).drew.setCells w.heap.size (i) vs).drew).cell? x=((w.drew.alloc (.cells ROW 134)).setCells w.heap.size (i) vs).cell? x:=fun x=>rfl
 have hF2:∀ x,(((w.alloc (.cells ROW 134)).drew.setCells w.heap.size (i) vs).drew).frozen? x=((w.drew.alloc (.cells ROW 134)).setCells w.heap.size (i) vs).frozen? x:=fun x=>rfl
 have hw1:IntKind.i64.wrap ((i:Int)+1)=(i:Int)+1:=by rw [IntKind.wrap_i64];omega
 have hb1:(0:Int)≤(i:Int)+1:=by omega
 have hin:i≤n:=by omega
 have htn:((i:Int)+1).toNat=i+1:=by omega
 have hb3:(i:Int)≤(n:Int):=by omega
 clear hkk hik hold hROW hG hRl htl hzc
 go_enter Tryz.func256,Tryz.ntmps256
 go_wp2_with (first
  | (at_builtin;refine Lib.wpList_append_run _ rfl _ _ _ _ rfl _ _ rfl rfl _ _ (hrz _) ?_)
  | (at_builtin;refine wpList_copy_runI _ rfl _ _ 26 26 rfl _ _ rfl rfl (hcpA _ hE1 hE2 _ _) ?_)
  | (at_builtin;refine wpList_copy_runI _ rfl _ _ 26 26 rfl _ _ rfl rfl (hcpB _ (fun _=>rfl) (fun _=>rfl) _ _ _) ?_))
 go_region_law_o (refine step_copy_runI rfl _ _ 26 26 rfl (.slice (some ⟨w.heap.size,i+1,none⟩) (n-i) (G-(i+1))) (.slice (some ⟨b,i,none⟩) (n-i) (c-i)) (by simp [Act.eval,Act.put]) (by simp [Act.eval,Act.put]) (hcpB _ hF1 hF2 3 (G-(i+1)) (c-i)) ?_)
 go_wp2
 go_ret
 exact ⟨R,R⟩
set_option maxHeartbeats 4000000 in
theorem Ah5 (vb vc:Nat) (vs:List Value) (w:World) (i0:TypeInfo) (hi0:Tryz.prog.info? 134=some i0) (hz0:i0.zero=some (.agg #[.slice none 0 0])) (hs0:i0.size=1)
  (hfit:Builtin.nextslicecap (0+1) 0*i0.bytes≤281474976710656) (hvl:vs.length=1)
  (hvs:∀ j v,vs[j]? = some v→w.cell? ⟨vb,j,none⟩=some v) (h1v:∀ v ∈ vs,v.oneCell'=true) :
  Calls Tryz.prog 256 #[.slice none 0 0,.int .i64 ((0:Nat):Int),.slice (some ⟨vb,0,none⟩) 1 vc] w fun e w' =>
   e=.returned (.slice (some ⟨w.heap.size,0,none⟩) (0+1) (grownCap w (0+1) 0 134)) ∧
   w'=w.drew.alloc (.cells (([]++vs).toArray++Builtin.zeroCells (Value.cells (.agg #[.slice none 0 0])) (grownCap w (0+1) 0 134-(0+1))) 134):=by
 have hsrc:_root_.Go.Src Tryz.prog i0.size 26 (.slice (some ⟨vb,0,none⟩) 1 vc) 1 vs w:=by
  rw [hs0]
  exact _root_.Go.Src.ofSlice w Tryz.underlying26 ⟨vb,0,none⟩ 1 vc vs (by omega) (fun j u hj=>by rw [Addr.add_lit,Nat.zero_add];exact hvs j u hj) h1v
 have hold:(Builtin.firstCells i0.size 0 (.slice none 0 0)).run Tryz.prog w.drew=.ok ([]:List Value).toArray w.drew:=by
  rw [hs0]
  exact run_firstCells_none w.drew 1 0 0 0
 have hrun:∀ ty,(Builtin.append_ #[26,26] ty #[.slice none 0 0,.slice (some ⟨vb,0,none⟩) 1 vc]).run Tryz.prog w=.ok (.slice (some ⟨w.heap.size,0,none⟩) (0+1) (grownCap w (0+1) 0 134)) (w.drew.alloc (.cells (([]++vs).toArray++Builtin.zeroCells (Value.cells (.agg #[.slice none 0 0])) (grownCap w (0+1) 0 134-(0+1))) 134)):=fun ty =>
  run_append_grow_src w 26 26 ty 134 i0 _ Tryz.underlying26 hi0 hz0 none 0 0 [] hold _ 1 vs hsrc (by omega) (by omega) hfit
 go_enter Tryz.func256,Tryz.ntmps256
 go_wp2_with (at_builtin;refine Lib.wpList_append_run _ rfl _ _ _ _ rfl _ _ rfl rfl _ _ (hrun _) ?_)
 all_goals (go_ret;first | exact ⟨rfl,rfl⟩ | exact ⟨rfl,by simp [Value.cells]⟩)
theorem Aga:(Tryz.prog.info? 134).map (fun i=>(i.zero,i.size,i.bytes))=some (some (.agg #[.slice none 0 0]),1,24):=by kernel_rfl
theorem Aox {cs vs:List Lf} {n i:Nat} (hcl:cs.length=n*1) (hvl:vs.length=1) (hi:i≤n) (hn:(n+1)*24≤140737488355328) :
  De Tryz.prog 256 [.arr 134 1 0 cs,.arr 134 1 0 vs] [.one (.ls 0 n),.one (Ii6 (i:Int)),.one (.ls 1 1)] (fun y m'=>y=.s (.one (.ls 0 (n+1)))∧m'=[.arr 134 1 0 (cs.take (i*1)++vs++cs.drop (i*1)),.dead]):=by
 refine Wv (by decide) hcl hvl (fun w v1 vb vc cur2 xs ys hown hg2 hcell hyl hne hx1 hy1=>?_)
 obtain ⟨i0,hi0,hz0,hs0,hb0⟩:=info_parts Aga
 have hxl:=hown.1
 have hfitG:∀ {old},old<n+1→Builtin.nextslicecap (n+1) old*i0.bytes≤281474976710656:=fun h=>growslice_fits h (by rw [hb0];exact hn)
 have hsz':(Tryz.prog.info? 134).map (·.size)=some 1:=by rw [hi0];simp [hs0]
 have hzc:∀ k,(Builtin.zeroCells (Value.cells (.agg #[.slice none 0 0])) k).size=k*1:=fun k=>by simp [Builtin.zeroCells,Value.cells]
 have hg63:∀ c,grownCap w (n+1) c 134≤maxLen:=fun c=>grownCap_le_maxLen w (n+1) c 134 (by unfold maxLen;omega)
 have hgge:∀ c,n+1≤grownCap w (n+1) c 134:=fun c=>grownCap_ge w _ _ _
 rcases hown.2 with ⟨rfl,h0⟩ | ⟨g,cap,cur,rfl,_,hg,hnc,hcm,hcs,hct⟩
 ·subst h0
  have hi0':i=0:=by omega
  subst hi0'
  have hx0:xs=[]:=List.length_eq_zero_iff.1 (hxl.trans (Nat.zero_mul _))
  subst hx0
  refine (Ah5 vb vc ys w i0 hi0 hz0 hs0 (hfitG (by omega)) hyl hcell hy1).mono ?_
  rintro e w' ⟨rfl,rfl⟩
  refine ⟨_,w.heap.size,R,Ot (hgge 0) (hg63 0) ?_ ?_,.inr (Nat.le_refl _)⟩
  ·have:=hgge 0
   rw [Array.size_append,hzc,List.size_toArray,List.nil_append,hyl];omega
  ·rw [Array.toList_append,List.toList_toArray,List.take_left' (by rw [List.nil_append,hyl])]
   simp
 ·have hcur:cur.toList.length=cap*1:=by rw [Array.length_toList];exact hcs
  have hcell1:∀ j v,xs[j]? = some v→w.cell? ⟨g,j,none⟩=some v:=fun j v hj=>by
   unfold World.cell?
   rw [hg]
   rw [← hct,List.getElem?_take] at hj
   split at hj
   ·simpa using hj
   ·cases hj
  have hc63:cap≤9223372036854775807:=by unfold maxLen at hcm;exact hcm
  have hsome:∀ j,j<cap*1→(w.cell? ⟨g,j,none⟩).isSome=true:=fun j hj=>by
   unfold World.cell?
   rw [hg]
   show (cur[j]?).isSome=true
   rw [Array.getElem?_eq_getElem (by omega)];rfl
  have hfrz:∀ j,w.frozen? ⟨g,j,none⟩=false:=fun j=>by
   unfold World.frozen?
   rw [hg]
   show (decide (0≤j) && decide (j<0))=false
   rw [decide_eq_false (Nat.not_lt_zero j),Bool.and_false]
  have hfrz2:∀ j,w.frozen? ⟨vb,j,none⟩=false:=fun j=>by
   unfold World.frozen?
   rw [hg2]
   show (decide (0≤j) && decide (j<0))=false
   rw [decide_eq_false (Nat.not_lt_zero j),Bool.and_false]
  have hvb:vb≠g:=fun e=>hne (by rw [e];rfl)
  rcases Nat.lt_or_eq_of_le hi with hlt | rfl
  ·rcases Nat.lt_or_ge cap (n+1) with hroom | hroom
   ·refine (Afv g n cap i vb vc xs ys w i0 hi0 hz0 hs0 hlt hnc hroom (by omega) (by rw [hb0];omega) (hfitG hroom) hxl hyl hcell1 hcell hx1 hy1).mono ?_
    rintro e w' ⟨rfl,rfl⟩
    have hge:=hgge cap
    have htl:(xs.take (i*1)).length=i*1:=by rw [List.length_take];omega
    have:=Tn (E:=134) (sz:=1) (w:=w) (row:=(xs.take (i*1)).toArray++Builtin.zeroCells (Value.cells (.agg #[.slice none 0 0])) (n+1-i)++Builtin.zeroCells (Value.cells (.agg #[.slice none 0 0])) (grownCap w (n+1) cap 134-(n+1))) (xs:=xs.take (i*1)) (vs:=ys) (D:=xs.drop (i*1)) hlt hge (hg63 cap)
     (by rw [Array.size_append,Array.size_append,hzc,hzc,List.size_toArray,htl];omega) hyl (by rw [List.length_drop,hxl];omega)
     (by rw [Array.toList_append,Array.toList_append,List.toList_toArray,List.append_assoc,List.take_left' htl])
    refine ⟨_,w.heap.size,R,?_,.inr (Nat.le_refl _)⟩
    first | exact this | simpa only [Nat.mul_one] using this
   ·refine (Acm g n cap i vb vc xs ys w hsz' hlt hroom hc63 hvb hxl hyl hcell1 (fun j hj=>hsome j (by omega)) (fun j _=>hfrz j) hcell hx1 hy1 134 134 cur2.size cur.size (by unfold World.shape?;rw [hg2]) (by unfold World.shape?;rw [hg]) (by omega) (hfrz2 _) (hfrz2 _)).mono ?_
    rintro e w' ⟨rfl,rfl⟩
    have:=Rz (E:=134) (sz:=1) (b:=g) (vs:=ys) hg hlt hroom hcm hcs hyl
    rw [hct] at this
    refine ⟨_,g,R,?_,.inl R⟩
    first | exact this | simpa only [Nat.mul_one] using this
  ·have hxe:xs.take (i*1)++ys++xs.drop (i*1)=xs++ys:=by
    rw [List.take_of_length_le (by omega),List.drop_of_length_le (by omega),List.append_nil]
   rw [hxe]
   rcases Nat.lt_or_ge cap (i+1) with hroom | hroom
   ·refine (Adm g i cap vb vc xs ys w i0 hi0 hz0 hs0 hnc hroom (by omega) (hfitG hroom) hxl hyl hcell1 hcell hy1).mono ?_
    rintro e w' ⟨rfl,rfl⟩
    have hge:=hgge cap
    refine ⟨_,w.heap.size,R,Ot hge (hg63 cap) ?_ ?_,.inr (Nat.le_refl _)⟩
    ·rw [Array.size_append,hzc,List.size_toArray,List.length_append,hxl,hyl];omega
    ·rw [Array.toList_append,List.toList_toArray,List.take_left' (by rw [List.length_append,hxl,hyl];omega)]
   ·refine (Aja g i cap vb vc ys w i0 hi0 hs0 hroom hc63 hyl (fun j hj=>hsome _ (by omega)) (fun j _=>hfrz _) hcell hy1).mono ?_
    rintro e w' ⟨rfl,rfl⟩
    have:=U4 (E:=134) (sz:=1) (n:=i) (b:=g) (vs:=ys) hg hroom hcm hcs hyl
    rw [hct] at this
    exact ⟨_,g,R,this,.inl R⟩
end
def Qw (a0:List An) (a1:Int) (a2:List An):Option (List An):=Amr 24 a0 a1 a2
theorem Ua {a0:List An} {a1:Int} {a2 r:List An} (h:Qw a0 a1 a2=some r):De Tryz.prog 256 [.arr 134 1 0 (a0.flatMap Aw),.arr 134 1 0 (a2.flatMap Aw)] [.one (.ls 0 a0.length),.one (Ii6 a1),.one (.ls 1 a2.length)] (fun y m'=>y=.s (.one (.ls 0 r.length))∧m'=[.arr 134 1 0 (r.flatMap Aw),.dead]) :=
 Alg (f:=Aw) (fun _=>rfl) Aox h
def I9 (a0:Int) (b1:Unit):Option (List A3) :=
 if (decide (0<(wI (a0-(wI (0-0)))))) then (if 0<(wI (a0-(wI (0-0))))∧(wI (a0-(wI (0-0))))*((40:Nat):Int)≤281474976710656 then (if (0:Int)≤0∧0≤((List.replicate (wI (a0-(wI (0-0)))).toNat (A3.mk 0 ([]:List UInt8) false)).length:Int) then (some ((List.replicate (wI (a0-(wI (0-0)))).toNat (A3.mk 0 ([]:List UInt8) false)).take (0:Int).toNat)) else none) else none) else (some ([]:List A3))
def J5 (a0:Int):Option (List A3) :=
 if (decide (a0<0)) then none else (I9 a0 ())
theorem Vi {a0:Int} {r:(List A3)} (h:J5 a0=some r):De Tryz.prog 281 [] [.one (Znl),.one (Ii6 a0)] (fun y m'=>y=.s (.one (.ls 0 r.length))∧m'=[.arr 136 3 0 (r.flatMap A7)]):=by
 unfold J5 at h
 refine Da Tryz.func281 R (nt:=27) R (Nbl R) ?_
 intro w0 S0 X0 H0
 refine csr (rm 1 R (Ai (Br (csr (rm 1 R (sv R (Bw R R) (Ai (Dt (Unit) (fun b1=>[(0,.s (.one (Znl))),(1,.s (.one (Ii6 a0)))]) (fun b1=>[]) (fun b1=>I9 a0 b1=some r) (fun _ _=>A5 R) (fun _ _=>Ap R) (fun _ _=>Nbl R) (fun b1 h=>?_) ?_))))))))
 ·unfold I9 at h
  refine Br (csr (rm 2 R (sv R (Gj Vy R) (rm 1 R (sv R (Fp Vy R) (sv R (Nh R R) (sv R (Nh R R) (rm 1 R (Ai (csr (rm 1 R (sv R (C7 R R) (Ai (ccI h R (fun h=>?_) (fun h=>?_)))))))))))))))
  ·refine As (rm 2 R (sv R (Gj Vy R) (sv R (Mj Vy R R) (sv R (Bc R) ?_))))
   obtain ⟨hm2,h⟩:=Cy h
   refine Ahj (f:=A7) (z:=(A3.mk 0 ([]:List UInt8) false)) R Tryz.underlying132 Al2 Tryz.underlying3 (fun _=>R) R R R hm2 (by decide) ?_
   refine rm 1 R (sv R (Fp Vy R) ?_)
   obtain ⟨hs3,h⟩:=Cy h
   refine Aau (f:=A7) R Vy (fun _=>R) R R R R R hs3 ?_
   refine rm 1 R (Ai (csr (rm 2 R (Ai (Bv ?_)))))
   obtain rfl:=SJ h
   exact ⟨Or.inr R,_,[1],[.one (.ls 0 ((List.replicate (wI (a0-(wI (0-0)))).toNat (A3.mk 0 ([]:List UInt8) false)).take (0:Int).toNat).length)],[.arr 136 3 0 (((List.replicate (wI (a0-(wI (0-0)))).toNat (A3.mk 0 ([]:List UInt8) false)).take (0:Int).toNat).flatMap A7)],(Ad (rt R) Ah),R,R,⟨by decide,R⟩,R,R,⟨R,R⟩⟩
  ·refine Bj (Ab (csr (rm 2 R (Ai ?_))))
   refine D1 136 3 4 (by decide) R ?_
   refine Bv ?_
   obtain rfl:=SJ h
   exact ⟨Or.inr R,_,[0],[.one (.ls 0 ([]:List A3).length)],[.arr 136 3 0 (([]:List A3).flatMap A7)],(Ad (rt R) Ah),R,R,⟨by decide,R⟩,R,R,⟨R,R⟩⟩
 ·skip
  refine ccI h R (fun h=>?_) (fun h=>?_)
  ·cases h
  ·refine Bj (Ab ?_)
   exact ⟨(),_,h,⟨R,R,trivial⟩,R⟩
def K6 (b3:(List A3)):Option (List A3) :=
 some b3
def Ed (a0:List (List A3)) (s4:Int × (List A3)):Option (LB (Int × (List A3)) ((List A3))) :=
 if (decide (s4.1<(a0.length:Int))) then ((idx a0 s4.1).bind fun u5=>if (s4.2.length+u5.length)*40≤140737488355328 then (some (.cont ((wI (s4.1+1)),(s4.2++u5)))) else none) else (some (.brk s4.2))
def Hn (a0:List (List A3)) (b1:Int):Option (List A3) :=
 (J5 b1).bind fun v2=>(C5 (Ed a0) fuel (0,v2)).bind fun e7=>K6 e7
def D9 (a0:List (List A3)) (s8:Int × Int):Option (LB (Int × Int) (Int)) :=
 if (decide (s8.2<(a0.length:Int))) then ((idx a0 s8.2).bind fun u9=>if (decide ((wI (s8.1+(u9.length:Int)))<0)) then none else (some (.cont ((wI (s8.1+(u9.length:Int))),(wI (s8.2+1)))))) else (some (.brk s8.1))
def Hg (a0:List (List A3)):Option (List A3) :=
 (C5 (D9 a0) fuel (0,0)).bind fun e10=>Hn a0 e10
theorem Tc {a0:List (List A3)} {r:(List A3)} (h:Hg a0=some r):De Tryz.prog 275 [] [.one (.sl a0.length (a0.flatMap (eL A7)))] (fun y m'=>y=.s (.one (.ls 0 r.length))∧m'=[.arr 136 3 0 (r.flatMap A7)]):=by
 unfold Hg at h
 refine Da Tryz.func275 R (nt:=36) R (Nbl R) ?_
 intro w0 S0 X0 H0
 refine csr (rm 1 R (Ai (csr (rm 1 R (Ai (Br (csr (rm 1 R (sv R (Ax Am5 R) (rm 1 R (Ai (Dt (Int) (fun b1=>[(0,.s (.one (.sl a0.length (a0.flatMap (eL A7))))),(3,.s (.one (Ii6 b1)))]) (fun b1=>[]) (fun b1=>Hn a0 b1=some r) (fun _ _=>A5 R) (fun _ _=>Ap R) (fun _ _=>Nbl R) (fun b1 h=>?_) ?_))))))))))))
 ·unfold Hn at h
  refine csr (sv R (Bc R) ?_)
  obtain ⟨v2,hv2,h⟩:=Ae h
  refine Ho (x':=.s (.one (.ls 0 v2.length))) (M':=[.arr 136 3 0 (v2.flatMap A7)]) [] R Axc (.func _) (Aa R (Aa R Af)) (Vi hv2) R R (by decide) R R R ?_
  refine rm 1 R (Ai (Br (csr (rm 1 R (sv R (Ax Am5 R) (rm 1 R (Ai (Dt ((List A3)) (fun b3=>[(6,.s (.one (.ls 0 b3.length)))]) (fun b3=>[.arr 136 3 0 (b3.flatMap A7)]) (fun b3=>K6 b3=some r) (fun _ _=>A5 R) (fun _ _=>Ap R) (fun _ _=>Nbl R) (fun b3 h=>?_) ?_))))))))
  ·unfold K6 at h
   refine csr (rm 2 R (Ai (Bv ?_)))
   obtain rfl:=SJ h
   exact ⟨Or.inr R,_,[0],[.one (.ls 0 b3.length)],[.arr 136 3 0 (b3.flatMap A7)],(Ad (rt R) Ah),R,R,⟨by decide,R⟩,R,R,⟨R,R⟩⟩
  ·skip
   refine Bu ?_
   obtain ⟨x4,hx4,ho4⟩:=Ae h
   refine B6 (G:=Nat × (Int × (List A3))) (fun g=>[(6,.s (.one (.ls 0 g.2.2.length))),(25,.s (.one (.sl a0.length (a0.flatMap (eL A7))))),(26,.s (.one (Ii6 (a0.length:Int)))),(27,.s (.one (Ii6 g.2.1)))]) (fun g=>[.arr 136 3 0 (g.2.2.flatMap A7)]) (fun g=>C5 (Ed a0) g.1 g.2=some x4) (fun g=>g.1) (fuel,(0,v2)) hx4 ⟨R,R,R,R,trivial⟩ [] R (fun _ _=>A5 R) (fun _ _=>Ap R) (fun _ _=>Nbl R) ?_
   clear hx4 h
   rintro ⟨n4,s4⟩ h
   obtain ⟨n4,y4,rfl,h,hk4⟩:=C8 h
   unfold Ed at h
   refine csr (sv R (Bw R R) (Ai (Br (ccI h R (fun h=>?_) (fun h=>?_)))))
   ·refine Bj (Ab (Br (Bu (Br (As ?_)))))
    obtain ⟨u5,hu5,h⟩:=Ae h
    refine sv R (Cb (f:=(eL A7)) Am5 (fun _=>R) R R R R hu5) ?_
    refine sv R (Ak Z4 R (.cp _) R) (rm 1 R (Ai (As (rm 1 R (sv R (Bc R) ?_)))))
    obtain ⟨hb6,h⟩:=Cy h
    refine Wb (f:=A7) (xs:=s4.2) (us:=u5) R Tryz.underlying132 Al2 Ath (fun _=>R) R R (.one _ _ _ _ (.id _ R)) R R R (.sl _ _ _ (A1 (f:=A7) (fun _=>R) _)) R R hb6 (by decide) ?_
    refine rm 1 R (Ks (Ar (Ab (As (sv R (Bs R R) (rm 1 R (Ai ?_)))))))
    obtain rfl:=SJ h
    exact ⟨(n4,((wI (s4.1+1)),(s4.2++u5))),_,hk4,⟨R,R,R,R,trivial⟩,R,Nat.lt_succ_self _⟩
   ·refine Di (Au (Au (Bn (Ab ?_))))
    obtain rfl:=SJ h
    obtain rfl:_=x4:=hk4
    exact ⟨s4.2,_,ho4,⟨R,trivial⟩,R⟩
 ·skip
  refine Bu ?_
  obtain ⟨x8,hx8,ho8⟩:=Ae h
  refine B6 (G:=Nat × (Int × Int)) (fun g=>[(0,.s (.one (.sl a0.length (a0.flatMap (eL A7))))),(3,.s (.one (Ii6 g.2.1))),(9,.s (.one (.sl a0.length (a0.flatMap (eL A7))))),(10,.s (.one (Ii6 (a0.length:Int)))),(11,.s (.one (Ii6 g.2.2)))]) (fun g=>[]) (fun g=>C5 (D9 a0) g.1 g.2=some x8) (fun g=>g.1) (fuel,(0,0)) hx8 ⟨R,R,R,R,R,trivial⟩ [] R (fun _ _=>A5 R) (fun _ _=>Ap R) (fun _ _=>Nbl R) ?_
  clear hx8 h
  rintro ⟨n8,s8⟩ h
  obtain ⟨n8,y8,rfl,h,hk8⟩:=C8 h
  unfold D9 at h
  refine csr (sv R (Bw R R) (Ai (Br (ccI h R (fun h=>?_) (fun h=>?_)))))
  ·refine Bj (Ab (Br (Bu (Br (As ?_)))))
   obtain ⟨u9,hu9,h⟩:=Ae h
   refine sv R (Cb (f:=(eL A7)) Am5 (fun _=>R) R R R R hu9) ?_
   refine sv R (Ak Z4 R (.cp _) R) (rm 1 R (Ai (csr (rm 2 R (sv R (Ax Vy R) (sv R (Bs R R) (rm 1 R (Ai (csr (rm 1 R (sv R (Bw R R) (Ai (ccI h R (fun h=>?_) (fun h=>?_))))))))))))))
   ·cases h
   ·refine Bj (Ar (Ab (As (sv R (Bs R R) (rm 1 R (Ai ?_))))))
    obtain rfl:=SJ h
    exact ⟨(n8,((wI (s8.1+(u9.length:Int))),(wI (s8.2+1)))),_,hk8,⟨R,R,R,R,R,trivial⟩,R,Nat.lt_succ_self _⟩
  ·refine Di (Au (Au (Bn (Ab ?_))))
   obtain rfl:=SJ h
   obtain rfl:_=x8:=hk8
   exact ⟨s8.1,_,ho8,⟨R,R,trivial⟩,R⟩
def Lb (a0:An) (a1:A3) (b1:Unit):Option (An × Int) :=
 (Jn a0).bind fun v2=>if (decide (a1.Ts≤v2)) then (some ((An.mk ([]:List A3)),7)) else ((Hg [a0.L,[a1]]).bind fun v3=>some ((An.mk v3),0))
def Mb (a0:An) (a1:A3):Option (An × Int) :=
 (Ey (An.mk a0.L)).bind fun v4=>if (!v4) then (some ((An.mk ([]:List A3)),1)) else ((Gf a1).bind fun v5=>if (!v5) then (some ((An.mk ([]:List A3)),1)) else (Lb a0 a1 ()))
theorem Wy {a0:An} {a1:A3} {r:An × Int} (h:Mb a0 a1=some r):Bt Tryz.prog 257 [.agg [.sl a0.L.length (a0.L.flatMap A7)],.agg (EL.el a1)] (·=.tup [.agg [.sl r.1.L.length (r.1.L.flatMap A7)],.one (Ii6 r.2)]):=by
 unfold Mb at h
 refine A4 Tryz.func257 R (nt:=28) R (Nbl R) ?_
 intro w0 S0
 refine csr (F0 R R (F0 R R (Bq R X5 (rm 1 R (Ai (Br (Br (Hp (Unit) (fun b1=>[(2,.s (.one (.lp 0 0))),(3,.s (.one (.lp 1 0))),(4,.s (.one (.lp 2 0)))]) (fun b1=>[.box [.sl a0.L.length (a0.L.flatMap A7)],.box (EL.el a1),.box [Znl]]) (fun b1=>Lb a0 a1 b1=some r) (fun _ _=>A5 R) (fun _ _=>Ap R) (fun _ _=>Nbl R) (fun b1 h=>?_) ?_))))))))
 ·unfold Lb at h
  refine Br (Br ?_)
  refine Z9 mixed (by kernel_rfl) ?_
  refine dv R (Ac Vq R) (dv R (Ak ti3 R (.lp _ _ _ R) R) (dv R (Bf Oh R (.lp _ _ _ R) (Nbl R)) ?_))
  obtain ⟨v2,hv2,h⟩:=Ae h
  refine dd R (C9 Atg (Aa R Af) R (Rt hv2)) (dv R (Dj R R) (Adw (Ab (ccI h R (fun h=>?_) (fun h=>?_)))))
  ·refine csr (sv R (A6 X5 Aiu Az (.nil _)) (sst X8 R R R R R (rm 1 R (Ai (Bv (Ag ?_))))))
   obtain rfl:=SJ h
   exact dn (Ad (ra Oh R R R) (Ad (rt R) Ah)) (Iz R) R
  ·refine Bj (Ab (csr (fl Sx Z4 R R R R R R (sv R (Bf Aek R (.lp _ _ _ R) (Nbl R)) ?_))))
   refine Gk R Tryz.underlying132 Al2 R R (List.all_eq_true.1 R) (by decide) ?_
   refine P4 [.box [.sl a0.L.length (a0.L.flatMap A7)],.box (EL.el a1),.box [Znl],.arr 136 3 0 ([a1].flatMap A7)] R ?_
   refine Aii 24 R (by (repeat' first | exact J7.nil _ | apply J7.cons | apply Jm.one | apply Jm.agg | exact Dm.nil | exact Dm.ls _ _ _ _ _ _ R (A1 (f:=A7) (fun _=>R) ([a1]:List A3)).symm | exact Dm.ls _ _ _ _ _ _ R (A1 (f:=A7) (fun _=>R) _).symm | exact Dm.id _ R | exact Cw.nil _ | apply Cw.cons)) ?_
   refine Afh (out:=([a0.L,[a1]]:List (List A3)).flatMap (eL A7)) R Tryz.underlying408 Awb (Av R (Av R Az)) (.cons _ _ _ _ _ _ _ R R (Nbl R) (.cons _ _ _ _ _ _ _ R R (Nbl R) (.nil _))) R (by decide) ?_
   refine Aii 25 R (by (repeat' first | exact J7.nil _ | apply J7.cons | apply Jm.one | apply Jm.agg | exact Dm.nil | exact Dm.ls _ _ _ _ _ _ R (A1 (f:=(eL A7)) (fun _=>R) ([a0.L,[a1]]:List (List A3))).symm | exact Dm.ls _ _ _ _ _ _ R (A1 (f:=(eL A7)) (fun _=>R) _).symm | exact Dm.ls _ _ _ _ _ _ R (A1 (f:=A7) (fun _=>R) _).symm | exact Dm.id _ R | exact Cw.nil _ | apply Cw.cons)) ?_
   obtain ⟨v3,hv3,h⟩:=Ae h
   refine Ho (x':=.s (.one (.ls 5 v3.length))) (M':=[.box [.sl a0.L.length (a0.L.flatMap A7)],.box (EL.el a1),.box [Znl],.arr 136 3 ([a1].flatMap A7).length ([a1].flatMap A7),.arr 132 1 ([a0.L,[a1]].flatMap (eL A7)).length ([a0.L,[a1]].flatMap (eL A7)),.arr 136 3 0 (v3.flatMap A7)]) [] R Avz (.func _) (Aa R Af) (Tc hv3) R R (by decide) R R R ?_
   refine sv R (A6 X5 Aiu (Av R Az) (.cons _ _ _ _ _ _ _ R R (Nbl R) (.nil _))) (sst X8 R R R R R (rm 1 R (Ai (Bv ?_))))
   obtain rfl:=SJ h
   refine ⟨Or.inr R,_,_,_,(Ad (ra Oh R R R) (Ad (rt R) Ah)),(by (repeat' first | exact J7.nil _ | apply J7.cons | apply Jm.one | apply Jm.agg | exact Dm.nil | exact Dm.ls _ _ _ _ _ _ R (A1 (f:=(eL A7)) (fun _=>R) _).symm | exact Dm.ls _ _ _ _ _ _ R (A1 (f:=A7) (fun _=>R) _).symm | exact Dm.id _ R | exact Cw.nil _ | apply Cw.cons)),?_⟩
   rfl
 ·skip
  refine As (sv R (Bf Oh R (.lp _ _ _ R) (Nbl R)) ?_)
  obtain ⟨v4,hv4,h⟩:=Ae h
  refine Bb R Ap6 (Aa R Af) (Ao R) (Ou hv4) (sv R (B2 R) (rm 1 R (ssI 9 h R (fun h=>?_) (fun h=>?_))))
  ·refine rm 4 R (Ai (Cp R (fun _=>?_) (fun hx=>Bool.noConfusion hx)))
   refine csr (sv R (A6 X5 Aiu Az (.nil _)) (sst X8 R R R R R (rm 1 R (Ai (Bv (Ag ?_))))))
   obtain rfl:=SJ h
   exact dn (Ad (ra Oh R R R) (Ad (rt R) Ah)) (Iz R) R
  ·refine son R R R (ld Aek R R R R (son R R R ?_))
   obtain ⟨v5,hv5,h⟩:=Ae h
   refine Bb R As1 (Aa R Af) (Ao R) (Pw hv5) (son R R R (sv R (B2 R) (rm 1 R (Ai (ccI h R (fun h=>?_) (fun h=>?_))))))
   ·refine csr (sv R (A6 X5 Aiu Az (.nil _)) (sst X8 R R R R R (rm 1 R (Ai (Bv (Ag ?_))))))
    obtain rfl:=SJ h
    exact dn (Ad (ra Oh R R R) (Ad (rt R) Ah)) (Iz R) R
   ·refine Bj (Ab ?_)
    exact ⟨(),_,h,⟨R,R,R,trivial⟩,R⟩
def E0 (a2:Int) (a3:A8) (v1:Int × Bool) (b2:(List (List UInt8)) × (List An)):Option (Int × (List (List UInt8)) × (List An)) :=
 (idx b2.2 v1.1).bind fun u3=>(Mb u3 (A3.mk a2 a3.Val a3.Del)).bind fun v4=>if (decide (v4.2=0)) then ((idx b2.2 v1.1).bind fun u5=>some (a2,b2.1,(b2.2.set v1.1.toNat v4.1))) else (some (a2,b2.1,b2.2))
def Mc (a0:List (List UInt8)) (a1:List An) (a2:Int) (a3:A8):Option (Int × (List (List UInt8)) × (List An)) :=
 (M6 a0 a3.Key).bind fun v1=>if (!v1.2) then ((Qx a0 v1.1 [a3.Key]).bind fun v6=>(Qw a1 v1.1 [(An.mk ([]:List A3))]).bind fun v7=>E0 a2 a3 v1 (v6,v7)) else (E0 a2 a3 v1 (a0,a1))
theorem Xc {a0:List (List UInt8)} {a1:List An} {a2:Int} {a3:A8} {r:Int × (List (List UInt8)) × (List An)} (h:Mc a0 a1 a2 a3=some r):De Tryz.prog 216 [.arr 56 1 0 (a0.flatMap (eL eU8)),.arr 134 1 0 (a1.flatMap Aw)] [.agg [.ls 0 a0.length,.ls 1 a1.length,Ii6 a2],.agg (EL.el a3)] (fun y m'=>y=.s (.agg [.ls 0 r.2.1.length,.ls 1 r.2.2.length,Ii6 r.1])∧m'=[.arr 56 1 0 (r.2.1.flatMap (eL eU8)),.arr 134 1 0 (r.2.2.flatMap Aw)]):=by
 unfold Mc at h
 refine Da Tryz.func216 R (nt:=58) R (Nbl R) ?_
 intro w0 S0 X0 H0
 refine csr (F0 R R (F0 R R (Bq R Aeb (Ai (csr (fl Q4 Abm R R R R R R (sv R (Ac Sa R) (sv R (Ak Nr R (.lp _ _ _ R) R) ?_))))))))
 obtain ⟨v1,hv1,h⟩:=Ae h
 refine Ho (x':=.tup [.one (Ii6 v1.1),.one (.b v1.2)]) (M':=[.arr 56 1 0 (a0.flatMap (eL eU8)),.arr 134 1 0 (a1.flatMap Aw),.box [.ls 0 a0.length,.ls 1 a1.length,Ii6 a2],.box (EL.el a3),.box [Znl,Znl,Ii6 0]]) [0] R Ava (.func _) (Aa R (Aa R Af)) (X1 hv1) R R (by decide) R R R ?_
 refine sv R (Cd R) (sv R (Aj R R) (sv R (Aj R R) (rm 2 R (Ai (Br (csr (rm 1 R (sv R (B2 R) (Ai (Dt ((List (List UInt8)) × (List An)) (fun b2=>[(2,.s (.one (.lp 2 0))),(3,.s (.one (.lp 3 0))),(4,.s (.one (.lp 4 0))),(5,.s (.one (Ii6 v1.1)))]) (fun b2=>[.arr 56 1 0 (b2.1.flatMap (eL eU8)),.arr 134 1 0 (b2.2.flatMap Aw),.box [.ls 0 b2.1.length,.ls 1 b2.2.length,Ii6 a2],.box (EL.el a3),.box [Znl,Znl,Ii6 0]]) (fun b2=>E0 a2 a3 v1 b2=some r) (fun _ _=>A5 R) (fun _ _=>Ap R) (fun _ _=>Nbl R) (fun b2 h=>?_) ?_))))))))))
 ·unfold E0 at h
  refine Br (Z0 ?_)
  obtain ⟨u3,hu3,h⟩:=Ae h
  obtain ⟨v4,hv4,h⟩:=Ae h
  refine Ki [16,17] [0,1,0,7,15,0,32,0,128,0,512,2016,4095,8191,16383,16383,0,98303,262143] [[.arr 56 1 0 (b2.1.flatMap (eL eU8)),.arr 134 1 0 (b2.2.flatMap Aw),.box [.ls 0 b2.1.length,.ls 1 b2.2.length,Ii6 a2],.box (EL.el a3),.box [Znl,Znl,Ii6 0],.hole],[.arr 56 1 0 (b2.1.flatMap (eL eU8)),.arr 134 1 0 (b2.2.flatMap Aw),.box [.ls 0 b2.1.length,.ls 1 b2.2.length,Ii6 a2],.box (EL.el a3),.box [Znl,Znl,Ii6 0],.box [Znl]],[.arr 56 1 0 (b2.1.flatMap (eL eU8)),.arr 134 1 0 (b2.2.flatMap Aw),.box [.ls 0 b2.1.length,.ls 1 b2.2.length,Ii6 a2],.box (EL.el a3),.box [Znl,Znl,Ii6 0],.box [.sl v4.1.L.length (v4.1.L.flatMap A7)]]] (by kernel_rfl) mixed (by kernel_rfl) (by decide) R R R R ?_
  refine evs (md:=[.arr 56 1 0 (b2.1.flatMap (eL eU8)),.arr 134 1 0 (b2.2.flatMap Aw),.box [.ls 0 b2.1.length,.ls 1 b2.2.length,Ii6 a2],.box (EL.el a3),.box [Znl,Znl,Ii6 0],.dead]) (fun hS=>ev (Ca hS) R R (Ac Qj R) (ev (Ca hS) R R (Ak Ahz R (.lp _ _ _ R) R) (emv R R (fun _=>Bc R) ?_))) ⟨⟨R,⟨R,⟨R,⟨R,⟨R,⟨trivial,trivial⟩⟩⟩⟩⟩⟩,⟨⟨R,⟨R,⟨R,⟨R,⟨R,⟨trivial,trivial⟩⟩⟩⟩⟩⟩,⟨⟨R,⟨R,⟨R,⟨R,⟨R,⟨trivial,trivial⟩⟩⟩⟩⟩⟩,trivial⟩⟩⟩
  refine ev (Ca (md:=[.arr 56 1 0 (b2.1.flatMap (eL eU8)),.arr 134 1 0 (b2.2.flatMap Aw),.box [.ls 0 b2.1.length,.ls 1 b2.2.length,Ii6 a2],.box (EL.el a3),.box [Znl,Znl,Ii6 0],.dead]) ⟨⟨rfl,⟨rfl,⟨rfl,⟨rfl,⟨rfl,⟨trivial,trivial⟩⟩⟩⟩⟩⟩,⟨⟨rfl,⟨rfl,⟨rfl,⟨rfl,⟨rfl,⟨trivial,trivial⟩⟩⟩⟩⟩⟩,⟨⟨rfl,⟨rfl,⟨rfl,⟨rfl,⟨rfl,⟨trivial,trivial⟩⟩⟩⟩⟩⟩,trivial⟩⟩⟩) rfl rfl (I4 (f:=Aw) Am4 (fun _=>rfl) rfl rfl rfl (by first | rfl | exact List.length_set.symm) rfl hu3) ?_
  refine ev (Ca (md:=[.arr 56 1 0 (b2.1.flatMap (eL eU8)),.arr 134 1 0 (b2.2.flatMap Aw),.box [.ls 0 b2.1.length,.ls 1 b2.2.length,Ii6 a2],.box (EL.el a3),.box [Znl,Znl,Ii6 0],.dead]) ⟨⟨R,⟨R,⟨R,⟨R,⟨R,⟨trivial,trivial⟩⟩⟩⟩⟩⟩,⟨⟨R,⟨R,⟨R,⟨R,⟨R,⟨trivial,trivial⟩⟩⟩⟩⟩⟩,⟨⟨R,⟨R,⟨R,⟨R,⟨R,⟨trivial,trivial⟩⟩⟩⟩⟩⟩,trivial⟩⟩⟩) R R (O1 (f:=Aw) (sz:=1) 0 Oh (fun _=>R) R R R R (L6 hu3).2 (Nbl R) R) ?_
  refine evs (md:=[.arr 56 1 0 (b2.1.flatMap (eL eU8)),.arr 134 1 0 (b2.2.flatMap Aw),.box [.ls 0 b2.1.length,.ls 1 b2.2.length,Ii6 a2],.box (EL.el a3),.box [Znl,Znl,Ii6 0],.dead]) (fun hS=>ev (Ca hS) R R (Ac Sb R) (ev (Ca hS) R R (Ak ti3 R (.lp _ _ _ R) R) (ev (Ca hS) R R (Ac Za R) (ev (Ca hS) R R (Ak Nr R (.lp _ _ _ R) R) (ev (Ca hS) R R (Ac Adq R) (ev (Ca hS) R R (Ak ti4 R (.lp _ _ _ R) R) (ev (Ca hS) R R (A6 Afj Aum (Av R (Av R (Av R Az))) (.cons _ _ _ _ _ _ _ R R (Nbl R) (.cons _ _ _ _ _ _ _ R R (Nbl R) (.cons _ _ _ _ _ _ _ R R (Nbl R) (.nil _))))) (ed (Ca hS) R R (C9 Axa (Aa R (Aa R Af)) R (Wy hv4)) (emv R R (fun _=>Cd R) ?_))))))))) ⟨⟨R,⟨R,⟨R,⟨R,⟨R,⟨trivial,trivial⟩⟩⟩⟩⟩⟩,⟨⟨R,⟨R,⟨R,⟨R,⟨R,⟨trivial,trivial⟩⟩⟩⟩⟩⟩,⟨⟨R,⟨R,⟨R,⟨R,⟨R,⟨trivial,trivial⟩⟩⟩⟩⟩⟩,trivial⟩⟩⟩
  refine evs (md:=[.arr 56 1 0 (b2.1.flatMap (eL eU8)),.arr 134 1 0 (b2.2.flatMap Aw),.box [.ls 0 b2.1.length,.ls 1 b2.2.length,Ii6 a2],.box (EL.el a3),.box [Znl,Znl,Ii6 0],.dead]) (fun hS=>ev (Ca hS) R R (Aj R R) (ev (Ca hS) R R (Aj R R) (ee (x:=.s (.one (.lp 5 0))) 0 R R R R R (fun ζ=>?_) ?_))) ⟨⟨R,⟨R,⟨R,⟨R,⟨R,⟨trivial,trivial⟩⟩⟩⟩⟩⟩,⟨⟨R,⟨R,⟨R,⟨R,⟨R,⟨trivial,trivial⟩⟩⟩⟩⟩⟩,⟨⟨R,⟨R,⟨R,⟨R,⟨R,⟨trivial,trivial⟩⟩⟩⟩⟩⟩,trivial⟩⟩⟩
  ·refine M8 5 R X5 R ?_
   exact Ta
  refine ee0 1 R R R R (fun ζ=>?_) ?_
  ·refine sst X8 R R R R R (P4 [.arr 56 1 0 (b2.1.flatMap (eL eU8)),.arr 134 1 0 (b2.2.flatMap Aw),.box [.ls 0 b2.1.length,.ls 1 b2.2.length,Ii6 a2],.box (EL.el a3),.box [Znl,Znl,Ii6 0],.box [.sl v4.1.L.length (v4.1.L.flatMap A7)]] R ?_)
   exact Ta
  refine ev (Bg 2 R R) R R (Ko R) (Abk (Ab (Br (csr (rm 1 R (sv R (B5 R R) (Ai (ccI h R (fun h=>?_) (fun h=>?_)))))))))
  ·refine As (fl Qj Ahz R R R R R R (rm 1 R (sv R (Bf Oh R (.lp _ _ _ R) (Nbl R)) ?_)))
   obtain ⟨u5,hu5,h⟩:=Ae h
   refine sv R (I4 (f:=Aw) Am4 (fun _=>R) R R R R R hu5) ?_
   refine Abd (f:=Aw) (u':=v4.1) (sz:=1) 0 X8 (fun _=>R) R R R R R R R (List.all_eq_true.1 R) (L6 hu5).2 (Nbl R) R ?_
   refine M0 36 (y:=.s (.one (.ls 1 b2.2.length))) (.s (.one (.ls 1 (b2.2.set v1.1.toNat v4.1).length))) R (congrArg (fun n=>AV.s (.one (.ls 1 n))) List.length_set.symm) ?_
   refine M0 53 (y:=.s (.one (.ls 1 b2.2.length))) (.s (.one (.ls 1 (b2.2.set v1.1.toNat v4.1).length))) R (congrArg (fun n=>AV.s (.one (.ls 1 n))) List.length_set.symm) ?_
   refine P4 [.arr 56 1 0 (b2.1.flatMap (eL eU8)),.arr 134 1 0 ((b2.2.set v1.1.toNat v4.1).flatMap Aw),.box [.ls 0 b2.1.length,.ls 1 b2.2.length,Ii6 a2],.box (EL.el a3),.box [Znl,Znl,Ii6 0],.box [.sl v4.1.L.length (v4.1.L.flatMap A7)]] R ?_
   refine P4 [.arr 56 1 0 (b2.1.flatMap (eL eU8)),.arr 134 1 0 ((b2.2.set v1.1.toNat v4.1).flatMap Aw),.box [.ls 0 b2.1.length,.ls 1 (b2.2.set v1.1.toNat v4.1).length,Ii6 a2],.box (EL.el a3),.box [Znl,Znl,Ii6 0],.box [.sl v4.1.L.length (v4.1.L.flatMap A7)]] (by rw [List.length_set]) ?_
   refine Ai (csr (ld Xk R R R R (sst Aez R R R R R (Ai (Bv ?_)))))
   obtain rfl:=SJ h
   exact ⟨Or.inr R,_,[0,1],[.agg [.ls 0 b2.1.length,.ls 1 (b2.2.set v1.1.toNat v4.1).length,Ii6 a2]],[.arr 56 1 0 (b2.1.flatMap (eL eU8)),.arr 134 1 0 ((b2.2.set v1.1.toNat v4.1).flatMap Aw)],(Ad (ra Xk R R R) Ah),R,R,⟨by decide,R⟩,R,R,⟨R,R⟩⟩
  ·refine Bj (Ab (csr (ld Xk R R R R (sst Aez R R R R R (Ai (Bv ?_))))))
   obtain rfl:=SJ h
   exact ⟨Or.inr R,_,[0,1],[.agg [.ls 0 b2.1.length,.ls 1 b2.2.length,Ii6 a2]],[.arr 56 1 0 (b2.1.flatMap (eL eU8)),.arr 134 1 0 (b2.2.flatMap Aw)],(Ad (ra Xk R R R) Ah),R,R,⟨by decide,R⟩,R,R,⟨R,R⟩⟩
 ·skip
  refine ccI h R (fun h=>?_) (fun h=>?_)
  ·refine csr (fl Q4 Abm R R R R R R (rm 1 R (sv R (Ac Sa R) (sv R (Ak Nr R (.lp _ _ _ R) R) ?_))))
   refine Gk R Tryz.underlying25 Ahl R R (List.all_eq_true.1 R) (by decide) ?_
   refine P4 [.arr 56 1 0 (a0.flatMap (eL eU8)),.arr 134 1 0 (a1.flatMap Aw),.box [.ls 0 a0.length,.ls 1 a1.length,Ii6 a2],.box (EL.el a3),.box [Znl,Znl,Ii6 0],.arr 56 1 0 ([a3.Key].flatMap (eL eU8))] R ?_
   obtain ⟨v6,hv6,h⟩:=Ae h
   refine Ho (x':=.s (.one (.ls 0 v6.length))) (M':=[.arr 56 1 0 (v6.flatMap (eL eU8)),.arr 134 1 0 (a1.flatMap Aw),.box [.ls 0 a0.length,.ls 1 a1.length,Ii6 a2],.box (EL.el a3),.box [Znl,Znl,Ii6 0],.dead]) [0,5] R Aw9 (.func _) (Aa R (Aa R (Aa R Af))) (Ug hv6) R R (by decide) R R R ?_
   refine sv R (Ac Q4 R) (sst Avh R R R R R (Ai (As (fl Qj Ahz R R R R R R (rm 1 R (sv R (A6 X5 Aiu Az (.nil _)) ?_))))))
   refine Aii 30 R (by (repeat' first | exact J7.nil _ | apply J7.cons | apply Jm.one | apply Jm.agg | exact Dm.nil | exact Dm.ls _ _ _ _ _ _ R (A1 (f:=(eL eU8)) (fun _=>R) _).symm | exact Dm.ls _ _ _ _ _ _ R (A1 (f:=Aw) (fun _=>R) _).symm | exact Dm.id _ R | exact Cw.nil _ | apply Cw.cons)) ?_
   refine Gk R Tryz.underlying26 Alm R R (List.all_eq_true.1 R) (by decide) ?_
   refine P4 [.arr 56 1 0 (v6.flatMap (eL eU8)),.arr 134 1 0 (a1.flatMap Aw),.box [.ls 0 v6.length,.ls 1 a1.length,Ii6 a2],.box (EL.el a3),.box [Znl,Znl,Ii6 0],.dead,.arr 134 1 0 ([(An.mk ([]:List A3))].flatMap Aw)] R ?_
   obtain ⟨v7,hv7,h⟩:=Ae h
   refine Ho (x':=.s (.one (.ls 1 v7.length))) (M':=[.arr 56 1 0 (v6.flatMap (eL eU8)),.arr 134 1 0 (v7.flatMap Aw),.box [.ls 0 v6.length,.ls 1 a1.length,Ii6 a2],.box (EL.el a3),.box [Znl,Znl,Ii6 0],.dead,.dead]) [1,6] R Avr (.func _) (Aa R (Aa R (Aa R Af))) (Ua hv7) R R (by decide) R R R ?_
   refine sv R (Ac Qj R) (sst Ax5 R R R R R (Ai ?_))
   exact ⟨(v6,v7),_,h,⟨R,R,R,R,trivial⟩,R⟩
  ·refine Bj (Ab ?_)
   exact ⟨(a0,a1),_,h,⟨R,R,R,R,trivial⟩,R⟩
def H6 (b5:(List (List UInt8)) × (List An) × Int):Option (B1 × Int) :=
 if (decide (128<(b5.1.length:Int))) then (some (O8,8)) else (some ((B1.mk b5.1 b5.2.1 b5.2.2),0))
def Ep (a2:List A8) (s6:Int × (List (List UInt8)) × (List An) × Int):Option (LB (Int × (List (List UInt8)) × (List An) × Int) ((List (List UInt8)) × (List An) × Int)) :=
 if (decide (s6.1<(a2.length:Int))) then ((idx a2 s6.1).bind fun u7=>(Mc s6.2.1 s6.2.2.1 s6.2.2.2 u7).bind fun v8=>some (.cont ((wI (s6.1+1)),v8.2.1,v8.2.2,v8.1))) else (some (.brk (s6.2.1,s6.2.2.1,s6.2.2.2)))
def Ik (a0:B1) (a1:Int) (a2:List A8) (b2:Unit):Option (B1 × Int) :=
 (H9 a0.Keys).bind fun v3=>(Il a0.Chains).bind fun v4=>(C5 (Ep a2) fuel (0,v3,v4,a1)).bind fun e9=>H6 e9
def Iu (a0:B1) (a1:Int) (a2:List A8) (b1:Unit):Option (B1 × Int) :=
 if (decide (a1≤a0.Ts)) then (some (O8,7)) else (if (decide (1099511627776<a1)) then (some (O8,7)) else (Ik a0 a1 a2 ()))
def D2 (a0:B1) (a1:Int) (a2:List A8):Option (B1 × Int) :=
 (C3 (B1.mk a0.Keys a0.Chains a0.Ts)).bind fun v10=>if (!v10) then (some (O8,1)) else ((F2 a2).bind fun v11=>if (!v11) then (some (O8,1)) else (Iu a0 a1 a2 ()))
theorem Uf {a0:B1} {a1:Int} {a2:List A8} {r:B1 × Int} (h:D2 a0 a1 a2=some r):Bt Tryz.prog 143 [.agg (EL.el a0),.one (Ii6 a1),.one (.sl a2.length (a2.flatMap Ba))] (·=.tup [.agg (EL.el r.1),.one (Ii6 r.2)]):=by
 unfold D2 at h
 refine A4 Tryz.func143 R (nt:=53) R (Nbl R) ?_
 intro w0 S0
 refine csr (F0 R R (Bq R Aeb (rm 1 R (Ai (Br (Br (Hp (Unit) (fun b1=>[(1,.s (.one (Ii6 a1))),(2,.s (.one (.sl a2.length (a2.flatMap Ba)))),(3,.s (.one (.lp 0 0))),(6,.s (.one (.lp 1 0)))]) (fun b1=>[.box (EL.el a0),.box [Znl,Znl,Ii6 0]]) (fun b1=>Iu a0 a1 a2 b1=some r) (fun _ _=>A5 R) (fun _ _=>Ap R) (fun _ _=>Nbl R) (fun b1 h=>?_) ?_)))))))
 ·unfold Iu at h
  refine Br (Br (Hp (Unit) (fun b2=>[(1,.s (.one (Ii6 a1))),(2,.s (.one (.sl a2.length (a2.flatMap Ba)))),(3,.s (.one (.lp 0 0))),(6,.s (.one (.lp 1 0)))]) (fun b2=>[.box (EL.el a0),.box [Znl,Znl,Ii6 0]]) (fun b2=>Ik a0 a1 a2 b2=some r) (fun _ _=>A5 R) (fun _ _=>Ap R) (fun _ _=>Nbl R) (fun b2 h=>?_) ?_))
  ·unfold Ik at h
   refine Br (Z0 (Z0 (Z0 ?_)))
   obtain ⟨v3,hv3,h⟩:=Ae h
   obtain ⟨v4,hv4,h⟩:=Ae h
   refine Aju [2,5,8,9] [0,1,3,0,8,31,0,127,0,511] [([false,false,false,false],[.box (EL.el a0),.box [Znl,Znl,Ii6 0],.hole,.hole,.hole]),([false,false,true,false],[.box (EL.el a0),.box [Znl,Znl,Ii6 0],.hole,.hole,.box [Znl,Znl,Ii6 0]]),([true,false,false,false],[.box (EL.el a0),.box [Znl,Znl,Ii6 0],.arr 56 1 0 (v3.flatMap (eL eU8)),.hole,.hole]),([true,false,true,false],[.box (EL.el a0),.box [Znl,Znl,Ii6 0],.arr 56 1 0 (v3.flatMap (eL eU8)),.hole,.box [Znl,Znl,Ii6 0]]),([true,true,false,false],[.box (EL.el a0),.box [Znl,Znl,Ii6 0],.arr 56 1 0 (v3.flatMap (eL eU8)),.arr 134 1 0 (v4.flatMap Aw),.hole]),([true,true,true,false],[.box (EL.el a0),.box [Znl,Znl,Ii6 0],.arr 56 1 0 (v3.flatMap (eL eU8)),.arr 134 1 0 (v4.flatMap Aw),.box [Znl,Znl,Ii6 0]]),([true,true,true,true],[.box (EL.el a0),.box [Znl,Znl,Ii6 0],.arr 56 1 0 (v3.flatMap (eL eU8)),.arr 134 1 0 (v4.flatMap Aw),.box [.ls 2 v3.length,.ls 3 v4.length,Ii6 a1]])] (by kernel_rfl) mixed (by kernel_rfl) (by decide) R (by kernel_rfl) R R ?_
   refine Aut R R (Cu R (Ac Q4 R) (Cu R (Ac Q4 R) (Ch R (Ch R (Ch R (Ch R (Ch R Gx))))))) (Aut R R (Cu R (Ak Abm R (.lp _ _ _ R) R) (Cu R (Ak Abm R (.lp _ _ _ R) R) (Ch R (Ch R (Ch R (Ch R (Ch R Gx))))))) (mee (x:=.s (.one (.ls 2 v3.length))) 0 R R ?_ ?_))
   ·refine Cu R ⟨_,R,fun ζ=>?_⟩ ?_
    ·refine Wa (g:=(eL eU8)) (ys:=v3) 2 R Auo (.func _) (Aa R Af) (Pu hv3) R (fun _=>R) R R R R ?_
     exact Ta
    refine Cu R ⟨_,R,fun ζ=>?_⟩ ?_
    ·refine Wa (g:=(eL eU8)) (ys:=v3) 2 R Auo (.func _) (Aa R Af) (Pu hv3) R (fun _=>R) R R R R ?_
     exact Ta
    refine Ch R (Ch R (Ch R (Ch R (Ch R ?_))))
    exact Gx
   refine Aut R R (Cu R (Ac Qj R) (Cu R (Ac Qj R) (Cu R (Ac Qj R) (Cu R (Ac Qj R) (Ch R (Ch R (Ch R Gx))))))) (Aut R R (Cu R (Ak Ahz R (.lp _ _ _ R) R) (Cu R (Ak Ahz R (.lp _ _ _ R) R) (Cu R (Ak Ahz R (.lp _ _ _ R) R) (Cu R (Ak Ahz R (.lp _ _ _ R) R) (Ch R (Ch R (Ch R Gx))))))) (mee (x:=.s (.one (.ls 3 v4.length))) 1 R R ?_ ?_))
   ·refine Ch R (Ch R (Cu R ⟨_,R,fun ζ=>?_⟩ ?_))
    ·refine Wa (g:=Aw) (ys:=v4) 3 R Auz (.func _) (Aa R Af) (Pz hv4) R (fun _=>R) R R R R ?_
     exact Ta
    refine Cu R ⟨_,R,fun ζ=>?_⟩ ?_
    ·refine Wa (g:=Aw) (ys:=v4) 3 R Auz (.func _) (Aa R Af) (Pz hv4) R (fun _=>R) R R R R ?_
     exact Ta
    refine Ch R (Ch R (Ch R ?_))
    exact Gx
   refine Atj R R (fun _=>Bc R) ?_
   refine Aut R R (Ch R (Ch R (Ch R (Ch R (Cu R (A6 Aeb Ao9 (Av R (Av R (Av R Az))) (.cons _ _ _ _ _ _ _ R R (Nbl R) (.cons _ _ _ _ _ _ _ R R (Nbl R) (.cons _ _ _ _ _ _ _ R R (Nbl R) (.nil _))))) (Cu R (A6 Aeb Ao9 (Av R (Av R (Av R Az))) (.cons _ _ _ _ _ _ _ R R (Nbl R) (.cons _ _ _ _ _ _ _ R R (Nbl R) (.cons _ _ _ _ _ _ _ R R (Nbl R) (.nil _))))) (Ch R Gx))))))) (mee (x:=.s (.one (.lp 4 0))) 2 R R ?_ ?_)
   ·refine Cu R ⟨_,R,fun ζ=>?_⟩ ?_
    ·refine M8 4 R Aeb R ?_
     exact Ta
    refine Ch R (Cu R ⟨_,R,fun ζ=>?_⟩ ?_)
    ·refine M8 4 R Aeb R ?_
     exact Ta
    refine Ch R (Cu R ⟨_,R,fun ζ=>?_⟩ ?_)
    ·refine M8 4 R Aeb R ?_
     exact Ta
    refine Ch R (Ch R ?_)
    exact Gx
   refine Axg 3 R ?_ ?_
   ·refine Ch R (Ch R (Ch R (Ch R (Ch R (Cu R ⟨_,R,fun ζ=>?_⟩ ?_)))))
    ·refine sst Aez R R R R R (P4 [.box (EL.el a0),.box [Znl,Znl,Ii6 0],.arr 56 1 0 (v3.flatMap (eL eU8)),.arr 134 1 0 (v4.flatMap Aw),.box [.ls 2 v3.length,.ls 3 v4.length,Ii6 a1]] R ?_)
     exact Ta
    refine Ch R ?_
    exact Gx
   refine Atz (Ab (Br (csr (rm 1 R (sv R (Ax Ab9 R) (rm 1 R (Ai (Dt ((List (List UInt8)) × (List An) × Int) (fun b5=>[(6,.s (.one (.lp 1 0))),(8,.s (.one (.lp 4 0)))]) (fun b5=>[.box (EL.el a0),.box [Znl,Znl,Ii6 0],.arr 56 1 0 (b5.1.flatMap (eL eU8)),.arr 134 1 0 (b5.2.1.flatMap Aw),.box [.ls 2 b5.1.length,.ls 3 b5.2.1.length,Ii6 b5.2.2]]) (fun b5=>H6 b5=some r) (fun _ _=>A5 R) (fun _ _=>Ap R) (fun _ _=>Nbl R) (fun b5 h=>?_) ?_))))))))
   ·unfold H6 at h
    refine Br (csr (fl Q4 Abm R R R R R R (sv R (Mf Sn R R (A1 (f:=(eL eU8)) (fun _=>R) _).symm) ?_)))
    refine sv R (C7 R R) (Ai (ccI h R (fun h=>?_) (fun h=>?_)))
    ·refine csr (sv R (A6 Aeb Ao9 Az (.nil _)) (sst Aez R R R R R (rm 1 R (Ai (Bv (Ag ?_))))))
     obtain rfl:=SJ h
     exact dn (Ad (ra Xk R R R) (Ad (rt R) Ah)) (Iz R) R
    ·refine Bj (Ab (csr (ld Xk R R R R (sst Aez R R R R R (rm 1 R (Ai (Bv ?_)))))))
     obtain rfl:=SJ h
     refine ⟨Or.inr R,_,_,_,(Ad (ra Xk R R R) (Ad (rt R) Ah)),(by (repeat' first | exact J7.nil _ | apply J7.cons | apply Jm.one | apply Jm.agg | exact Dm.nil | exact Dm.ls _ _ _ _ _ _ R (A1 (f:=(eL eU8)) (fun _=>R) _).symm | exact Dm.ls _ _ _ _ _ _ R (A1 (f:=Aw) (fun _=>R) _).symm | exact Dm.id _ R | exact Cw.nil _ | apply Cw.cons)),?_⟩
     rfl
   ·skip
    refine Bu ?_
    obtain ⟨x6,hx6,ho6⟩:=Ae h
    refine B6 (G:=Nat × (Int × (List (List UInt8)) × (List An) × Int)) (fun g=>[(6,.s (.one (.lp 1 0))),(8,.s (.one (.lp 4 0))),(37,.s (.one (.sl a2.length (a2.flatMap Ba)))),(38,.s (.one (Ii6 (a2.length:Int)))),(39,.s (.one (Ii6 g.2.1)))]) (fun g=>[.box (EL.el a0),.box [Znl,Znl,Ii6 0],.arr 56 1 0 (g.2.2.1.flatMap (eL eU8)),.arr 134 1 0 (g.2.2.2.1.flatMap Aw),.box [.ls 2 g.2.2.1.length,.ls 3 g.2.2.2.1.length,Ii6 g.2.2.2.2]]) (fun g=>C5 (Ep a2) g.1 g.2=some x6) (fun g=>g.1) (fuel,(0,v3,v4,a1)) hx6 ⟨R,R,R,R,R,trivial⟩ [] R (fun _ _=>A5 R) (fun _ _=>Ap R) (fun _ _=>Nbl R) ?_
    clear hx6 h
    rintro ⟨n6,s6⟩ h
    obtain ⟨n6,y6,rfl,h,hk6⟩:=C8 h
    unfold Ep at h
    refine csr (sv R (Bw R R) (Ai (Br (ccI h R (fun h=>?_) (fun h=>?_)))))
    ·refine Bj (Ab (Br (Bu (Br (As ?_)))))
     obtain ⟨u7,hu7,h⟩:=Ae h
     refine sv R (Cb (f:=Ba) Ab9 (fun _=>R) R R R R hu7) ?_
     refine sv R (B3 (ys:=[.sl u7.Key.length (u7.Key.flatMap eU8),.sl u7.Val.length (u7.Val.flatMap eU8),.b u7.Del]) Aea R (.cp _) R R) (Bq R Ai2 (sst Ajm R R R R R (Ai (As (ld Xk R R R R (sv R (Bf Aea R (.lp _ _ _ R) (Nbl R)) ?_))))))
     obtain ⟨v8,hv8,h⟩:=Ae h
     refine Ho (x':=.s (.agg [.ls 2 v8.2.1.length,.ls 3 v8.2.2.length,Ii6 v8.1])) (M':=[.box (EL.el a0),.box [Znl,Znl,Ii6 0],.arr 56 1 0 (v8.2.1.flatMap (eL eU8)),.arr 134 1 0 (v8.2.2.flatMap Aw),.box [.ls 2 s6.2.1.length,.ls 3 s6.2.2.1.length,Ii6 s6.2.2.2],.box (EL.el u7)]) [2,3] R Axk (.func _) (Aa R (Aa R Af)) (Xc hv8) R R (by decide) R R R ?_
     refine sst Aez R R R R R (Ks (Ar (Ab (As (sv R (Bs R R) (rm 1 R (Ai ?_)))))))
     obtain rfl:=SJ h
     exact ⟨(n6,((wI (s6.1+1)),v8.2.1,v8.2.2,v8.1)),_,hk6,⟨R,R,R,R,R,trivial⟩,R,Nat.lt_succ_self _⟩
    ·refine Di (Au (Au (Bn (Ab ?_))))
     obtain rfl:=SJ h
     obtain rfl:_=x6:=hk6
     exact ⟨(s6.2.1,s6.2.2.1,s6.2.2.2),_,ho6,⟨R,R,trivial⟩,R⟩
  ·skip
   refine As (rm 1 R (fl Sb ti3 R R R R R R (sv R (Dj R R) (rm 1 R (ssI 24 h R (fun h=>?_) (fun h=>?_))))))
   ·refine rm 3 R (Ai (Cp R (fun _=>?_) (fun hx=>Bool.noConfusion hx)))
    refine csr (sv R (A6 Aeb Ao9 Az (.nil _)) (sst Aez R R R R R (rm 1 R (Ai (Bv (Ag ?_))))))
    obtain rfl:=SJ h
    exact dn (Ad (ra Xk R R R) (Ad (rt R) Ah)) (Iz R) R
   ·refine rm 1 R (son R R R (sv R (C7 R R) (rm 1 R (Ai (ccI h R (fun h=>?_) (fun h=>?_))))))
    ·refine csr (sv R (A6 Aeb Ao9 Az (.nil _)) (sst Aez R R R R R (rm 1 R (Ai (Bv (Ag ?_))))))
     obtain rfl:=SJ h
     exact dn (Ad (ra Xk R R R) (Ad (rt R) Ah)) (Iz R) R
    ·refine Bj (Ab ?_)
     exact ⟨(),_,h,⟨R,R,R,R,trivial⟩,R⟩
 ·skip
  refine As (sv R (Bf Xk R (.lp _ _ _ R) (Nbl R)) ?_)
  obtain ⟨v10,hv10,h⟩:=Ae h
  refine Bb R At2 (Aa R Af) (Ao R) (Kv hv10) (sv R (B2 R) (rm 1 R (ssI 14 h R (fun h=>?_) (fun h=>?_))))
  ·refine rm 4 R (Ai (Cp R (fun _=>?_) (fun hx=>Bool.noConfusion hx)))
   refine csr (sv R (A6 Aeb Ao9 Az (.nil _)) (sst Aez R R R R R (rm 1 R (Ai (Bv (Ag ?_))))))
   obtain rfl:=SJ h
   exact dn (Ad (ra Xk R R R) (Ad (rt R) Ah)) (Iz R) R
  ·refine rm 1 R (son R R R ?_)
   obtain ⟨v11,hv11,h⟩:=Ae h
   refine Bb R Av1 (Aa R Af) (Ao R) (R1 hv11) (son R R R (sv R (B2 R) (rm 1 R (Ai (ccI h R (fun h=>?_) (fun h=>?_))))))
   ·refine csr (sv R (A6 Aeb Ao9 Az (.nil _)) (sst Aez R R R R R (rm 1 R (Ai (Bv (Ag ?_))))))
    obtain rfl:=SJ h
    exact dn (Ad (ra Xk R R R) (Ad (rt R) Ah)) (Iz R) R
   ·refine Bj (Ab ?_)
    exact ⟨(),_,h,⟨R,R,R,R,trivial⟩,R⟩
def N3 (b1:Int):Option Int :=
 some b1
def Gd (a0:Bh) (s2:Int × Int):Option (LB (Int × Int) (Int)) :=
 if (decide (s2.2<(a0.Txs.length:Int))) then ((idx a0.Txs s2.2).bind fun u3=>if (decide (u3.State=1)) then (some (.cont ((if u3.Begin<s2.1 then u3.Begin else s2.1),(wI (s2.2+1))))) else (some (.cont (s2.1,(wI (s2.2+1)))))) else (some (.brk s2.1))
def J0 (a0:Bh) (a1:Int):Option Int :=
 (C5 (Gd a0) fuel (a1,0)).bind fun e4=>N3 e4
theorem Rq {a0:Bh} {a1:Int} {r:Int} (h:J0 a0 a1=some r):Bt Tryz.prog 146 [.agg (EL.el a0),.one (Ii6 a1)] (·=.s (.one (Ii6 r))):=by
 unfold J0 at h
 refine A4 Tryz.func146 R (nt:=23) R (Nbl R) ?_
 intro w0 S0
 refine csr (F0 R R (rm 1 R (Ai (Br (csr (fl Of Aaa R R R R R R (sv R (Ax P7 R) (rm 1 R (Ai (Dt (Int) (fun b1=>[(1,.s (.one (Ii6 b1)))]) (fun b1=>[.box (EL.el a0)]) (fun b1=>N3 b1=some r) (fun _ _=>A5 R) (fun _ _=>Ap R) (fun _ _=>Nbl R) (fun b1 h=>?_) ?_))))))))))
 ·unfold N3 at h
  refine csr (rm 2 R (Ai (Bv ?_)))
  obtain rfl:=SJ h
  exact dnT R R R R
 ·skip
  refine Bu ?_
  obtain ⟨x2,hx2,ho2⟩:=Ae h
  refine B6 (G:=Nat × (Int × Int)) (fun g=>[(1,.s (.one (Ii6 g.2.1))),(8,.s (.one (.sl a0.Txs.length (a0.Txs.flatMap Be)))),(9,.s (.one (Ii6 (a0.Txs.length:Int)))),(10,.s (.one (Ii6 g.2.2)))]) (fun g=>[.box (EL.el a0)]) (fun g=>C5 (Gd a0) g.1 g.2=some x2) (fun g=>g.1) (fuel,(a1,0)) hx2 ⟨R,R,R,R,trivial⟩ [] R (fun _ _=>A5 R) (fun _ _=>Ap R) (fun _ _=>Nbl R) ?_
  clear hx2 h
  rintro ⟨n2,s2⟩ h
  obtain ⟨n2,y2,rfl,h,hk2⟩:=C8 h
  unfold Gd at h
  refine csr (sv R (Bw R R) (Ai (Br (ccI h R (fun h=>?_) (fun h=>?_)))))
  ·refine Bj (Ab (Br (Bu (Br (As ?_)))))
   obtain ⟨u3,hu3,h⟩:=Ae h
   refine sv R (Cb (f:=Be) P7 (fun _=>R) R R R R hu3) ?_
   refine sv R (B3 (ys:=[Ii6 u3.ID,Ii6 u3.Begin,Ii6 u3.End,Ii6 u3.State,.b u3.In,.b u3.Out,.b u3.RO,.sl u3.Keys.length (u3.Keys.flatMap (eL eU8))]) I6 R (.cp _) R R) (Bq R Sj (sst Rx R R R R R (Ai (csr (fl Oo ti3 R R R R R R (sv R (B5 R R) (Ai (ccI h R (fun h=>?_) (fun h=>?_)))))))))
   ·refine As (rm 1 R (fl Ux ti3 R R R R R R (sv R (Afd R R) (rm 1 R (Ks (Ar (Ab (As (sv R (Bs R R) (rm 1 R (Ai ?_)))))))))))
    obtain rfl:=SJ h
    exact ⟨(n2,((if u3.Begin<s2.1 then u3.Begin else s2.1),(wI (s2.2+1)))),_,hk2,⟨R,R,R,R,trivial⟩,R,Nat.lt_succ_self _⟩
   ·refine Bj (Ar (Ab (As (sv R (Bs R R) (rm 1 R (Ai ?_))))))
    obtain rfl:=SJ h
    exact ⟨(n2,(s2.1,(wI (s2.2+1)))),_,hk2,⟨R,R,R,R,trivial⟩,R,Nat.lt_succ_self _⟩
  ·refine Di (Au (Au (Bn (Ab ?_))))
   obtain rfl:=SJ h
   obtain rfl:_=x2:=hk2
   exact ⟨s2.1,_,ho2,⟨R,trivial⟩,R⟩
def Mm (a0:Bh) (b1:(List Int)):Option Bh :=
 (Hs a0 b1).bind fun v2=>some v2
def G8 (a0:Bh) (s3:Int × (List Int)):Option (LB (Int × (List Int)) ((List Int))) :=
 if (decide (s3.1<(a0.Txs.length:Int))) then ((idx a0.Txs s3.1).bind fun u4=>if (decide (u4.State=2)) then ((J0 a0 u4.End).bind fun v5=>if (decide (u4.End≤v5)) then (if (s3.2.length+[u4.ID].length)*8≤140737488355328 then (some (.cont ((wI (s3.1+1)),(s3.2++[u4.ID])))) else none) else (some (.cont ((wI (s3.1+1)),s3.2)))) else (some (.cont ((wI (s3.1+1)),s3.2)))) else (some (.brk s3.2))
def Ix (a0:Bh):Option Bh :=
 (C5 (G8 a0) fuel (0,([]:List Int))).bind fun e7=>Mm a0 e7
theorem X7 {a0:Bh} {r:Bh} (h:Ix a0=some r):Bt Tryz.prog 144 [.agg (EL.el a0)] (·=.s (.agg (EL.el r))):=by
 unfold Ix at h
 refine A4 Tryz.func144 R (nt:=34) R (Nbl R) ?_
 intro w0 S0
 refine csr (F0 R R (Bq R Wq (Ai (csr (rm 1 R (Ai (Br (csr (fl Of Aaa R R R R R R (sv R (Ax P7 R) (rm 1 R (Ai ?_))))))))))))
 refine D1 3 1 3 (by decide) R ?_
 refine Dt ((List Int)) (fun b1=>[(1,.s (.one (.lp 0 0))),(2,.s (.one (.lp 1 0))),(3,.s (.one (.ls 2 b1.length)))]) (fun b1=>[.box (EL.el a0),.box [Znl,Znl],.arr 3 1 0 (b1.flatMap eI)]) (fun b1=>Mm a0 b1=some r) (fun _ _=>A5 R) (fun _ _=>Ap R) (fun _ _=>Nbl R) (fun b1 h=>?_) ?_
 ·unfold Mm at h
  refine csr (ld P9 R R R R (sv R (Bc R) ?_))
  refine Aii 32 R (by (repeat' first | exact J7.nil _ | apply J7.cons | apply Jm.one | apply Jm.agg | exact Dm.nil | exact Dm.ls _ _ _ _ _ _ R (A1 (f:=eI) (fun _=>R) _).symm | exact Dm.id _ R | exact Cw.nil _ | apply Cw.cons)) ?_
  obtain ⟨v2,hv2,h⟩:=Ae h
  refine Bb R As8 (Aa R (Aa R Af)) (Ao R) (Qz hv2) (sst Ws R R R R R (Ai (Bv ?_)))
  obtain rfl:=SJ h
  exact dnA R P9 R (.lp _ _ _ R) (Nbl R) R R
 ·skip
  refine Bu ?_
  obtain ⟨x3,hx3,ho3⟩:=Ae h
  refine B6 (G:=Nat × (Int × (List Int))) (fun g=>[(1,.s (.one (.lp 0 0))),(2,.s (.one (.lp 1 0))),(3,.s (.one (.ls 2 g.2.2.length))),(7,.s (.one (.sl a0.Txs.length (a0.Txs.flatMap Be)))),(8,.s (.one (Ii6 (a0.Txs.length:Int)))),(9,.s (.one (Ii6 g.2.1)))]) (fun g=>[.box (EL.el a0),.box [Znl,Znl],.arr 3 1 0 (g.2.2.flatMap eI)]) (fun g=>C5 (G8 a0) g.1 g.2=some x3) (fun g=>g.1) (fuel,(0,([]:List Int))) hx3 ⟨R,R,R,R,R,R,trivial⟩ [] R (fun _ _=>A5 R) (fun _ _=>Ap R) (fun _ _=>Nbl R) ?_
  clear hx3 h
  rintro ⟨n3,s3⟩ h
  obtain ⟨n3,y3,rfl,h,hk3⟩:=C8 h
  unfold G8 at h
  refine csr (sv R (Bw R R) (Ai (Br (ccI h R (fun h=>?_) (fun h=>?_)))))
  ·refine Bj (Ab (Br (Bu (Br (As ?_)))))
   obtain ⟨u4,hu4,h⟩:=Ae h
   refine sv R (Cb (f:=Be) P7 (fun _=>R) R R R R hu4) ?_
   refine sv R (B3 (ys:=[Ii6 u4.ID,Ii6 u4.Begin,Ii6 u4.End,Ii6 u4.State,.b u4.In,.b u4.Out,.b u4.RO,.sl u4.Keys.length (u4.Keys.flatMap (eL eU8))]) I6 R (.cp _) R R) (Bq R Sj (sst Rx R R R R R (Ai (Br ?_))))
   refine Z9 mixed (by kernel_rfl) ?_
   refine dv R (Ac Oo R) (dv R (Ak ti3 R (.lp _ _ _ R) R) (dv R (B5 R R) (dv R (Bc R) (Y1 16 R (fun hc=>?_) (fun hc=>?_)))))
   ·replace h:=Va hc h
    clear hc
    refine dvg R R R (Bf P9 R (.lp _ _ _ R) (Nbl R)) (dvg R R R (Ac Qg R) (dvg R R R (Ak ti3 R (.lp _ _ _ R) R) ?_))
    obtain ⟨v5,hv5,h⟩:=Ae h
    refine ddg R R R (C9 Asz (Aa R (Aa R Af)) R (Rq hv5)) (dvg R R R (Ac Qg R) (dvg R R R (Ak ti3 R (.lp _ _ _ R) R) (dvg R R R (He R R) (dv R (Hv R R) (Adw (Ab (ccI h R (fun h=>?_) (fun h=>?_))))))))
    ·refine As (rm 1 R (sv R (Ac Sv R) (sv R (Ak ti3 R (.lp _ _ _ R) R) ?_)))
     refine Gk R Tryz.underlying225 ei3 R R (List.all_eq_true.1 R) (by decide) ?_
     refine P4 [.box (EL.el a0),.box [Znl,Znl],.arr 3 1 0 (s3.2.flatMap eI),.box (EL.el u4),.arr 3 1 0 ([u4.ID].flatMap eI)] R ?_
     obtain ⟨hb6,h⟩:=Cy h
     refine Wb (f:=eI) (xs:=s3.2) (us:=[u4.ID]) R Tryz.underlying225 ei3 Anw (fun _=>R) R R (.one _ _ _ _ (.ls _ _ _ _ _ _ R (A1 (f:=eI) (fun _=>R) [u4.ID]).symm)) R R R (.sl _ _ _ (A1 (f:=eI) (fun _=>R) _)) R R hb6 (by decide) ?_
     refine rm 1 R (Ks (Ar (Ab (As (sv R (Bs R R) (rm 1 R (Ai ?_)))))))
     obtain rfl:=SJ h
     exact ⟨(n3,((wI (s3.1+1)),(s3.2++[u4.ID]))),_,hk3,⟨R,R,R,R,R,R,trivial⟩,R,Nat.lt_succ_self _⟩
    ·refine Bj (Ar (Ab (As (sv R (Bs R R) (rm 1 R (Ai ?_))))))
     obtain rfl:=SJ h
     exact ⟨(n3,((wI (s3.1+1)),s3.2)),_,hk3,⟨R,R,R,R,R,R,trivial⟩,R,Nat.lt_succ_self _⟩
   ·replace h:=Vr hc h
    clear hc
    refine O2 R R R R (O2 R R R R (O2 R R R R (O2 R R R R (O2 R R R R (O2 R R R R (O2 R R R R (dv R (Mg R R) (Adw (Ab (Cp R (fun hx=>Bool.noConfusion hx) (fun _=>?_)))))))))))
    refine Bj (Ar (Ab (As (sv R (Bs R R) (rm 1 R (Ai ?_))))))
    obtain rfl:=SJ h
    exact ⟨(n3,((wI (s3.1+1)),s3.2)),_,hk3,⟨R,R,R,R,R,R,trivial⟩,R,Nat.lt_succ_self _⟩
  ·refine Di (Au (Au (Bn (Ab ?_))))
   obtain rfl:=SJ h
   obtain rfl:_=x3:=hk3
   exact ⟨s3.2,_,ho3,⟨R,R,R,trivial⟩,R⟩
def Ib (a0:List A3):Option (List A3) :=
 if (([]:List A3).length+a0.length)*40≤140737488355328 then (some (([]:List A3)++a0)) else none
theorem T3 {a0:List A3} {r:(List A3)} (h:Ib a0=some r):De Tryz.prog 258 [] [.one (.sl a0.length (a0.flatMap A7))] (fun y m'=>y=.s (.one (.ls 0 r.length))∧m'=[.arr 136 3 0 (r.flatMap A7)]):=by
 unfold Ib at h
 refine Da Tryz.func258 R (nt:=8) R (Nbl R) ?_
 intro w0 S0 X0 H0
 refine csr (rm 1 R (Ai (Br (csr (rm 1 R (Afw R Tryz.underlying132 R (fun nq hnq=>?_)))))))
 cases nq
 ·skip
  refine Ai (Cp R (fun hx=>Bool.noConfusion hx) (fun _=>?_))
  refine Bj (Ab (csr (U5 R Tryz.underlying132 Al2 (sv R (Bc R) ?_))))
  obtain ⟨hb1,h⟩:=Cy h
  refine Wb (f:=A7) (xs:=([]:List A3)) (us:=a0) R Tryz.underlying132 Al2 Ath (fun _=>R) R R (.one _ _ _ _ (.id _ R)) R R R (.sl _ _ _ (A1 (f:=A7) (fun _=>R) _)) R R hb1 (by decide) ?_
  refine rm 1 R (Ai (Bv ?_))
  obtain rfl:=SJ h
  exact ⟨Or.inr R,_,[0],[.one (.ls 0 (([]:List A3)++a0).length)],[.arr 136 3 0 ((([]:List A3)++a0).flatMap A7)],(Ad (rt R) Ah),R,R,⟨by decide,R⟩,R,R,⟨R,R⟩⟩
 ·obtain rfl:=List.eq_nil_of_length_eq_zero (hnq rfl)
  replace h:(some ([]:List A3))=some r:=by first | exact h | (rw [if_pos (by decide)] at h;exact h)
  refine Ai (Cp R (fun _=>?_) (fun hx=>Bool.noConfusion hx))
  refine csr (rm 1 R (Ai ?_))
  refine D1 136 3 2 (by decide) R ?_
  refine Bv (Ag ?_)
  obtain rfl:=SJ h
  exact ⟨Or.inr R,_,[0],[.one (.ls 0 ([]:List A3).length)],[.arr 136 3 0 (([]:List A3).flatMap A7)],(Ad (rt R) Ah),R,R,⟨by decide,R⟩,R,R,⟨R,R⟩⟩
def E3 (a0:An) (b4:Int):Option An :=
 (cut a0.L b4 (a0.L.length:Int)).bind fun c5=>(Ib c5).bind fun v6=>some (An.mk v6)
def Ja (a0:An) (v1:Int) (b2:Unit):Option An :=
 (idx a0.L v1).bind fun u3=>if u3.Del then (E3 a0 (wI (v1+1))) else (E3 a0 v1)
def Jv (a0:An) (a1:Int):Option An :=
 (J3 a0 a1).bind fun v1=>if (decide (v1<0)) then (some (An.mk a0.L)) else ((Ey (An.mk a0.L)).bind fun v7=>if (!v7) then (some (An.mk a0.L)) else (Ja a0 v1 ()))
theorem Uv {a0:An} {a1:Int} {r:An} (h:Jv a0 a1=some r):Bt Tryz.prog 217 [.agg [.sl a0.L.length (a0.L.flatMap A7)],.one (Ii6 a1)] (·=.s (.agg [.sl r.L.length (r.L.flatMap A7)])):=by
 unfold Jv at h
 refine A4 Tryz.func217 R (nt:=31) R (Nbl R) ?_
 intro w0 S0
 refine csr (F0 R R (Bq R X5 (Ai (csr (ld Oh R R R R (sv R (Bc R) ?_))))))
 obtain ⟨v1,hv1,h⟩:=Ae h
 refine Bb R Atx (Aa R (Aa R Af)) (Ao R) (Rp hv1) (rm 1 R (Ai (Br (Br (Hp (Unit) (fun b2=>[(2,.s (.one (.lp 0 0))),(4,.s (.one (.lp 1 0))),(5,.s (.one (Ii6 v1)))]) (fun b2=>[.box [.sl a0.L.length (a0.L.flatMap A7)],.box [Znl]]) (fun b2=>Ja a0 v1 b2=some r) (fun _ _=>A5 R) (fun _ _=>Ap R) (fun _ _=>Nbl R) (fun b2 h=>?_) ?_)))))
 ·unfold Ja at h
  refine Br (csr (fl Sx Z4 R R R R R R (sv R (Bc R) ?_)))
  obtain ⟨u3,hu3,h⟩:=Ae h
  refine sv R (Cb (f:=A7) Vy (fun _=>R) R R R R hu3) ?_
  refine sv R (Ci Ae8 R) (sv R (Ak ti4 R (.cp _) R) (Ai (Dt (Int) (fun b4=>[(2,.s (.one (.lp 0 0))),(4,.s (.one (.lp 1 0))),(5,.s (.one (Ii6 b4)))]) (fun b4=>[.box [.sl a0.L.length (a0.L.flatMap A7)],.box [Znl]]) (fun b4=>E3 a0 b4=some r) (fun _ _=>A5 R) (fun _ _=>Ap R) (fun _ _=>Nbl R) (fun b4 h=>?_) ?_)))
  ·unfold E3 at h
   refine csr (fl Sx Z4 R R R R R R (sv R (Bc R) ?_))
   obtain ⟨c5,hc5,h⟩:=Ae h
   refine sv R (W9 (f:=A7) (lo:=b4) (hi:=(a0.L.length:Int)) Vy (fun _=>R) R R R (P6 R (Te hc5).1.1) (by exact R) hc5) ?_
   obtain ⟨v6,hv6,h⟩:=Ae h
   refine Ho (x':=.s (.one (.ls 2 v6.length))) (M':=[.box [.sl a0.L.length (a0.L.flatMap A7)],.box [Znl],.arr 136 3 0 (v6.flatMap A7)]) [] R Av0 (.func _) (Aa R Af) (T3 hv6) R R (by decide) R R R ?_
   refine sv R (A6 X5 Aiu (Av R Az) (.cons _ _ _ _ _ _ _ R R (Nbl R) (.nil _))) (sst X8 R R R R R (Ai (Bv ?_)))
   obtain rfl:=SJ h
   refine ⟨Or.inr R,_,_,_,(Ad (ra Oh R R R) Ah),(by (repeat' first | exact J7.nil _ | apply J7.cons | apply Jm.one | apply Jm.agg | exact Dm.nil | exact Dm.ls _ _ _ _ _ _ R (A1 (f:=A7) (fun _=>R) _).symm | exact Dm.id _ R | exact Cw.nil _ | apply Cw.cons)),?_⟩
   rfl
  ·skip
   refine ccI h R (fun h=>?_) (fun h=>?_)
   ·refine As (rm 1 R (sv R (Bs R R) (rm 1 R (Ai ?_))))
    exact ⟨(wI (v1+1)),_,h,⟨R,R,R,trivial⟩,R⟩
   ·refine Bj (Ab ?_)
    exact ⟨v1,_,h,⟨R,R,R,trivial⟩,R⟩
 ·skip
  refine As (rm 1 R (sv R (Bw R R) (rm 1 R (ssI 11 h R (fun h=>?_) (fun h=>?_)))))
  ·refine rm 4 R (Ai (Cp R (fun _=>?_) (fun hx=>Bool.noConfusion hx)))
   refine csr (ld Oh R R R R (sst X8 R R R R R (Ai (Bv (Ag ?_)))))
   obtain rfl:=SJ h
   exact dnA R Oh R (.lp _ _ _ R) (Nbl R) R R
  ·refine son R R R (ld Oh R R R R (son R R R ?_))
   obtain ⟨v7,hv7,h⟩:=Ae h
   refine Bb R Ap6 (Aa R Af) (Ao R) (Ou hv7) (son R R R (sv R (B2 R) (rm 1 R (Ai (ccI h R (fun h=>?_) (fun h=>?_))))))
   ·refine csr (ld Oh R R R R (sst X8 R R R R R (Ai (Bv (Ag ?_)))))
    obtain rfl:=SJ h
    exact dnA R Oh R (.lp _ _ _ R) (Nbl R) R R
   ·refine Bj (Ab ?_)
    exact ⟨(),_,h,⟨R,R,R,trivial⟩,R⟩
def Mx (a0:B1) (b2:(List (List UInt8)) × (List An)):Option B1 :=
 some (B1.mk b2.1 b2.2 a0.Ts)
def Gu (a0:B1) (a1:Int) (s3:Int × (List (List UInt8)) × (List An)):Option (LB (Int × (List (List UInt8)) × (List An)) ((List (List UInt8)) × (List An))) :=
 if (decide (s3.1<(a0.Chains.length:Int))) then ((idx a0.Chains s3.1).bind fun u4=>(Jv u4 (if a0.Ts<a1 then a0.Ts else a1)).bind fun v5=>if (decide (0<(v5.L.length:Int))) then ((idx a0.Keys s3.1).bind fun u6=>if (s3.2.1.length+([u6]:List (List UInt8)).length)*24≤140737488355328 then (if (s3.2.2.length+[v5].length)*24≤140737488355328 then (some (.cont ((wI (s3.1+1)),(s3.2.1++([u6]:List (List UInt8))),(s3.2.2++[v5])))) else none) else none) else (some (.cont ((wI (s3.1+1)),s3.2.1,s3.2.2)))) else (some (.brk (s3.2.1,s3.2.2)))
def Jp (a0:B1) (a1:Int):Option B1 :=
 (C3 a0).bind fun v1=>if (!v1) then (some a0) else ((C5 (Gu a0 a1) fuel (0,([]:List (List UInt8)),([]:List An))).bind fun e9=>Mx a0 e9)
theorem Vb {a0:B1} {a1:Int} {r:B1} (h:Jp a0 a1=some r):Bt Tryz.prog 145 [.agg (EL.el a0),.one (Ii6 a1)] (·=.s (.agg (EL.el r))):=by
 unfold Jp at h
 refine A4 Tryz.func145 R (nt:=52) R (Nbl R) ?_
 intro w0 S0
 refine csr (F0 R R (Bq R Aeb (Ai (Br (csr (sv R (Bf Xk R (.lp _ _ _ R) (Nbl R)) ?_))))))
 obtain ⟨v1,hv1,h⟩:=Ae h
 refine Bb R At2 (Aa R Af) (Ao R) (Kv hv1) (sv R (B2 R) (Ai (ccI h R (fun h=>?_) (fun h=>?_))))
 ·refine csr (ld Xk R R R R (sst Aez R R R R R (Ai (Bv (Ag ?_)))))
  obtain rfl:=SJ h
  exact dnA R Xk R (.lp _ _ _ R) (Nbl R) R R
 ·refine Bj (Ab (csr (fl Sb ti3 R R R R R R (sv R (A6 Aeb Ao9 (Av R Az) (.cons _ _ _ _ _ _ _ R R (Nbl R) (.nil _))) (Bq R Aeb (sst Aez R R R R R (Ai (Br (csr (fl Qj Ahz R R R R R R (sv R (Ax Am4 R) (rm 1 R (Ai ?_)))))))))))))
  refine Xf 56 1 2 0 (by decide) R R ?_
  refine Xf 134 1 2 1 (by decide) R R ?_
  refine Dt ((List (List UInt8)) × (List An)) (fun b2=>[(4,.s (.one (.lp 1 0))),(5,.s (.one (.lp 2 0)))]) (fun b2=>[.box (EL.el a0),.box [Znl,Znl,Ii6 0],.box [.ls 3 b2.1.length,.ls 4 b2.2.length,Ii6 a0.Ts],.arr 56 1 0 (b2.1.flatMap (eL eU8)),.arr 134 1 0 (b2.2.flatMap Aw)]) (fun b2=>Mx a0 b2=some r) (fun _ _=>A5 R) (fun _ _=>Ap R) (fun _ _=>Nbl R) (fun b2 h=>?_) ?_
  ·unfold Mx at h
   refine csr (ld Xk R R R R (sst Aez R R R R R (Ai (Bv ?_))))
   obtain rfl:=SJ h
   refine ⟨Or.inr R,_,_,_,(Ad (ra Xk R R R) Ah),(by (repeat' first | exact J7.nil _ | apply J7.cons | apply Jm.one | apply Jm.agg | exact Dm.nil | exact Dm.ls _ _ _ _ _ _ R (A1 (f:=(eL eU8)) (fun _=>R) _).symm | exact Dm.ls _ _ _ _ _ _ R (A1 (f:=Aw) (fun _=>R) _).symm | exact Dm.id _ R | exact Cw.nil _ | apply Cw.cons)),?_⟩
   rfl
  ·skip
   refine Bu ?_
   obtain ⟨x3,hx3,ho3⟩:=Ae h
   refine B6 (G:=Nat × (Int × (List (List UInt8)) × (List An))) (fun g=>[(1,.s (.one (Ii6 a1))),(2,.s (.one (.lp 0 0))),(4,.s (.one (.lp 1 0))),(5,.s (.one (.lp 2 0))),(17,.s (.one (.sl a0.Chains.length (a0.Chains.flatMap Aw)))),(18,.s (.one (Ii6 (a0.Chains.length:Int)))),(19,.s (.one (Ii6 g.2.1)))]) (fun g=>[.box (EL.el a0),.box [Znl,Znl,Ii6 0],.box [.ls 3 g.2.2.1.length,.ls 4 g.2.2.2.length,Ii6 a0.Ts],.arr 56 1 0 (g.2.2.1.flatMap (eL eU8)),.arr 134 1 0 (g.2.2.2.flatMap Aw)]) (fun g=>C5 (Gu a0 a1) g.1 g.2=some x3) (fun g=>g.1) (fuel,(0,([]:List (List UInt8)),([]:List An))) hx3 ⟨R,R,R,R,R,R,R,trivial⟩ [] R (fun _ _=>A5 R) (fun _ _=>Ap R) (fun _ _=>Nbl R) ?_
   clear hx3 h
   rintro ⟨n3,s3⟩ h
   obtain ⟨n3,y3,rfl,h,hk3⟩:=C8 h
   unfold Gu at h
   refine csr (sv R (Bw R R) (Ai (Br (ccI h R (fun h=>?_) (fun h=>?_)))))
   ·refine Bj (Ab (Br (Bu (csr (sv R (Bc R) ?_)))))
    obtain ⟨u4,hu4,h⟩:=Ae h
    refine sv R (Cb (f:=Aw) Am4 (fun _=>R) R R R R hu4) ?_
    refine sv R (B3 (ys:=[.sl u4.L.length (u4.L.flatMap A7)]) Oh R (.cp _) R R) (Bq R X5 (rm 1 R (sst X8 R R R R R (Ai (csr (ld Oh R R R R (rm 1 R (fl Sb ti3 R R R R R R (sv R (Afd R R) ?_)))))))))
    obtain ⟨v5,hv5,h⟩:=Ae h
    refine Bb R Aw8 (Aa R (Aa R Af)) (Ao R) (Uv hv5) (Bq R X5 (sst X8 R R R R R (Ai (csr (fl Sx Z4 R R R R R R (sv R (Ax Vy R) (sv R (C7 R R) (Ai (ccI h R (fun h=>?_) (fun h=>?_))))))))))
    ·refine Br ?_
     obtain ⟨u6,hu6,h⟩:=Ae h
     obtain ⟨hb7,h⟩:=Cy h
     refine Ki [8,10] [0,1,0,4,0,28,60,124,255,511,1023] [[.box (EL.el a0),.box [Znl,Znl,Ii6 0],.box [.ls 3 s3.2.1.length,.ls 4 s3.2.2.length,Ii6 a0.Ts],.arr 56 1 0 (s3.2.1.flatMap (eL eU8)),.arr 134 1 0 (s3.2.2.flatMap Aw),.box [.sl u4.L.length (u4.L.flatMap A7)],.box [.sl v5.L.length (v5.L.flatMap A7)]],[.box (EL.el a0),.box [Znl,Znl,Ii6 0],.box [.ls 3 s3.2.1.length,.ls 4 s3.2.2.length,Ii6 a0.Ts],.arr 56 1 0 ((s3.2.1++([u6]:List (List UInt8))).flatMap (eL eU8)),.arr 134 1 0 (s3.2.2.flatMap Aw),.box [.sl u4.L.length (u4.L.flatMap A7)],.box [.sl v5.L.length (v5.L.flatMap A7)]],[.box (EL.el a0),.box [Znl,Znl,Ii6 0],.box [.ls 3 (s3.2.1++([u6]:List (List UInt8))).length,.ls 4 s3.2.2.length,Ii6 a0.Ts],.arr 56 1 0 ((s3.2.1++([u6]:List (List UInt8))).flatMap (eL eU8)),.arr 134 1 0 (s3.2.2.flatMap Aw),.box [.sl u4.L.length (u4.L.flatMap A7)],.box [.sl v5.L.length (v5.L.flatMap A7)]]] (by kernel_rfl) mixed (by kernel_rfl) (by decide) R R R R ?_
     refine ev (Bg 0 R R) R R (Ac Q4 R) (ev (Bg 0 R R) R R (Ak Abm R (.lp _ _ _ R) R) (ev (Bg 0 R R) R R (Ac Q4 R) (ev (Bg 0 R R) R R (Ak Abm R (.lp _ _ _ R) R) (ev (Bg 0 R R) R R (Bc R) (ev (Bg 0 R R) R R (Cb (f:=(eL eU8)) Sn (fun _=>R) R R R R hu6) ?_)))))
     refine ev (Bg 0 R R) R R (Ak Nr R (.cp _) R) ?_
     refine ed (Bg 0 R R) R R (Abj (out:=([u6]:List (List UInt8)).flatMap (eL eU8)) Tryz.underlying25 Ahl (Av R Az) (.cons _ _ _ _ _ _ _ R R (Nbl R) (.nil _)) R (by decide)) ?_
     refine ee (x:=.s (.one (.ls 3 (s3.2.1++([u6]:List (List UInt8))).length))) 0 R R R R R (fun ζ=>?_) ?_
     ·refine Wb (f:=(eL eU8)) (xs:=s3.2.1) (us:=([u6]:List (List UInt8))) R Tryz.underlying25 Ahl Asa (fun _=>R) R R (.one _ _ _ _ (.id _ R)) R R R (.sl _ _ _ (A1 (f:=(eL eU8)) (fun _=>R) _)) R R hb7 (by decide) ?_
      exact Ta
     refine ev (Bg 1 R R) R R (Ac Q4 R) (ee0 1 R R R R (fun ζ=>?_) ?_)
     ·refine sst Avh R R R R R (P4 [.box (EL.el a0),.box [Znl,Znl,Ii6 0],.box [.ls 3 (s3.2.1++([u6]:List (List UInt8))).length,.ls 4 s3.2.2.length,Ii6 a0.Ts],.arr 56 1 0 ((s3.2.1++([u6]:List (List UInt8))).flatMap (eL eU8)),.arr 134 1 0 (s3.2.2.flatMap Aw),.box [.sl u4.L.length (u4.L.flatMap A7)],.box [.sl v5.L.length (v5.L.flatMap A7)]] R ?_)
      exact Ta
     refine Abk (Ab (As (fl Qj Ahz R R R R R R (sv R (Bf Oh R (.lp _ _ _ R) (Nbl R)) ?_))))
     refine Gk R Tryz.underlying26 Alm R R (List.all_eq_true.1 R) (by decide) ?_
     refine P4 [.box (EL.el a0),.box [Znl,Znl,Ii6 0],.box [.ls 3 (s3.2.1++([u6]:List (List UInt8))).length,.ls 4 s3.2.2.length,Ii6 a0.Ts],.arr 56 1 0 ((s3.2.1++([u6]:List (List UInt8))).flatMap (eL eU8)),.arr 134 1 0 (s3.2.2.flatMap Aw),.box [.sl u4.L.length (u4.L.flatMap A7)],.box [.sl v5.L.length (v5.L.flatMap A7)],.arr 134 1 0 ([v5].flatMap Aw)] R ?_
     obtain ⟨hb8,h⟩:=Cy h
     refine Wb (f:=Aw) (xs:=s3.2.2) (us:=[v5]) R Tryz.underlying26 Alm Axt (fun _=>R) R R (.one _ _ _ _ (.ls _ _ _ _ _ _ R (A1 (f:=Aw) (fun _=>R) [v5]).symm)) R R R (.sl _ _ _ (A1 (f:=Aw) (fun _=>R) _)) R R hb8 (by decide) ?_
     refine sv R (Ac Qj R) (sst Ax5 R R R R R (Ks (Ar (Ab (As (sv R (Bs R R) (rm 1 R (Ai ?_))))))))
     obtain rfl:=SJ h
     exact ⟨(n3,((wI (s3.1+1)),(s3.2.1++([u6]:List (List UInt8))),(s3.2.2++[v5]))),_,hk3,⟨R,R,R,R,R,R,R,trivial⟩,R,Nat.lt_succ_self _⟩
    ·refine Bj (Ar (Ab (As (sv R (Bs R R) (rm 1 R (Ai ?_))))))
     obtain rfl:=SJ h
     exact ⟨(n3,((wI (s3.1+1)),s3.2.1,s3.2.2)),_,hk3,⟨R,R,R,R,R,R,R,trivial⟩,R,Nat.lt_succ_self _⟩
   ·refine Di (Au (Au (Bn (Ab ?_))))
    obtain rfl:=SJ h
    obtain rfl:_=x3:=hk3
    exact ⟨(s3.2.1,s3.2.2),_,ho3,⟨R,R,trivial⟩,R⟩
def M1 (a0:Am) (a1:Bl) (a2:Int):Option (Am × Int) :=
 if (decide (1099511627776<a2)) then (some (Fi,11)) else ((Lv a1.Buf).bind fun v1=>(Eh a0.Cert a1.ID a2 v1).bind fun v2=>if (!decide (v2.2=0)) then (some (Fi,v2.2)) else ((Ex a0.Toks a1.Token a1.Attempt a2).bind fun v3=>if (!decide (v3.2=0)) then (some (Fi,v3.2)) else ((D2 a0.Store a2 a1.Buf.L).bind fun v4=>if (!decide (v4.2=0)) then (some (Fi,v4.2)) else ((J6 a0 a1.ID).bind fun v5=>(Ix v2.1).bind fun v6=>(J0 v6 a2).bind fun v7=>(Jp v4.1 v7).bind fun v8=>some ((Am.mk v8 v6 v3.1 v5.Open v5.Next),0)))))
theorem Xz {a0:Am} {a1:Bl} {a2:Int} {r:Am × Int} (h:M1 a0 a1 a2=some r):Bt Tryz.prog 68 [.agg (EL.el a0),.agg (EL.el a1),.one (Ii6 a2)] (·=.tup [.agg (EL.el r.1),.one (Ii6 r.2)]):=by
 unfold M1 at h
 refine A4 Tryz.func68 R (nt:=78) R (Nbl R) ?_
 intro w0 S0
 refine csr (F0 R R (F0 R R (Bq R Q8 (rm 1 R (Ai (Br (csr (rm 1 R (sv R (C7 R R) (Ai (ccI h R (fun h=>?_) (fun h=>?_))))))))))))
 ·refine csr (sv R (A6 Q8 Aj8 Az (.nil _)) (sst J8 R R R R R (rm 1 R (Ai (Bv (Ag ?_))))))
  obtain rfl:=SJ h
  exact dn (Ad (ra Dh R R R) (Ad (rt R) Ah)) (Iz R) R
 ·refine Bj (Ab (Br (Z0 ?_)))
  obtain ⟨v1,hv1,h⟩:=Ae h
  obtain ⟨v2,hv2,h⟩:=Ae h
  refine Ki [12,13] [0,1,0,4,0,0,32,96,255,511,1023,1023,0,6143,16383] [[.box (EL.el a0),.box (EL.el a1),.box Zba,.hole],[.box (EL.el a0),.box (EL.el a1),.box Zba,.box [Znl,Znl]],[.box (EL.el a0),.box (EL.el a1),.box Zba,.box (EL.el v2.1)]] (by kernel_rfl) mixed (by kernel_rfl) (by decide) R R R R ?_
  refine evs (md:=[.box (EL.el a0),.box (EL.el a1),.box Zba,.dead]) (fun hS=>ev (Ca hS) R R (Ac Sz R) (ev (Ca hS) R R (Bf P9 R (.lp _ _ _ R) (Nbl R)) (ev (Ca hS) R R (Ac Ri R) (ev (Ca hS) R R (Ak ti3 R (.lp _ _ _ R) R) (emv R R (fun _=>Bc R) ?_))))) ⟨⟨R,⟨R,⟨R,⟨trivial,trivial⟩⟩⟩⟩,⟨⟨R,⟨R,⟨R,⟨trivial,trivial⟩⟩⟩⟩,⟨⟨R,⟨R,⟨R,⟨trivial,trivial⟩⟩⟩⟩,trivial⟩⟩⟩
  refine evs (md:=[.box (EL.el a0),.box (EL.el a1),.box Zba,.dead]) (fun hS=>ev (Ca hS) R R (Ac Xj R) (ev (Ca hS) R R (Bf Af3 R (.lp _ _ _ R) (Nbl R)) (ed (Ca hS) R R (C9 Aw0 (Aa R Af) R (Wr hv1)) (ed (Ca hS) R R (C9 Axd (Aa R (Aa R (Aa R (Aa R Af)))) R (Wi hv2)) (emv R R (fun _=>Cd R) ?_))))) ⟨⟨R,⟨R,⟨R,⟨trivial,trivial⟩⟩⟩⟩,⟨⟨R,⟨R,⟨R,⟨trivial,trivial⟩⟩⟩⟩,⟨⟨R,⟨R,⟨R,⟨trivial,trivial⟩⟩⟩⟩,trivial⟩⟩⟩
  refine evs (md:=[.box (EL.el a0),.box (EL.el a1),.box Zba,.dead]) (fun hS=>ev (Ca hS) R R (Aj R R) (ev (Ca hS) R R (Aj R R) (ee (x:=.s (.one (.lp 3 0))) 0 R R R R R (fun ζ=>?_) ?_))) ⟨⟨R,⟨R,⟨R,⟨trivial,trivial⟩⟩⟩⟩,⟨⟨R,⟨R,⟨R,⟨trivial,trivial⟩⟩⟩⟩,⟨⟨R,⟨R,⟨R,⟨trivial,trivial⟩⟩⟩⟩,trivial⟩⟩⟩
  ·refine M8 3 R Wq R ?_
   exact Ta
  refine ee0 1 R R R R (fun ζ=>?_) ?_
  ·refine sst Ws R R R R R (P4 [.box (EL.el a0),.box (EL.el a1),.box Zba,.box (EL.el v2.1)] R ?_)
   exact Ta
  refine ev (Bg 2 R R) R R (Ko R) (Abk (Ab (Br (csr (rm 1 R (sv R (Dy R R) (Ai (ccI h R (fun h=>?_) (fun h=>?_)))))))))
  ·refine csr (sv R (A6 Q8 Aj8 Az (.nil _)) (rm 1 R (sst J8 R R R R R (rm 1 R (Ai (Bv (Ag ?_)))))))
   obtain rfl:=SJ h
   exact dn (Ad (ra Dh R R R) (Ad (rt R) Ah)) (Iz R) R
  ·refine Bj (Ab (csr (sv R (Ac Uj R) (ld Nz R R R R (fl Aao ti3 R R R R R R (fl Ac6 ti3 R R R R R R (sv R (Bc R) ?_)))))))
   obtain ⟨v3,hv3,h⟩:=Ae h
   refine Bb R Av5 (Aa R (Aa R (Aa R (Aa R Af)))) (Ao R) (T5 hv3) (sv R (Cd R) (sv R (Aj R R) (sv R (Aj R R) (Bq R U0 (sst Sf R R R R R (rm 1 R (Ai (Br (csr (rm 1 R (sv R (Dy R R) (Ai (ccI h R (fun h=>?_) (fun h=>?_))))))))))))))
   ·refine csr (sv R (A6 Q8 Aj8 Az (.nil _)) (rm 1 R (sst J8 R R R R R (rm 1 R (Ai (Bv (Ag ?_)))))))
    obtain rfl:=SJ h
    exact dn (Ad (ra Dh R R R) (Ad (rt R) Ah)) (Iz R) R
   ·refine Bj (Ab (csr (sv R (Ac Tl R) (ld Xk R R R R (rm 1 R (sv R (Ac Xj R) (sv R (Ac V2 R) (sv R (Ak Ani R (.lp _ _ _ R) R) ?_))))))))
    obtain ⟨v4,hv4,h⟩:=Ae h
    refine Bb R Avp (Aa R (Aa R (Aa R Af))) (Ao R) (Uf hv4) (sv R (Cd R) (sv R (Aj R R) (sv R (Aj R R) (Bq R Aeb (sst Aez R R R R R (rm 1 R (Ai (Br (csr (rm 1 R (sv R (Dy R R) (Ai (ccI h R (fun h=>?_) (fun h=>?_))))))))))))))
    ·refine csr (sv R (A6 Q8 Aj8 Az (.nil _)) (rm 1 R (sst J8 R R R R R (rm 1 R (Ai (Bv (Ag ?_)))))))
     obtain rfl:=SJ h
     exact dn (Ad (ra Dh R R R) (Ad (rt R) Ah)) (Iz R) R
    ·refine Bj (Ab (csr (ld Dh R R R R (sv R (Ac Ri R) (sv R (Ak ti3 R (.lp _ _ _ R) R) ?_)))))
     obtain ⟨v5,hv5,h⟩:=Ae h
     refine Bb R Ass (Aa R (Aa R Af)) (Ao R) (Rf hv5) (Bq R Q8 (sst J8 R R R R R (Ai (csr (ld Nz R R R R (sv R (Ac Uj R) (sst Sf R R R R R (Ai (csr (sv R (Bf P9 R (.lp _ _ _ R) (Nbl R)) ?_))))))))))
     obtain ⟨v6,hv6,h⟩:=Ae h
     refine Bb R Axn (Aa R Af) (Ao R) (X7 hv6) (sv R (Ac Sz R) (sst Ws R R R R R (Ai (Br ?_))))
     obtain ⟨v7,hv7,h⟩:=Ae h
     obtain ⟨v8,hv8,h⟩:=Ae h
     refine Ki [7] [0,0,2,0,14,31,63,127] [[.box (EL.el a0),.box (EL.el a1),.box Zba,.box (EL.el v2.1),.box [.sl v3.1.L.length (v3.1.L.flatMap Al)],.box (EL.el v4.1),.box (EL.el {v5 with Cert:=v6,Toks:=v3.1})],[.box (EL.el a0),.box (EL.el a1),.box Zba,.box (EL.el v2.1),.box [.sl v3.1.L.length (v3.1.L.flatMap Al)],.box (EL.el v4.1),.box [.sl v8.Keys.length (v8.Keys.flatMap (eL eU8)),.sl v8.Chains.length (v8.Chains.flatMap Aw),Ii6 v8.Ts,.sl v6.Txs.length (v6.Txs.flatMap Be),.sl v6.Reads.L.length (v6.Reads.L.flatMap Aq),.sl v3.1.L.length (v3.1.L.flatMap Al),.sl v5.Open.length (v5.Open.flatMap Bo),Ii6 v5.Next]]] (by kernel_rfl) mixed (by kernel_rfl) (by decide) R R R R ?_
     refine ev (Bg 0 R R) R R (Bf Xk R (.lp _ _ _ R) (Nbl R)) (ev (Bg 0 R R) R R (Ac Sz R) (ev (Bg 0 R R) R R (Bf P9 R (.lp _ _ _ R) (Nbl R)) (ev (Bg 0 R R) R R (Bc R) (ed (Bg 0 R R) R R (C9 Asz (Aa R (Aa R Af)) R (Rq hv7)) (ed (Bg 0 R R) R R (C9 Axq (Aa R (Aa R Af)) R (Vb hv8)) (ev (Bg 0 R R) R R (Ac Tl R) (ee0 0 R R R R (fun ζ=>?_) ?_)))))))
     ·refine sst Aez R R R R R (P4 [.box (EL.el a0),.box (EL.el a1),.box Zba,.box (EL.el v2.1),.box [.sl v3.1.L.length (v3.1.L.flatMap Al)],.box (EL.el v4.1),.box [.sl v8.Keys.length (v8.Keys.flatMap (eL eU8)),.sl v8.Chains.length (v8.Chains.flatMap Aw),Ii6 v8.Ts,.sl v6.Txs.length (v6.Txs.flatMap Be),.sl v6.Reads.L.length (v6.Reads.L.flatMap Aq),.sl v3.1.L.length (v3.1.L.flatMap Al),.sl v5.Open.length (v5.Open.flatMap Bo),Ii6 v5.Next]] R ?_)
      exact Ta
     refine Abk (Ab (csr (ld Dh R R R R (sst J8 R R R R R (rm 1 R (Ai (Bv ?_)))))))
     obtain rfl:=SJ h
     exact dn (Ad (ra Dh R R R) (Ad (rt R) Ah)) (Ao R) R
def Iw (a0:Am) (a1:Int):Option (Am × Int × Int) :=
 (Fc a0 a1).bind fun v1=>if (!decide (v1.2=0)) then ((F3 a0 v1.2).bind fun v2=>some (v2,0,v1.2)) else ((M1 a0 v1.1 (wI (a0.Store.Ts+1))).bind fun v3=>if (!decide (v3.2=0)) then ((Dn a0 v1.1).bind fun v4=>some (v4,0,v3.2)) else (some (v3.1,(wI (a0.Store.Ts+1)),0)))
theorem Pi {a0:Am} {a1:Int} {r:Am × Int × Int} (h:Iw a0 a1=some r):Bt Tryz.prog 27 [.agg (EL.el a0),.one (Ii6 a1)] (·=.tup [.agg (EL.el r.1),.one (Ii6 r.2.1),.one (Ii6 r.2.2)]):=by
 unfold Iw at h
 refine A4 Tryz.func27 R (nt:=42) R (Nbl R) ?_
 intro w0 S0
 refine csr (F0 R R (Bq R Q8 (rm 2 R (Ai (csr (ld Dh R R R R (sv R (Bc R) ?_)))))))
 obtain ⟨v1,hv1,h⟩:=Ae h
 refine Bb R Asb (Aa R (Aa R Af)) (Ao R) (Kz hv1) (sv R (Cd R) (sv R (Aj R R) (sv R (Aj R R) (Bq R Zv (sst Zx R R R R R (rm 1 R (Ai (Br (csr (rm 1 R (sv R (Dy R R) (Ai (ccI h R (fun h=>?_) (fun h=>?_))))))))))))))
 ·refine csr (ld Dh R R R R (sv R (Bc R) ?_))
  obtain ⟨v2,hv2,h⟩:=Ae h
  refine Bb R Arr (Aa R (Aa R Af)) (Ao R) (I5 hv2) (rm 1 R (sst J8 R R R R R (rm 2 R (Ai (Bv (Ag ?_))))))
  obtain rfl:=SJ h
  exact dn (Ad (ra Dh R R R) (Ad (rt R) (Ad (rt R) Ah))) (Ao R) R
 ·refine Bj (Ab (csr (sv R (Ac Tl R) (fl Sb ti3 R R R R R R (sv R (Bs R R) (rm 1 R (Ai (csr (ld Dh R R R R (ld Vv R R R R (sv R (Bc R) ?_)))))))))))
  obtain ⟨v3,hv3,h⟩:=Ae h
  refine Bb R Ayx (Aa R (Aa R (Aa R Af))) (Ao R) (Xz hv3) (sv R (Cd R) (sv R (Aj R R) (sv R (Aj R R) (Bq R Q8 (sst J8 R R R R R (rm 1 R (Ai (Br (csr (rm 1 R (sv R (Dy R R) (Ai (ccI h R (fun h=>?_) (fun h=>?_))))))))))))))
  ·refine csr (ld Dh R R R R (sv R (Bf Vv R (.lp _ _ _ R) (Nbl R)) ?_))
   obtain ⟨v4,hv4,h⟩:=Ae h
   refine Bb R Ash (Aa R (Aa R Af)) (Ao R) (Ht hv4) (rm 1 R (sst J8 R R R R R (rm 2 R (Ai (Bv (Ag ?_))))))
   obtain rfl:=SJ h
   exact dn (Ad (ra Dh R R R) (Ad (rt R) (Ad (rt R) Ah))) (Ao R) R
  ·refine Bj (Ab (csr (ld Dh R R R R (rm 1 R (sst J8 R R R R R (rm 2 R (Ai (Bv ?_))))))))
   obtain rfl:=SJ h
   exact dn (Ad (ra Dh R R R) (Ad (rt R) (Ad (rt R) Ah))) (Ao R) R
def Qt  : Option Bool :=
 (Kl Fi 1 1 false).bind fun v1=>(Kl v1.1 2 1 false).bind fun v2=>(Nj v2.1 v1.2.1 [(UInt8.ofBitVec (120#8))]).bind fun v3=>(Nj v3.1 v2.2.1 [(UInt8.ofBitVec (121#8))]).bind fun v4=>(Nk v4.1 v1.2.1 (A8.mk [(UInt8.ofBitVec (121#8))] ([]:List UInt8) false)).bind fun v5=>(Nk v5.1 v2.2.1 (A8.mk [(UInt8.ofBitVec (120#8))] ([]:List UInt8) false)).bind fun v6=>(Iw v6.1 v1.2.1).bind fun v7=>(Iw v7.1 v2.2.1).bind fun v8=>if (decide (v1.2.2=0)) then (if (decide (v2.2.2=0)) then (if (!v3.2.2.1) then (if (decide (v7.2.2=0)) then (if (decide (v7.2.1=1)) then (if (decide (v8.2.2=10)) then (if (decide ((v8.1.Open.length:Int)=0)) then ((Iv v8.1).bind fun v9=>some v9) else (some false)) else (some false)) else (some false)) else (some false)) else (some false)) else (some false)) else (some false)
theorem Z1  {r:Bool} (h:Qt=some r):Bt Tryz.prog 9 [] (·=.s (.one (.b r))):=by
 unfold Qt at h
 refine A4 Tryz.func9 R (nt:=109) R (Nbl R) ?_
 intro w0 S0
 refine csr (rm 1 R (Ai (csr (sv R (A6 Q8 Aj8 Az (.nil _)) ?_))))
 obtain ⟨v1,hv1,h⟩:=Ae h
 refine Bb R Aw1 (Aa R (Aa R (Aa R (Aa R Af)))) (Iz R) (Qh hv1) (sv R (Cd R) (sv R (Aj R R) (sv R (Aj R R) (sv R (Aj R R) (Bq R Q8 (sst J8 R R R R R (rm 2 R (Ai (csr (sv R (Bf Dh R (.lp _ _ _ R) (Nbl R)) ?_))))))))))
 obtain ⟨v2,hv2,h⟩:=Ae h
 refine Bb R Aw1 (Aa R (Aa R (Aa R (Aa R Af)))) (Ao R) (Qh hv2) (sv R (Cd R) (sv R (Aj R R) (sv R (Aj R R) (sv R (Aj R R) (sst J8 R R R R R (rm 2 R (Ai (csr (ld Dh R R R R (sv R (Bc R) ?_))))))))))
 refine Gk R Tryz.underlying56 ei5 R R (List.all_eq_true.1 R) (by decide) ?_
 refine P4 [.box (EL.el v2.1),.arr 5 1 0 ([(UInt8.ofBitVec (120#8))].flatMap eU8)] R ?_
 refine Yb R Tryz.underlying56 Tryz.underlying5 R R (A1 (f:=eU8) (fun _=>R) [(UInt8.ofBitVec (120#8))]).symm (by decide) ?_
 obtain ⟨v3,hv3,h⟩:=Ae h
 refine Bb R Aw6 (Aa R (Aa R (Aa R Af))) (Ao R) (Ry hv3) (sv R (Cd R) (sv R (Aj R R) (sv R (Aj R R) (sv R (Aj R R) (sv R (Aj R R) (sst J8 R R R R R (rm 3 R (Ai (csr (ld Dh R R R R (sv R (Bc R) ?_)))))))))))
 refine Gk R Tryz.underlying56 ei5 R R (List.all_eq_true.1 R) (by decide) ?_
 refine P4 [.box (EL.el v3.1),.dead,.arr 5 1 0 ([(UInt8.ofBitVec (121#8))].flatMap eU8)] R ?_
 refine Yb R Tryz.underlying56 Tryz.underlying5 R R (A1 (f:=eU8) (fun _=>R) [(UInt8.ofBitVec (121#8))]).symm (by decide) ?_
 obtain ⟨v4,hv4,h⟩:=Ae h
 refine Bb R Aw6 (Aa R (Aa R (Aa R Af))) (Ao R) (Ry hv4) (sv R (Cd R) (sv R (Aj R R) (sv R (Aj R R) (sv R (Aj R R) (sv R (Aj R R) (sst J8 R R R R R (Ai (csr (ld Dh R R R R (sv R (Bc R) ?_))))))))))
 refine Gk R Tryz.underlying56 ei5 R R (List.all_eq_true.1 R) (by decide) ?_
 refine P4 [.box (EL.el v4.1),.dead,.dead,.arr 5 1 0 ([(UInt8.ofBitVec (121#8))].flatMap eU8)] R ?_
 refine Yb R Tryz.underlying56 Tryz.underlying5 R R (A1 (f:=eU8) (fun _=>R) [(UInt8.ofBitVec (121#8))]).symm (by decide) ?_
 refine sv R (A6 Ai2 Au8 (Av R Az) (.cons _ _ _ _ _ _ _ R R (Nbl R) (.nil _))) ?_
 obtain ⟨v5,hv5,h⟩:=Ae h
 refine Bb R Avm (Aa R (Aa R (Aa R Af))) (Iz R) (R3 hv5) (sv R (Cd R) (sv R (Aj R R) (sv R (Aj R R) (sst J8 R R R R R (Ai (csr (ld Dh R R R R (sv R (Bc R) ?_))))))))
 refine Gk R Tryz.underlying56 ei5 R R (List.all_eq_true.1 R) (by decide) ?_
 refine P4 [.box (EL.el v5.1),.dead,.dead,.dead,.arr 5 1 0 ([(UInt8.ofBitVec (120#8))].flatMap eU8)] R ?_
 refine Yb R Tryz.underlying56 Tryz.underlying5 R R (A1 (f:=eU8) (fun _=>R) [(UInt8.ofBitVec (120#8))]).symm (by decide) ?_
 refine sv R (A6 Ai2 Au8 (Av R Az) (.cons _ _ _ _ _ _ _ R R (Nbl R) (.nil _))) ?_
 obtain ⟨v6,hv6,h⟩:=Ae h
 refine Bb R Avm (Aa R (Aa R (Aa R Af))) (Iz R) (R3 hv6) (sv R (Cd R) (sv R (Aj R R) (sv R (Aj R R) (sst J8 R R R R R (Ai (csr (ld Dh R R R R (sv R (Bc R) ?_))))))))
 obtain ⟨v7,hv7,h⟩:=Ae h
 refine Bb R Av8 (Aa R (Aa R Af)) (Ao R) (Pi hv7) (sv R (Cd R) (sv R (Aj R R) (sv R (Aj R R) (sv R (Aj R R) (sst J8 R R R R R (rm 2 R (Ai (csr (ld Dh R R R R (sv R (Bc R) ?_))))))))))
 obtain ⟨v8,hv8,h⟩:=Ae h
 refine Bb R Av8 (Aa R (Aa R Af)) (Ao R) (Pi hv8) (sv R (Cd R) (sv R (Aj R R) (sv R (Aj R R) (sv R (Aj R R) (sst J8 R R R R R (rm 2 R (Ai (csr (rm 1 R (sv R (B5 R R) (rm 1 R (ssI 79 h R (fun h=>?_) (fun h=>?_)))))))))))))
 ·refine rm 1 R (son R R R (sv R (B5 R R) (rm 2 R (ssI 83 h R (fun h=>?_) (fun h=>?_)))))
  ·refine rm 1 R (son R R R (sv R (B2 R) (rm 2 R (ssI 87 h R (fun h=>?_) (fun h=>?_)))))
   ·refine rm 1 R (son R R R (sv R (B5 R R) (rm 2 R (ssI 91 h R (fun h=>?_) (fun h=>?_)))))
    ·refine rm 1 R (son R R R (sv R (B5 R R) (rm 2 R (ssI 95 h R (fun h=>?_) (fun h=>?_)))))
     ·refine rm 1 R (son R R R (sv R (B5 R R) (rm 2 R (ssI 99 h R (fun h=>?_) (fun h=>?_)))))
      ·refine son R R R (sv R (Ac Ro R) (son R R R (sv R (Ak Ai1 R (.lp _ _ _ R) R) (son R R R (sv R (Ax Yl R) (son R R R (sv R (B5 R R) (rm 2 R (ssI 105 h R (fun h=>?_) (fun h=>?_))))))))))
       ·refine son R R R (ld Dh R R R R (son R R R ?_))
        obtain ⟨v9,hv9,h⟩:=Ae h
        refine Bb R At6 (Aa R Af) (Ao R) (M2 hv9) (rm 2 R (Ai (Bv ?_)))
        obtain rfl:=SJ h
        exact dnT R R R R
       ·refine rm 4 R (Ai (Bv ?_))
        obtain rfl:=SJ h
        exact dnT R R R R
      ·refine rm 10 R (Ai (Bv ?_))
       obtain rfl:=SJ h
       exact dnT R R R R
     ·refine rm 14 R (Ai (Bv ?_))
      obtain rfl:=SJ h
      exact dnT R R R R
    ·refine rm 18 R (Ai (Bv ?_))
     obtain rfl:=SJ h
     exact dnT R R R R
   ·refine rm 22 R (Ai (Bv ?_))
    obtain rfl:=SJ h
    exact dnT R R R R
  ·refine rm 26 R (Ai (Bv ?_))
   obtain rfl:=SJ h
   exact dnT R R R R
 ·refine rm 30 R (Ai (Bv ?_))
  obtain rfl:=SJ h
  exact dnT R R R R
def Nw (a0:Bi):Option Bool :=
 if (decide ((a0.Lo.length:Int)≤100)) then (some (decide ((a0.Hi.length:Int)≤100))) else (some false)
theorem Yz {a0:Bi} {r:Bool} (h:Nw a0=some r):Bt Tryz.prog 29 [.agg (EL.el a0)] (·=.s (.one (.b r))):=by
 unfold Nw at h
 refine A4 Tryz.func29 R (nt:=13) R (Nbl R) ?_
 intro w0 S0
 refine csr (F0 R R (rm 1 R (Ai (csr (fl Aak Nr R R R R R R (sv R (Ax X9 R) (sv R (Dj R R) (rm 1 R (ssI 7 h R (fun h=>?_) (fun h=>?_))))))))))
 ·refine son R R R (sv R (Ac Xl R) (son R R R (sv R (Ak Nr R (.lp _ _ _ R) R) (son R R R (sv R (Ax X9 R) (son R R R (sv R (Dj R R) (rm 2 R (Ai (Bv ?_))))))))))
  obtain rfl:=SJ h
  exact dnT R R R R
 ·refine rm 6 R (Ai (Bv ?_))
  obtain rfl:=SJ h
  exact dnT R R R R
def Po (b1:Unit):Option Bool :=
 some true
def Kt (a0:List I0) (s2:Int):Option (LR (Int) (Unit) (Bool)) :=
 if (decide (s2<(a0.length:Int))) then ((idx a0 s2).bind fun u3=>(Nw u3.Rng).bind fun v4=>if (!v4) then (some (.ret false)) else ((idx a0 s2).bind fun u5=>if (decide (50<(u5.Key.length:Int))) then (some (.ret false)) else ((idx a0 s2).bind fun u6=>if (decide (100<(u6.Val.length:Int))) then (some (.ret false)) else (some (.cont (wI (s2+1))))))) else (some (.brk ()))
def N8 (a0:List I0):Option Bool :=
 if (decide (80<(a0.length:Int))) then (some false) else ((Lj (Kt a0) fuel 0).bind fun x=>match x with | .inl r=>some r | .inr e7=>Po e7)
theorem Ze {a0:List I0} {r:Bool} (h:N8 a0=some r):Bt Tryz.prog 10 [.one (.sl a0.length (a0.flatMap Ev))] (·=.s (.one (.b r))):=by
 unfold N8 at h
 refine A4 Tryz.func10 R (nt:=38) R (Nbl R) ?_
 intro w0 S0
 refine csr (rm 1 R (Ai (Br (csr (rm 1 R (sv R (Ax Afa R) (sv R (C7 R R) (Ai (ccI h R (fun h=>?_) (fun h=>?_))))))))))
 ·refine csr (rm 1 R (Ai (Bv (Ag ?_))))
  obtain rfl:=SJ h
  exact dnT R R R R
 ·refine Bj (Ab (Br (csr (rm 1 R (Ai (Dt (Unit) (fun b1=>[]) (fun b1=>[]) (fun b1=>Po b1=some r) (fun _ _=>A5 R) (fun _ _=>Ap R) (fun _ _=>Nbl R) (fun b1 h=>?_) ?_))))))
  ·unfold Po at h
   refine csr (rm 1 R (Ai (Bv ?_)))
   obtain rfl:=SJ h
   exact dnT R R R R
  ·skip
   refine Bu ?_
   obtain ⟨x2,hx2,ho2⟩:=Ae h
   refine B6 (G:=Nat × (Int)) (fun g=>[(0,.s (.one (.sl a0.length (a0.flatMap Ev)))),(3,.s (.one (Ii6 g.2)))]) (fun g=>[]) (fun g=>Lj (Kt a0) g.1 g.2=some x2) (fun g=>g.1) (fuel,0) hx2 ⟨R,R,trivial⟩ [] R (fun _ _=>A5 R) (fun _ _=>Ap R) (fun _ _=>Nbl R) ?_
   clear hx2 h
   rintro ⟨n2,s2⟩ h
   obtain ⟨n2,y2,rfl,h,hk2⟩:=Ff h
   unfold Kt at h
   refine Br (csr (rm 2 R (sv R (Ax Afa R) (sv R (Bw R R) (Ai (ccI h R (fun h=>?_) (fun h=>?_)))))))
   ·refine Bj (Ab (Br (Bu (csr (rm 1 R (sv R (Bc R) ?_))))))
    obtain ⟨u3,hu3,h⟩:=Ae h
    refine sv R (Cb (f:=Ev) Afa (fun _=>R) R R R R hu3) ?_
    refine sv R (Ci Apf R) (sv R (B3 (ys:=[.sl u3.Rng.Lo.length (u3.Rng.Lo.flatMap eU8),.sl u3.Rng.Hi.length (u3.Rng.Hi.flatMap eU8),.b u3.Rng.Open]) Abw R (.cp _) R R) ?_)
    obtain ⟨v4,hv4,h⟩:=Ae h
    refine Bb R Ayf (Aa R Af) (Ao R) (Yz hv4) (sv R (B2 R) (rm 1 R (ssI 20 h R (fun h=>?_) (fun h=>?_))))
    ·refine rm 17 R (Ai (Cp R (fun _=>?_) (fun hx=>Bool.noConfusion hx)))
     refine csr (rm 1 R (Ai (Bv (Ay (Ag (Ag (Ay (Ag ?_))))))))
     obtain rfl:=SJ h
     obtain rfl:Sum.inl _=x2:=hk2
     replace ho2:some _=some _:=ho2
     obtain rfl:=Option.some.inj ho2
     exact dnT R R R R
    ·refine rm 2 R (son R R R ?_)
     obtain ⟨u5,hu5,h⟩:=Ae h
     refine sv R (Cb (f:=Ev) Afa (fun _=>R) R R R R hu5) ?_
     refine son R R R (sv R (Ci Alr R) (son R R R (sv R (Ak Nr R (.cp _) R) (son R R R (sv R (Ax X9 R) (son R R R (sv R (C7 R R) (rm 2 R (ssI 29 h R (fun h=>?_) (fun h=>?_))))))))))
     ·refine rm 8 R (Ai (Cp R (fun _=>?_) (fun hx=>Bool.noConfusion hx)))
      refine csr (rm 1 R (Ai (Bv (Ay (Ag (Ag (Ay (Ag ?_))))))))
      obtain rfl:=SJ h
      obtain rfl:Sum.inl _=x2:=hk2
      replace ho2:some _=some _:=ho2
      obtain rfl:=Option.some.inj ho2
      exact dnT R R R R
     ·refine rm 2 R (son R R R ?_)
      obtain ⟨u6,hu6,h⟩:=Ae h
      refine sv R (Cb (f:=Ev) Afa (fun _=>R) R R R R hu6) ?_
      refine son R R R (sv R (Ci Api R) (son R R R (sv R (Ak Nr R (.cp _) R) (son R R R (sv R (Ax X9 R) (son R R R (sv R (C7 R R) (rm 1 R (Ai (ccI h R (fun h=>?_) (fun h=>?_)))))))))))
      ·refine csr (rm 1 R (Ai (Bv (Ay (Ag (Ag (Ay (Ag ?_))))))))
       obtain rfl:=SJ h
       obtain rfl:Sum.inl _=x2:=hk2
       replace ho2:some _=some _:=ho2
       obtain rfl:=Option.some.inj ho2
       exact dnT R R R R
      ·refine Bj (Ar (Ab (As (rm 1 R (sv R (Bs R R) (rm 1 R (Ai ?_)))))))
       obtain rfl:=SJ h
       exact ⟨(n2,(wI (s2+1))),_,hk2,⟨R,R,trivial⟩,R,Nat.lt_succ_self _⟩
   ·refine Di (Au (Au (Bn (Ab ?_))))
    obtain rfl:=SJ h
    obtain rfl:_=x2:=hk2
    exact ⟨(),_,ho2,trivial,R⟩
def Qu (a0:Am) (a1:Int):Option (Bl × Bool) :=
 (Fc a0 a1).bind fun v1=>some (v1.1,(decide (v1.2=0)))
theorem Aaf {a0:Am} {a1:Int} {r:Bl × Bool} (h:Qu a0 a1=some r):Bt Tryz.prog 22 [.agg (EL.el a0),.one (Ii6 a1)] (·=.tup [.agg (EL.el r.1),.one (.b r.2)]):=by
 unfold Qu at h
 refine A4 Tryz.func22 R (nt:=17) R (Nbl R) ?_
 intro w0 S0
 refine csr (F0 R R (Bq R Zv (rm 1 R (Ai (csr (ld Dh R R R R (sv R (Bc R) ?_)))))))
 obtain ⟨v1,hv1,h⟩:=Ae h
 refine Bb R Asb (Aa R (Aa R Af)) (Ao R) (Kz hv1) (sv R (Cd R) (sv R (Aj R R) (sv R (Aj R R) (Bq R Zv (sst Zx R R R R R (rm 1 R (Ai (csr (ld Vv R R R R (rm 1 R (sv R (B5 R R) (sst Zx R R R R R (rm 1 R (Ai (Bv ?_)))))))))))))))
 obtain rfl:=SJ h
 exact dn (Ad (ra Vv R R R) (Ad (rt R) Ah)) (Ao R) R
def Oi (b2:(List B8)):Option (List B8) :=
 some b2
def J4 (a0:B1) (a1:Bi) (a2:Int) (a3:Int) (s3:Int × (List B8)):Option (LB (Int × (List B8)) ((List B8))) :=
 if (decide (s3.1<(a0.Keys.length:Int))) then ((idx a0.Keys s3.1).bind fun u4=>if (decide (a3≤(s3.2.length:Int))) then (some (.brk s3.2)) else ((Dq a1 u4).bind fun v5=>if (!v5) then (some (.cont ((wI (s3.1+1)),s3.2))) else ((idx a0.Chains s3.1).bind fun u6=>(Hb u6 a2).bind fun v7=>if v7.2 then (if (s3.2.length+[(B8.mk u4 v7.1)].length)*48≤140737488355328 then (some (.cont ((wI (s3.1+1)),(s3.2++[(B8.mk u4 v7.1)])))) else none) else (some (.cont ((wI (s3.1+1)),s3.2)))))) else (some (.brk s3.2))
def Kx (a0:B1) (a1:Bi) (a2:Int) (a3:Int):Option (List B8) :=
 (C3 a0).bind fun v1=>if (!v1) then (some ([]:List B8)) else ((C5 (J4 a0 a1 a2 a3) fuel (0,([]:List B8))).bind fun e9=>Oi e9)
theorem Xr {a0:B1} {a1:Bi} {a2:Int} {a3:Int} {r:(List B8)} (h:Kx a0 a1 a2 a3=some r):Bt Tryz.prog 54 [.agg (EL.el a0),.agg (EL.el a1),.one (Ii6 a2),.one (Ii6 a3)] (·=.s (.one (.sl r.length (r.flatMap Cg)))):=by
 unfold Kx at h
 refine A4 Tryz.func54 R (nt:=54) R (Nbl R) ?_
 intro w0 S0
 refine csr (F0 R R (F0 R R (rm 1 R (Ai ?_))))
 refine Asl (fun _ _ h=>by rcases h with ⟨h | h,_⟩ <;> cases h) ?_
 refine Br (csr (sv R (Bf Xk R (.lp _ _ _ R) (Nbl R)) ?_))
 obtain ⟨v1,hv1,h⟩:=Ae h
 refine Bb R At2 (Aa R Af) (Ao R) (Kv hv1) (sv R (B2 R) (Ai (ccI h R (fun h=>?_) (fun h=>?_))))
 ·refine csr (rm 1 R (Ai (Bv (Ag ?_))))
  obtain rfl:=SJ h
  exact dn (Ad (rt R) Ah) (Iz R) R
 ·refine Bj (Ab (csr (rm 1 R (Ai (Br (Ats (Ab (Br (csr (fl Q4 Abm R R R R R R (sv R (Ax Sn R) (rm 1 R (Ai ?_)))))))))))))
  refine D1 157 2 9 (by decide) R ?_
  refine Dt ((List B8)) (fun b2=>[(9,.s (.one (.ls 2 b2.length)))]) (fun b2=>[.box (EL.el a0),.box (EL.el a1),.arr 157 2 0 (b2.flatMap Cg)]) (fun b2=>Oi b2=some r) (fun _ _=>A5 R) (fun _ _=>Ap R) (fun _ _=>Nbl R) (fun b2 h=>?_) ?_
  ·unfold Oi at h
   refine csr (rm 2 R (Ai (Bv ?_)))
   obtain rfl:=SJ h
   refine ⟨Or.inr R,_,_,_,(Ad (rt R) Ah),(by (repeat' first | exact J7.nil _ | apply J7.cons | apply Jm.one | apply Jm.agg | exact Dm.nil | exact Dm.ls _ _ _ _ _ _ R (A1 (f:=Cg) (fun _=>R) _).symm | exact Dm.id _ R | exact Cw.nil _ | apply Cw.cons)),?_⟩
   rfl
  ·skip
   refine Bu ?_
   obtain ⟨x3,hx3,ho3⟩:=Ae h
   refine B6 (G:=Nat × (Int × (List B8))) (fun g=>[(2,.s (.one (Ii6 a2))),(3,.s (.one (Ii6 a3))),(4,.s (.one (.lp 0 0))),(5,.s (.one (.lp 1 0))),(9,.s (.one (.ls 2 g.2.2.length))),(18,.s (.one (.sl a0.Keys.length (a0.Keys.flatMap (eL eU8))))),(19,.s (.one (Ii6 (a0.Keys.length:Int)))),(20,.s (.one (Ii6 g.2.1)))]) (fun g=>[.box (EL.el a0),.box (EL.el a1),.arr 157 2 0 (g.2.2.flatMap Cg)]) (fun g=>C5 (J4 a0 a1 a2 a3) g.1 g.2=some x3) (fun g=>g.1) (fuel,(0,([]:List B8))) hx3 ⟨R,R,R,R,R,R,R,R,trivial⟩ [] R (fun _ _=>A5 R) (fun _ _=>Ap R) (fun _ _=>Nbl R) ?_
   clear hx3 h
   rintro ⟨n3,s3⟩ h
   obtain ⟨n3,y3,rfl,h,hk3⟩:=C8 h
   unfold J4 at h
   refine csr (sv R (Bw R R) (Ai (Br (ccI h R (fun h=>?_) (fun h=>?_)))))
   ·refine Bj (Ab (Br (Bu (csr (sv R (Bc R) ?_)))))
    obtain ⟨u4,hu4,h⟩:=Ae h
    refine sv R (Cb (f:=(eL eU8)) Sn (fun _=>R) R R R R hu4) ?_
    refine sv R (Ak Nr R (.cp _) R) (rm 2 R (Ai (Br (Bu (csr (rm 1 R (sv R (Mf Ar1 R R (A1 (f:=Cg) (fun _=>R) _).symm) ?_)))))))
    refine rm 1 R (sv R (He R R) (rm 1 R (Ai (ccI h R (fun h=>?_) (fun h=>?_)))))
    ·refine Di (Wh R (Au (Wh R (Au (Au (Bn (Ab ?_)))))))
     obtain rfl:=SJ h
     obtain rfl:_=x3:=hk3
     exact ⟨s3.2,_,ho3,⟨R,trivial⟩,R⟩
    ·refine csr (ld Abw R R R R (sv R (Bc R) ?_))
     obtain ⟨v5,hv5,h⟩:=Ae h
     refine Bb R Akc (Aa R (Aa R Af)) (Ao R) (L0 hv5) (sv R (B2 R) (rm 1 R (Ai (ccI h R (fun h=>?_) (fun h=>?_)))))
     ·refine Di (Wh R (Au (Bn (Ab (As (sv R (Bs R R) (rm 1 R (Ai ?_))))))))
      obtain rfl:=SJ h
      exact ⟨(n3,((wI (s3.1+1)),s3.2)),_,hk3,⟨R,R,R,R,R,R,R,R,trivial⟩,R,Nat.lt_succ_self _⟩
     ·refine Bj (Ar (Ab (csr (fl Qj Ahz R R R R R R (sv R (Bc R) ?_)))))
      obtain ⟨u6,hu6,h⟩:=Ae h
      refine sv R (Cb (f:=Aw) Am4 (fun _=>R) R R R R hu6) ?_
      refine sv R (B3 (ys:=[.sl u6.L.length (u6.L.flatMap A7)]) Oh R (.cp _) R R) (sv R (Bc R) ?_)
      obtain ⟨v7,hv7,h⟩:=Ae h
      refine Bb R Axv (Aa R (Aa R Af)) (Ao R) (Ru hv7) (sv R (Cd R) (sv R (Aj R R) (sv R (Aj R R) (rm 2 R (Ai (csr (rm 1 R (Ai (ccI h R (fun h=>?_) (fun h=>?_))))))))))
      ·refine As (rm 3 R (sv R (A6 Ajx Asi (Av R (Av R Az)) (.cons _ _ _ _ _ _ _ R R (Nbl R) (.cons _ _ _ _ _ _ _ R R (Nbl R) (.nil _)))) ?_))
       refine Gk R Tryz.underlying61 Anf R R (List.all_eq_true.1 R) (by decide) ?_
       refine P4 [.box (EL.el a0),.box (EL.el a1),.arr 157 2 0 (s3.2.flatMap Cg),.arr 157 2 0 ([(B8.mk u4 v7.1)].flatMap Cg)] R ?_
       obtain ⟨hb8,h⟩:=Cy h
       refine Wb (f:=Cg) (xs:=s3.2) (us:=[(B8.mk u4 v7.1)]) R Tryz.underlying61 Anf Axx (fun _=>R) R R (.one _ _ _ _ (.ls _ _ _ _ _ _ R (A1 (f:=Cg) (fun _=>R) [(B8.mk u4 v7.1)]).symm)) R R R (.sl _ _ _ (A1 (f:=Cg) (fun _=>R) _)) R R hb8 (by decide) ?_
       refine rm 1 R (Ks (Ar (Ab (As (sv R (Bs R R) (rm 1 R (Ai ?_)))))))
       obtain rfl:=SJ h
       exact ⟨(n3,((wI (s3.1+1)),(s3.2++[(B8.mk u4 v7.1)]))),_,hk3,⟨R,R,R,R,R,R,R,R,trivial⟩,R,Nat.lt_succ_self _⟩
      ·refine Bj (Ar (Ab (As (sv R (Bs R R) (rm 1 R (Ai ?_))))))
       obtain rfl:=SJ h
       exact ⟨(n3,((wI (s3.1+1)),s3.2)),_,hk3,⟨R,R,R,R,R,R,R,R,trivial⟩,R,Nat.lt_succ_self _⟩
   ·refine Di (Au (Au (Bn (Ab ?_))))
    obtain rfl:=SJ h
    obtain rfl:_=x3:=hk3
    exact ⟨s3.2,_,ho3,⟨R,trivial⟩,R⟩
def Oa (a0:Am) (a2:Bi) (a3:Int) (v1:Bl × Int) (b3:Unit):Option (Am × (List B8) × Int) :=
 (Nl a0 v1.1 a2).bind fun v4=>if (!decide (v4.2=0)) then (some (v4.1,([]:List B8),v4.2)) else ((Kx v4.1.Store a2 v1.1.Snap 128).bind fun v5=>(F8 v1.1.Buf v5 a2 a3).bind fun v6=>some (v4.1,v6,0))
def Pb (a0:Am) (a1:Int) (a2:Bi) (a3:Int):Option (Am × (List B8) × Int) :=
 (Fc a0 a1).bind fun v1=>if (!decide (v1.2=0)) then ((F3 a0 v1.2).bind fun v2=>some (v2,([]:List B8),v1.2)) else ((Ew a2).bind fun v7=>if (!v7) then (some (a0,([]:List B8),1)) else ((G1 a2).bind fun v8=>if v8 then (some (a0,([]:List B8),1)) else (Oa a0 a2 a3 v1 ())))
theorem Z7 {a0:Am} {a1:Int} {a2:Bi} {a3:Int} {r:Am × (List B8) × Int} (h:Pb a0 a1 a2 a3=some r):Bt Tryz.prog 30 [.agg (EL.el a0),.one (Ii6 a1),.agg (EL.el a2),.one (Ii6 a3)] (·=.tup [.agg (EL.el r.1),.one (.sl r.2.1.length (r.2.1.flatMap Cg)),.one (Ii6 r.2.2)]):=by
 unfold Pb at h
 refine A4 Tryz.func30 R (nt:=58) R (Nbl R) ?_
 intro w0 S0
 refine csr (F0 R R (F0 R R (Bq R Q8 (rm 2 R (Ai (csr (ld Dh R R R R (sv R (Bc R) ?_))))))))
 obtain ⟨v1,hv1,h⟩:=Ae h
 refine Bb R Asb (Aa R (Aa R Af)) (Ao R) (Kz hv1) (sv R (Cd R) (sv R (Aj R R) (sv R (Aj R R) (Bq R Zv (sst Zx R R R R R (rm 1 R (Ai (Br (csr (rm 1 R (sv R (Dy R R) (Ai (ccI h R (fun h=>?_) (fun h=>?_))))))))))))))
 ·refine csr (ld Dh R R R R (sv R (Bc R) ?_))
  obtain ⟨v2,hv2,h⟩:=Ae h
  refine Bb R Arr (Aa R (Aa R Af)) (Ao R) (I5 hv2) (rm 1 R (sst J8 R R R R R (rm 2 R (Ai (Bv (Ag ?_))))))
  obtain rfl:=SJ h
  exact dn (Ad (ra Dh R R R) (Ad (rt R) (Ad (rt R) Ah))) (Iz R) R
 ·refine Bj (Ab (Br (Br (Hp (Unit) (fun b3=>[(3,.s (.one (Ii6 a3))),(4,.s (.one (.lp 0 0))),(6,.s (.one (.lp 1 0))),(8,.s (.one (.lp 2 0))),(11,.s (.one (.lp 3 0)))]) (fun b3=>[.box (EL.el a0),.box (EL.el a2),.box Zba,.box (EL.el v1.1)]) (fun b3=>Oa a0 a2 a3 v1 b3=some r) (fun _ _=>A5 R) (fun _ _=>Ap R) (fun _ _=>Nbl R) (fun b3 h=>?_) ?_))))
  ·unfold Oa at h
   refine csr (ld Dh R R R R (ld Vv R R R R (sv R (Bf Abw R (.lp _ _ _ R) (Nbl R)) ?_)))
   obtain ⟨v4,hv4,h⟩:=Ae h
   refine Bb R Axw (Aa R (Aa R (Aa R Af))) (Ao R) (Ul hv4) (sv R (Cd R) (sv R (Aj R R) (sv R (Aj R R) (sst J8 R R R R R (rm 1 R (Ai (Br (csr (rm 1 R (sv R (Dy R R) (Ai (ccI h R (fun h=>?_) (fun h=>?_)))))))))))))
   ·refine csr (ld Dh R R R R (rm 1 R (sst J8 R R R R R (rm 2 R (Ai (Bv (Ag ?_)))))))
    obtain rfl:=SJ h
    exact dn (Ad (ra Dh R R R) (Ad (rt R) (Ad (rt R) Ah))) (Iz R) R
   ·refine Bj (Ab (csr (sv R (Ac Tl R) (ld Xk R R R R (ld Abw R R R R (sv R (Ac Agk R) (sv R (Ak ti3 R (.lp _ _ _ R) R) ?_)))))))
    obtain ⟨v5,hv5,h⟩:=Ae h
    refine Bb R Aya (Aa R (Aa R (Aa R (Aa R Af)))) (Ao R) (Xr hv5) (rm 1 R (Ai (Br ?_)))
    obtain ⟨v6,hv6,h⟩:=Ae h
    refine Ki [7] [0,0,2,0,0,0,62,127,255,511] [[.box (EL.el v4.1),.box (EL.el a2),.box Zba,.box (EL.el v1.1)],[.box (EL.el v4.1),.box (EL.el a2),.box (EL.el v4.1),.box (EL.el v1.1)]] (by kernel_rfl) mixed (by kernel_rfl) (by decide) R R R R ?_
    refine ev (Bg 0 R R) R R (Bf Dh R (.lp _ _ _ R) (Nbl R)) (ev (Bg 0 R R) R R (Ac Xj R) (ev (Bg 0 R R) R R (Bf Af3 R (.lp _ _ _ R) (Nbl R)) (ev (Bg 0 R R) R R (Bc R) (ev (Bg 0 R R) R R (Bf Abw R (.lp _ _ _ R) (Nbl R)) (ev (Bg 0 R R) R R (Bc R) (ed (Bg 0 R R) R R (C9 Ay1 (Aa R (Aa R (Aa R (Aa R Af)))) R (Wo hv6)) (ee0 0 R R R R (fun ζ=>?_) ?_)))))))
    ·refine sst J8 R R R R R (P4 [.box (EL.el v4.1),.box (EL.el a2),.box (EL.el v4.1),.box (EL.el v1.1)] R ?_)
     exact Ta
    refine ev (Bg 1 R R) R R (Ko R) (ev (Bg 1 R R) R R (Ko R) (Abk (Ab (Bv ?_))))
    obtain rfl:=SJ h
    exact dn (Ad (ra Dh R R R) (Ad (rt R) (Ad (rt R) Ah))) (Ao R) R
  ·skip
   refine As (sv R (Bf Abw R (.lp _ _ _ R) (Nbl R)) ?_)
   obtain ⟨v7,hv7,h⟩:=Ae h
   refine Bb R Ax7 (Aa R Af) (Ao R) (Pq hv7) (sv R (B2 R) (rm 1 R (ssI 29 h R (fun h=>?_) (fun h=>?_))))
   ·refine rm 3 R (Ai (Cp R (fun _=>?_) (fun hx=>Bool.noConfusion hx)))
    refine csr (ld Dh R R R R (sst J8 R R R R R (rm 2 R (Ai (Bv (Ag ?_))))))
    obtain rfl:=SJ h
    exact dn (Ad (ra Dh R R R) (Ad (rt R) (Ad (rt R) Ah))) (Iz R) R
   ·refine son R R R (ld Abw R R R R (son R R R ?_))
    obtain ⟨v8,hv8,h⟩:=Ae h
    refine Bb R Axy (Aa R Af) (Ao R) (Se hv8) (rm 1 R (Ai (ccI h R (fun h=>?_) (fun h=>?_))))
    ·refine csr (ld Dh R R R R (sst J8 R R R R R (rm 2 R (Ai (Bv (Ag ?_))))))
     obtain rfl:=SJ h
     exact dn (Ad (ra Dh R R R) (Ad (rt R) (Ad (rt R) Ah))) (Iz R) R
    ·refine Bj (Ab ?_)
     exact ⟨(),_,h,⟨R,R,R,R,R,trivial⟩,R⟩
def Np (a0:Am) (a1:Int):Option (Am × Int) :=
 (Fc a0 a1).bind fun v1=>if (!decide (v1.2=0)) then ((F3 a0 v1.2).bind fun v2=>some (v2,v1.2)) else ((Dn a0 v1.1).bind fun v3=>some (v3,0))
theorem Yy {a0:Am} {a1:Int} {r:Am × Int} (h:Np a0 a1=some r):Bt Tryz.prog 26 [.agg (EL.el a0),.one (Ii6 a1)] (·=.tup [.agg (EL.el r.1),.one (Ii6 r.2)]):=by
 unfold Np at h
 refine A4 Tryz.func26 R (nt:=23) R (Nbl R) ?_
 intro w0 S0
 refine csr (F0 R R (Bq R Q8 (rm 1 R (Ai (csr (ld Dh R R R R (sv R (Bc R) ?_)))))))
 obtain ⟨v1,hv1,h⟩:=Ae h
 refine Bb R Asb (Aa R (Aa R Af)) (Ao R) (Kz hv1) (sv R (Cd R) (sv R (Aj R R) (sv R (Aj R R) (Bq R Zv (sst Zx R R R R R (rm 1 R (Ai (Br (csr (rm 1 R (sv R (Dy R R) (Ai (ccI h R (fun h=>?_) (fun h=>?_))))))))))))))
 ·refine csr (ld Dh R R R R (sv R (Bc R) ?_))
  obtain ⟨v2,hv2,h⟩:=Ae h
  refine Bb R Arr (Aa R (Aa R Af)) (Ao R) (I5 hv2) (rm 1 R (sst J8 R R R R R (rm 1 R (Ai (Bv (Ag ?_))))))
  obtain rfl:=SJ h
  exact dn (Ad (ra Dh R R R) (Ad (rt R) Ah)) (Ao R) R
 ·refine Bj (Ab (csr (ld Dh R R R R (sv R (Bf Vv R (.lp _ _ _ R) (Nbl R)) ?_))))
  obtain ⟨v3,hv3,h⟩:=Ae h
  refine Bb R Ash (Aa R (Aa R Af)) (Ao R) (Ht hv3) (sst J8 R R R R R (rm 1 R (Ai (Bv ?_))))
  obtain rfl:=SJ h
  exact dn (Ad (ra Dh R R R) (Ad (rt R) Ah)) (Ao R) R
def Em (v2:Bm × Int × Int) (b6:Am):Option (Am × Int × Int) :=
 some (b6,v2.2.1,0)
def Mz (a0:Am) (a1:Int) (a2:Int):Option (Am × Int × Int) :=
 (Iv a0).bind fun v1=>if (!v1) then (some (Fi,0,1)) else ((Dk a0.Toks a1 a2).bind fun v2=>if (!decide (v2.2.2=0)) then ((F3 a0 v2.2.2).bind fun v3=>some (v3,0,v2.2.2)) else ((Eg v2.1 a1).bind fun v4=>(Jw ({a0 with Toks:=v2.1}) a1).bind fun v5=>if v5.2 then (if (decide (v4.1.State=3)) then (if (decide (v5.1.Attempt≤v4.1.Attempt)) then ((Dn ({a0 with Toks:=v2.1}) v5.1).bind fun v7=>Em v2 v7) else (Em v2 ({a0 with Toks:=v2.1}))) else (Em v2 ({a0 with Toks:=v2.1}))) else (Em v2 ({a0 with Toks:=v2.1}))))
theorem Xs {a0:Am} {a1:Int} {a2:Int} {r:Am × Int × Int} (h:Mz a0 a1 a2=some r):Bt Tryz.prog 31 [.agg (EL.el a0),.one (Ii6 a1),.one (Ii6 a2)] (·=.tup [.agg (EL.el r.1),.one (Ii6 r.2.1),.one (Ii6 r.2.2)]):=by
 unfold Mz at h
 refine A4 Tryz.func31 R (nt:=67) R (Nbl R) ?_
 intro w0 S0
 refine csr (F0 R R (Bq R Q8 (rm 2 R (Ai (Br (csr (sv R (Bf Dh R (.lp _ _ _ R) (Nbl R)) ?_)))))))
 obtain ⟨v1,hv1,h⟩:=Ae h
 refine Bb R At6 (Aa R Af) (Ao R) (M2 hv1) (sv R (B2 R) (Ai (ccI h R (fun h=>?_) (fun h=>?_))))
 ·refine csr (sv R (A6 Q8 Aj8 Az (.nil _)) (sst J8 R R R R R (rm 2 R (Ai (Bv (Ag ?_))))))
  obtain rfl:=SJ h
  exact dn (Ad (ra Dh R R R) (Ad (rt R) (Ad (rt R) Ah))) (Iz R) R
 ·refine Bj (Ab (csr (sv R (Ac Uj R) (ld Nz R R R R (rm 1 R (sv R (Bc R) ?_))))))
  obtain ⟨v2,hv2,h⟩:=Ae h
  refine Bb R Ax9 (Aa R (Aa R (Aa R Af))) (Ao R) (Qs hv2) (sv R (Cd R) (sv R (Aj R R) (sv R (Aj R R) (sv R (Aj R R) (Bq R U0 (sst Sf R R R R R (rm 2 R (Ai (Br (csr (rm 1 R (sv R (Dy R R) (Ai (ccI h R (fun h=>?_) (fun h=>?_)))))))))))))))
  ·refine csr (ld Dh R R R R (sv R (Bc R) ?_))
   obtain ⟨v3,hv3,h⟩:=Ae h
   refine Bb R Arr (Aa R (Aa R Af)) (Ao R) (I5 hv3) (rm 1 R (sst J8 R R R R R (rm 2 R (Ai (Bv (Ag ?_))))))
   obtain rfl:=SJ h
   exact dn (Ad (ra Dh R R R) (Ad (rt R) (Ad (rt R) Ah))) (Ao R) R
  ·refine Bj (Ab (csr (ld Nz R R R R (sv R (Ac Uj R) (sst Sf R R R R R (Ai (csr (ld Nz R R R R (sv R (Bc R) ?_)))))))))
   obtain ⟨v4,hv4,h⟩:=Ae h
   refine Bb R Aue (Aa R (Aa R Af)) (Ao R) (J1 hv4) (sv R (Cd R) (sv R (Aj R R) (sv R (Aj R R) (Bq R Vj (sst Aac R R R R R (rm 1 R (Ai (Br (csr (ld Dh R R R R (sv R (Bc R) ?_)))))))))))
   obtain ⟨v5,hv5,h⟩:=Ae h
   refine Bb R Ax4 (Aa R (Aa R Af)) (Ao R) (Rh hv5) (sv R (Cd R) (sv R (Aj R R) (sv R (Aj R R) (Bq R Zv (sst Zx R R R R R (rm 1 R (Ai (Br (Hp (Am) (fun b6=>[(3,.s (.one (.lp 0 0))),(6,.s (.one (.lp 1 0))),(10,.s (.one (Ii6 v2.2.1)))]) (fun b6=>[.box (EL.el b6),.box Zba,.box [.sl v2.1.L.length (v2.1.L.flatMap Al)],.box (EL.el v4.1),.box (EL.el v5.1)]) (fun b6=>Em v2 b6=some r) (fun _ _=>A5 R) (fun _ _=>Ap R) (fun _ _=>Nbl R) (fun b6 h=>?_) ?_)))))))))
   ·unfold Em at h
    refine csr (ld Dh R R R R (rm 1 R (sst J8 R R R R R (rm 2 R (Ai (Bv ?_))))))
    obtain rfl:=SJ h
    exact dn (Ad (ra Dh R R R) (Ad (rt R) (Ad (rt R) Ah))) (Ao R) R
   ·skip
    refine As (rm 2 R (ssI 50 h R (fun h=>?_) (fun h=>?_)))
    ·refine son R R R (sv R (Ac Uy R) (son R R R (sv R (Ak ti3 R (.lp _ _ _ R) R) (son R R R (sv R (B5 R R) (rm 2 R (ssI 55 h R (fun h=>?_) (fun h=>?_))))))))
     ·refine son R R R (sv R (Ac Ac6 R) (son R R R (sv R (Ak ti3 R (.lp _ _ _ R) R) (son R R R (sv R (Ac Uz R) (son R R R (sv R (Ak ti3 R (.lp _ _ _ R) R) (son R R R (sv R (Dj R R) (rm 1 R (Ai (ccI h R (fun h=>?_) (fun h=>?_)))))))))))))
      ·refine As (ld Dh R R R R (sv R (Bf Vv R (.lp _ _ _ R) (Nbl R)) ?_))
       obtain ⟨v7,hv7,h⟩:=Ae h
       refine Bb R Ash (Aa R (Aa R Af)) (Ao R) (Ht hv7) (sst J8 R R R R R (Ai ?_))
       exact ⟨v7,_,h,⟨R,R,R,trivial⟩,R⟩
      ·refine Bj (Ab ?_)
       exact ⟨{a0 with Toks:=v2.1},_,h,⟨R,R,R,trivial⟩,R⟩
     ·refine rm 6 R (Ai (Cp R (fun hx=>Bool.noConfusion hx) (fun _=>?_)))
      refine Bj (Ab ?_)
      exact ⟨{a0 with Toks:=v2.1},_,h,⟨R,R,R,trivial⟩,R⟩
    ·refine rm 11 R (Ai (Cp R (fun hx=>Bool.noConfusion hx) (fun _=>?_)))
     refine Bj (Ab ?_)
     exact ⟨{a0 with Toks:=v2.1},_,h,⟨R,R,R,trivial⟩,R⟩
def Mq (a0:Int) (b1:Unit):Option (List A9) :=
 if (decide (0<(wI (a0-(wI (0-0)))))) then (if 0<(wI (a0-(wI (0-0))))∧(wI (a0-(wI (0-0))))*((32:Nat):Int)≤281474976710656 then (if (0:Int)≤0∧0≤((List.replicate (wI (a0-(wI (0-0)))).toNat (A9.mk 0 0 0 0)).length:Int) then (some ((List.replicate (wI (a0-(wI (0-0)))).toNat (A9.mk 0 0 0 0)).take (0:Int).toNat)) else none) else none) else (some ([]:List A9))
def Oj (a0:Int):Option (List A9) :=
 if (decide (a0<0)) then none else (Mq a0 ())
theorem Vl {a0:Int} {r:(List A9)} (h:Oj a0=some r):De Tryz.prog 220 [] [.one (Znl),.one (Ii6 a0)] (fun y m'=>y=.s (.one (.ls 0 r.length))∧m'=[.arr 145 4 0 (r.flatMap Al)]):=by
 unfold Oj at h
 refine Da Tryz.func220 R (nt:=27) R (Nbl R) ?_
 intro w0 S0 X0 H0
 refine csr (rm 1 R (Ai (Br (csr (rm 1 R (sv R (Bw R R) (Ai (Dt (Unit) (fun b1=>[(0,.s (.one (Znl))),(1,.s (.one (Ii6 a0)))]) (fun b1=>[]) (fun b1=>Mq a0 b1=some r) (fun _ _=>A5 R) (fun _ _=>Ap R) (fun _ _=>Nbl R) (fun b1 h=>?_) ?_))))))))
 ·unfold Mq at h
  refine Br (csr (rm 2 R (sv R (Gj Abp R) (rm 1 R (sv R (Fp Abp R) (sv R (Nh R R) (sv R (Nh R R) (rm 1 R (Ai (csr (rm 1 R (sv R (C7 R R) (Ai (ccI h R (fun h=>?_) (fun h=>?_)))))))))))))))
  ·refine As (rm 2 R (sv R (Gj Abp R) (sv R (Mj Abp R R) (sv R (Bc R) ?_))))
   obtain ⟨hm2,h⟩:=Cy h
   refine Asq (f:=Al) (z:=(A9.mk 0 0 0 0)) R Tryz.underlying35 Aih Tryz.underlying3 (fun _=>R) R R R hm2 (by decide) ?_
   refine rm 1 R (sv R (Fp Abp R) ?_)
   obtain ⟨hs3,h⟩:=Cy h
   refine Aau (f:=Al) R Abp (fun _=>R) R R R R R hs3 ?_
   refine rm 1 R (Ai (csr (rm 2 R (Ai (Bv ?_)))))
   obtain rfl:=SJ h
   exact ⟨Or.inr R,_,[1],[.one (.ls 0 ((List.replicate (wI (a0-(wI (0-0)))).toNat (A9.mk 0 0 0 0)).take (0:Int).toNat).length)],[.arr 145 4 0 (((List.replicate (wI (a0-(wI (0-0)))).toNat (A9.mk 0 0 0 0)).take (0:Int).toNat).flatMap Al)],(Ad (rt R) Ah),R,R,⟨by decide,R⟩,R,R,⟨R,R⟩⟩
  ·refine Bj (Ab (csr (rm 2 R (Ai ?_))))
   refine D1 145 4 4 (by decide) R ?_
   refine Bv ?_
   obtain rfl:=SJ h
   exact ⟨Or.inr R,_,[0],[.one (.ls 0 ([]:List A9).length)],[.arr 145 4 0 (([]:List A9).flatMap Al)],(Ad (rt R) Ah),R,R,⟨by decide,R⟩,R,R,⟨R,R⟩⟩
 ·skip
  refine ccI h R (fun h=>?_) (fun h=>?_)
  ·cases h
  ·refine Bj (Ab ?_)
   exact ⟨(),_,h,⟨R,R,trivial⟩,R⟩
def Lm (b3:(List A9)):Option (List A9) :=
 some b3
def Ll (a0:List (List A9)) (s4:Int × (List A9)):Option (LB (Int × (List A9)) ((List A9))) :=
 if (decide (s4.1<(a0.length:Int))) then ((idx a0 s4.1).bind fun u5=>if (s4.2.length+u5.length)*32≤140737488355328 then (some (.cont ((wI (s4.1+1)),(s4.2++u5)))) else none) else (some (.brk s4.2))
def Ma (a0:List (List A9)) (b1:Int):Option (List A9) :=
 (Oj b1).bind fun v2=>(C5 (Ll a0) fuel (0,v2)).bind fun e7=>Lm e7
def Lr (a0:List (List A9)) (s8:Int × Int):Option (LB (Int × Int) (Int)) :=
 if (decide (s8.2<(a0.length:Int))) then ((idx a0 s8.2).bind fun u9=>if (decide ((wI (s8.1+(u9.length:Int)))<0)) then none else (some (.cont ((wI (s8.1+(u9.length:Int))),(wI (s8.2+1)))))) else (some (.brk s8.1))
def N2 (a0:List (List A9)):Option (List A9) :=
 (C5 (Lr a0) fuel (0,0)).bind fun e10=>Ma a0 e10
theorem Uc {a0:List (List A9)} {r:(List A9)} (h:N2 a0=some r):Bt Tryz.prog 151 [.one (.sl a0.length (a0.flatMap (eL Al)))] (·=.s (.one (.sl r.length (r.flatMap Al)))):=by
 unfold N2 at h
 refine A4 Tryz.func151 R (nt:=36) R (Nbl R) ?_
 intro w0 S0
 refine csr (rm 1 R (Ai (csr (rm 1 R (Ai (Br (csr (rm 1 R (sv R (Ax Ao0 R) (rm 1 R (Ai (Dt (Int) (fun b1=>[(0,.s (.one (.sl a0.length (a0.flatMap (eL Al))))),(3,.s (.one (Ii6 b1)))]) (fun b1=>[]) (fun b1=>Ma a0 b1=some r) (fun _ _=>A5 R) (fun _ _=>Ap R) (fun _ _=>Nbl R) (fun b1 h=>?_) ?_))))))))))))
 ·unfold Ma at h
  refine csr (sv R (Bc R) ?_)
  obtain ⟨v2,hv2,h⟩:=Ae h
  refine Ho (x':=.s (.one (.ls 0 v2.length))) (M':=[.arr 145 4 0 (v2.flatMap Al)]) [] R Awc (.func _) (Aa R (Aa R Af)) (Vl hv2) R R (by decide) R R R ?_
  refine rm 1 R (Ai (Br (csr (rm 1 R (sv R (Ax Ao0 R) (rm 1 R (Ai (Dt ((List A9)) (fun b3=>[(6,.s (.one (.ls 0 b3.length)))]) (fun b3=>[.arr 145 4 0 (b3.flatMap Al)]) (fun b3=>Lm b3=some r) (fun _ _=>A5 R) (fun _ _=>Ap R) (fun _ _=>Nbl R) (fun b3 h=>?_) ?_))))))))
  ·unfold Lm at h
   refine csr (rm 2 R (Ai (Bv ?_)))
   obtain rfl:=SJ h
   refine ⟨Or.inr R,_,_,_,(Ad (rt R) Ah),(by (repeat' first | exact J7.nil _ | apply J7.cons | apply Jm.one | apply Jm.agg | exact Dm.nil | exact Dm.ls _ _ _ _ _ _ R (A1 (f:=Al) (fun _=>R) _).symm | exact Dm.id _ R | exact Cw.nil _ | apply Cw.cons)),?_⟩
   rfl
  ·skip
   refine Bu ?_
   obtain ⟨x4,hx4,ho4⟩:=Ae h
   refine B6 (G:=Nat × (Int × (List A9))) (fun g=>[(6,.s (.one (.ls 0 g.2.2.length))),(25,.s (.one (.sl a0.length (a0.flatMap (eL Al))))),(26,.s (.one (Ii6 (a0.length:Int)))),(27,.s (.one (Ii6 g.2.1)))]) (fun g=>[.arr 145 4 0 (g.2.2.flatMap Al)]) (fun g=>C5 (Ll a0) g.1 g.2=some x4) (fun g=>g.1) (fuel,(0,v2)) hx4 ⟨R,R,R,R,trivial⟩ [] R (fun _ _=>A5 R) (fun _ _=>Ap R) (fun _ _=>Nbl R) ?_
   clear hx4 h
   rintro ⟨n4,s4⟩ h
   obtain ⟨n4,y4,rfl,h,hk4⟩:=C8 h
   unfold Ll at h
   refine csr (sv R (Bw R R) (Ai (Br (ccI h R (fun h=>?_) (fun h=>?_)))))
   ·refine Bj (Ab (Br (Bu (Br (As ?_)))))
    obtain ⟨u5,hu5,h⟩:=Ae h
    refine sv R (Cb (f:=(eL Al)) Ao0 (fun _=>R) R R R R hu5) ?_
    refine sv R (Ak Ajr R (.cp _) R) (rm 1 R (Ai (As (rm 1 R (sv R (Bc R) ?_)))))
    obtain ⟨hb6,h⟩:=Cy h
    refine Wb (f:=Al) (xs:=s4.2) (us:=u5) R Tryz.underlying35 Aih Avy (fun _=>R) R R (.one _ _ _ _ (.id _ R)) R R R (.sl _ _ _ (A1 (f:=Al) (fun _=>R) _)) R R hb6 (by decide) ?_
    refine rm 1 R (Ks (Ar (Ab (As (sv R (Bs R R) (rm 1 R (Ai ?_)))))))
    obtain rfl:=SJ h
    exact ⟨(n4,((wI (s4.1+1)),(s4.2++u5))),_,hk4,⟨R,R,R,R,trivial⟩,R,Nat.lt_succ_self _⟩
   ·refine Di (Au (Au (Bn (Ab ?_))))
    obtain rfl:=SJ h
    obtain rfl:_=x4:=hk4
    exact ⟨s4.2,_,ho4,⟨R,trivial⟩,R⟩
 ·skip
  refine Bu ?_
  obtain ⟨x8,hx8,ho8⟩:=Ae h
  refine B6 (G:=Nat × (Int × Int)) (fun g=>[(0,.s (.one (.sl a0.length (a0.flatMap (eL Al))))),(3,.s (.one (Ii6 g.2.1))),(9,.s (.one (.sl a0.length (a0.flatMap (eL Al))))),(10,.s (.one (Ii6 (a0.length:Int)))),(11,.s (.one (Ii6 g.2.2)))]) (fun g=>[]) (fun g=>C5 (Lr a0) g.1 g.2=some x8) (fun g=>g.1) (fuel,(0,0)) hx8 ⟨R,R,R,R,R,trivial⟩ [] R (fun _ _=>A5 R) (fun _ _=>Ap R) (fun _ _=>Nbl R) ?_
  clear hx8 h
  rintro ⟨n8,s8⟩ h
  obtain ⟨n8,y8,rfl,h,hk8⟩:=C8 h
  unfold Lr at h
  refine csr (sv R (Bw R R) (Ai (Br (ccI h R (fun h=>?_) (fun h=>?_)))))
  ·refine Bj (Ab (Br (Bu (Br (As ?_)))))
   obtain ⟨u9,hu9,h⟩:=Ae h
   refine sv R (Cb (f:=(eL Al)) Ao0 (fun _=>R) R R R R hu9) ?_
   refine sv R (Ak Ajr R (.cp _) R) (rm 1 R (Ai (csr (rm 2 R (sv R (Ax Abp R) (sv R (Bs R R) (rm 1 R (Ai (csr (rm 1 R (sv R (Bw R R) (Ai (ccI h R (fun h=>?_) (fun h=>?_))))))))))))))
   ·cases h
   ·refine Bj (Ar (Ab (As (sv R (Bs R R) (rm 1 R (Ai ?_))))))
    obtain rfl:=SJ h
    exact ⟨(n8,((wI (s8.1+(u9.length:Int))),(wI (s8.2+1)))),_,hk8,⟨R,R,R,R,R,trivial⟩,R,Nat.lt_succ_self _⟩
  ·refine Di (Au (Au (Bn (Ab ?_))))
   obtain rfl:=SJ h
   obtain rfl:_=x8:=hk8
   exact ⟨s8.1,_,ho8,⟨R,R,trivial⟩,R⟩
def Lq (a0:Bm) (a1:Int) (b1:Unit):Option (Bm × Int) :=
 (Eg a0 a1).bind fun v2=>if (!v2.2) then (some (Cm,6)) else (if (decide (v2.1.State=1)) then (some (Cm,7)) else ((Er a0 a1).bind fun v3=>(cut a0.L 0 v3).bind fun c4=>(cut a0.L (wI (v3+1)) (a0.L.length:Int)).bind fun c5=>(N2 ([c4,c5]:List (List A9))).bind fun v6=>some ((Bm.mk v6),0)))
def N0 (a0:Bm) (a1:Int):Option (Bm × Int) :=
 (Dd a0).bind fun v7=>if (!v7) then (some (Cm,1)) else ((Co a1 0).bind fun v8=>if (!v8) then (some (Cm,1)) else (Lq a0 a1 ()))
theorem T2 {a0:Bm} {a1:Int} {r:Bm × Int} (h:N0 a0 a1=some r):Bt Tryz.prog 75 [.agg [.sl a0.L.length (a0.L.flatMap Al)],.one (Ii6 a1)] (·=.tup [.agg [.sl r.1.L.length (r.1.L.flatMap Al)],.one (Ii6 r.2)]):=by
 unfold N0 at h
 refine A4 Tryz.func75 R (nt:=48) R (Nbl R) ?_
 intro w0 S0
 refine csr (F0 R R (Bq R U0 (rm 1 R (Ai (Br (Br (Hp (Unit) (fun b1=>[(1,.s (.one (Ii6 a1))),(2,.s (.one (.lp 0 0))),(4,.s (.one (.lp 1 0)))]) (fun b1=>[.box [.sl a0.L.length (a0.L.flatMap Al)],.box [Znl]]) (fun b1=>Lq a0 a1 b1=some r) (fun _ _=>A5 R) (fun _ _=>Ap R) (fun _ _=>Nbl R) (fun b1 h=>?_) ?_)))))))
 ·unfold Lq at h
  refine csr (ld Nz R R R R (sv R (Bc R) ?_))
  obtain ⟨v2,hv2,h⟩:=Ae h
  refine Bb R Aue (Aa R (Aa R Af)) (Ao R) (J1 hv2) (sv R (Cd R) (sv R (Aj R R) (sv R (Aj R R) (Bq R Vj (sst Aac R R R R R (rm 1 R (Ai (Br (Bu (csr (rm 1 R (sv R (B2 R) (rm 1 R (Ai (ccI h R (fun h=>?_) (fun h=>?_))))))))))))))))
  ·refine csr (sv R (A6 U0 Aa5 Az (.nil _)) (sst Sf R R R R R (rm 1 R (Ai (Bv (Ay (Ag ?_)))))))
   obtain rfl:=SJ h
   exact dn (Ad (ra Nz R R R) (Ad (rt R) Ah)) (Iz R) R
  ·refine csr (fl Uy ti3 R R R R R R (sv R (B5 R R) (rm 1 R (Ai (ccI h R (fun h=>?_) (fun h=>?_))))))
   ·refine csr (sv R (A6 U0 Aa5 Az (.nil _)) (sst Sf R R R R R (rm 1 R (Ai (Bv (Ay (Ag ?_)))))))
    obtain rfl:=SJ h
    exact dn (Ad (ra Nz R R R) (Ad (rt R) Ah)) (Iz R) R
   ·refine Bj (Ar (Ab (csr (ld Nz R R R R (sv R (Bc R) ?_)))))
    obtain ⟨v3,hv3,h⟩:=Ae h
    refine Bb R Am7 (Aa R (Aa R Af)) (Ao R) (Kc hv3) (rm 1 R (Ai (Br ?_)))
    obtain ⟨c4,hc4,h⟩:=Ae h
    obtain ⟨c5,hc5,h⟩:=Ae h
    obtain ⟨v6,hv6,h⟩:=Ae h
    refine Ki [12] [0,1,0,7,0,16,0,64,240,511,1023,2047,4095,8191] [[.box [.sl a0.L.length (a0.L.flatMap Al)],.box [Znl],.box (EL.el v2.1)],[.box [.sl a0.L.length (a0.L.flatMap Al)],.box [.sl v6.length (v6.flatMap Al)],.box (EL.el v2.1)]] (by kernel_rfl) mixed (by kernel_rfl) (by decide) R R R R ?_
    refine ev (Bg 0 R R) R R (Ac V7 R) (ev (Bg 0 R R) R R (Ak Ajr R (.lp _ _ _ R) R) (ev (Bg 0 R R) R R (Bc R) (ev (Bg 0 R R) R R (W9 (f:=Al) (lo:=0) (hi:=v3) Abp (fun _=>R) R R R Tr (P6 R (Int.le_trans (Te hc4).1.1 (Te hc4).1.2.1)) hc4) ?_)))
    refine ev (Bg 0 R R) R R (Ac V7 R) (ev (Bg 0 R R) R R (Ak Ajr R (.lp _ _ _ R) R) (ev (Bg 0 R R) R R (Bc R) (ev (Bg 0 R R) R R (Bs R R) ?_)))
    refine ev (Bg 0 R R) R R (W9 (f:=Al) (lo:=(wI (v3+1))) (hi:=(a0.L.length:Int)) Abp (fun _=>R) R R R (P6 R (Te hc5).1.1) (by exact R) hc5) ?_
    refine ed (Bg 0 R R) R R (Abj (out:=([c4,c5]:List (List A9)).flatMap (eL Al)) Tryz.underlying337 Ayo (Av R (Av R Az)) (.cons _ _ _ _ _ _ _ R R (Nbl R) (.cons _ _ _ _ _ _ _ R R (Nbl R) (.nil _))) R (by decide)) ?_
    refine ed (Bg 0 R R) R R (C9 Awg (Aa R Af) R (Uc hv6)) (ev (Bg 0 R R) R R (A6 U0 Aa5 (Av R Az) (.cons _ _ _ _ _ _ _ R R (Nbl R) (.nil _))) (ee0 0 R R R R (fun ζ=>?_) ?_))
    ·refine sst Sf R R R R R (P4 [.box [.sl a0.L.length (a0.L.flatMap Al)],.box [.sl v6.length (v6.flatMap Al)],.box (EL.el v2.1)] R ?_)
     exact Ta
    refine ev (Bg 1 R R) R R (Ko R) (Abk (Ab (Bv ?_)))
    obtain rfl:=SJ h
    exact dn (Ad (ra Nz R R R) (Ad (rt R) Ah)) (Ao R) R
 ·skip
  refine As (sv R (Bf Nz R (.lp _ _ _ R) (Nbl R)) ?_)
  obtain ⟨v7,hv7,h⟩:=Ae h
  refine Bb R At3 (Aa R Af) (Ao R) (Ji hv7) (sv R (B2 R) (rm 1 R (ssI 12 h R (fun h=>?_) (fun h=>?_))))
  ·refine rm 4 R (Ai (Cp R (fun _=>?_) (fun hx=>Bool.noConfusion hx)))
   refine csr (sv R (A6 U0 Aa5 Az (.nil _)) (sst Sf R R R R R (rm 1 R (Ai (Bv (Ag ?_))))))
   obtain rfl:=SJ h
   exact dn (Ad (ra Nz R R R) (Ad (rt R) Ah)) (Iz R) R
  ·refine rm 1 R (son R R R ?_)
   obtain ⟨v8,hv8,h⟩:=Ae h
   refine Bb R Ain (Aa R (Aa R Af)) (Ao R) (D7 hv8) (son R R R (sv R (B2 R) (rm 1 R (Ai (ccI h R (fun h=>?_) (fun h=>?_))))))
   ·refine csr (sv R (A6 U0 Aa5 Az (.nil _)) (sst Sf R R R R R (rm 1 R (Ai (Bv (Ag ?_))))))
    obtain rfl:=SJ h
    exact dn (Ad (ra Nz R R R) (Ad (rt R) Ah)) (Iz R) R
   ·refine Bj (Ab ?_)
    exact ⟨(),_,h,⟨R,R,R,trivial⟩,R⟩
def Qf (a0:Am) (a1:Int):Option (Am × Int) :=
 (Iv a0).bind fun v1=>if (!v1) then (some (Fi,1)) else ((N0 a0.Toks a1).bind fun v2=>if (!decide (v2.2=0)) then ((F3 a0 v2.2).bind fun v3=>some (v3,v2.2)) else (some ({a0 with Toks:=v2.1},0)))
theorem Wt {a0:Am} {a1:Int} {r:Am × Int} (h:Qf a0 a1=some r):Bt Tryz.prog 32 [.agg (EL.el a0),.one (Ii6 a1)] (·=.tup [.agg (EL.el r.1),.one (Ii6 r.2)]):=by
 unfold Qf at h
 refine A4 Tryz.func32 R (nt:=28) R (Nbl R) ?_
 intro w0 S0
 refine csr (F0 R R (Bq R Q8 (rm 1 R (Ai (Br (csr (sv R (Bf Dh R (.lp _ _ _ R) (Nbl R)) ?_)))))))
 obtain ⟨v1,hv1,h⟩:=Ae h
 refine Bb R At6 (Aa R Af) (Ao R) (M2 hv1) (sv R (B2 R) (Ai (ccI h R (fun h=>?_) (fun h=>?_))))
 ·refine csr (sv R (A6 Q8 Aj8 Az (.nil _)) (sst J8 R R R R R (rm 1 R (Ai (Bv (Ag ?_))))))
  obtain rfl:=SJ h
  exact dn (Ad (ra Dh R R R) (Ad (rt R) Ah)) (Iz R) R
 ·refine Bj (Ab (csr (sv R (Ac Uj R) (ld Nz R R R R (sv R (Bc R) ?_)))))
  obtain ⟨v2,hv2,h⟩:=Ae h
  refine Bb R Ay9 (Aa R (Aa R Af)) (Ao R) (T2 hv2) (sv R (Cd R) (sv R (Aj R R) (sv R (Aj R R) (Bq R U0 (sst Sf R R R R R (rm 1 R (Ai (Br (csr (rm 1 R (sv R (Dy R R) (Ai (ccI h R (fun h=>?_) (fun h=>?_))))))))))))))
  ·refine csr (ld Dh R R R R (sv R (Bc R) ?_))
   obtain ⟨v3,hv3,h⟩:=Ae h
   refine Bb R Arr (Aa R (Aa R Af)) (Ao R) (I5 hv3) (rm 1 R (sst J8 R R R R R (rm 1 R (Ai (Bv (Ag ?_))))))
   obtain rfl:=SJ h
   exact dn (Ad (ra Dh R R R) (Ad (rt R) Ah)) (Ao R) R
  ·refine Bj (Ab (csr (ld Nz R R R R (sv R (Ac Uj R) (sst Sf R R R R R (Ai (csr (ld Dh R R R R (sst J8 R R R R R (rm 1 R (Ai (Bv ?_))))))))))))
   obtain rfl:=SJ h
   exact dn (Ad (ra Dh R R R) (Ad (rt R) Ah)) (Ao R) R
def Ra (a0:Am) (a1:I0) (a2:Int):Option (Am × Hz) :=
 if (decide (a1.What≤1)) then ((Kl a0 a1.Token a1.Attempt a1.RO).bind fun v1=>some (v1.1,(Hz.mk v1.2.1 false ([]:List UInt8) ([]:List B8) v1.2.2))) else (if (decide (a1.What≤3)) then ((Nj a0 a2 a1.Key).bind fun v2=>some (v2.1,(Hz.mk 0 v2.2.2.1 v2.2.1 ([]:List B8) v2.2.2.2))) else (if (decide (a1.What=4)) then ((Pb a0 a2 a1.Rng 8).bind fun v3=>some (v3.1,(Hz.mk 0 false ([]:List UInt8) v3.2.1 v3.2.2))) else (if (decide (a1.What≤7)) then ((Nk a0 a2 (A8.mk a1.Key a1.Val a1.Del)).bind fun v4=>some (v4.1,(Hz.mk 0 false ([]:List UInt8) ([]:List B8) v4.2))) else (if (decide (a1.What≤10)) then ((Iw a0 a2).bind fun v5=>some (v5.1,(Hz.mk v5.2.1 false ([]:List UInt8) ([]:List B8) v5.2.2))) else (if (decide (a1.What=11)) then ((Np a0 a2).bind fun v6=>some (v6.1,(Hz.mk 0 false ([]:List UInt8) ([]:List B8) v6.2))) else (if (decide (a1.What=12)) then ((Mz a0 a1.Token a1.Attempt).bind fun v7=>some (v7.1,(Hz.mk v7.2.1 false ([]:List UInt8) ([]:List B8) v7.2.2))) else ((Qf a0 a1.Token).bind fun v8=>some (v8.1,(Hz.mk 0 false ([]:List UInt8) ([]:List B8) v8.2)))))))))
theorem Adj {a0:Am} {a1:I0} {a2:Int} {r:Am × Hz} (h:Ra a0 a1 a2=some r):Bt Tryz.prog 11 [.agg (EL.el a0),.agg (EL.el a1),.one (Ii6 a2)] (·=.tup [.agg (EL.el r.1),.agg (EL.el r.2)]):=by
 unfold Ra at h
 refine A4 Tryz.func11 R (nt:=162) R (Nbl R) ?_
 intro w0 S0
 refine csr (F0 R R (F0 R R (Bq R Q8 (Bq R Ajw (Ai (Br (Bu (csr (fl Sd ti3 R R R R R R (sv R (Dj R R) (rm 1 R (Ai (ccI h R (fun h=>?_) (fun h=>?_))))))))))))))
 ·refine csr (ld Dh R R R R (fl Ahb ti3 R R R R R R (fl Akd ti3 R R R R R R (sv R (Ac Aty R) (sv R (Ak ti4 R (.lp _ _ _ R) R) ?_)))))
  obtain ⟨v1,hv1,h⟩:=Ae h
  refine Bb R Aw1 (Aa R (Aa R (Aa R (Aa R Af)))) (Ao R) (Qh hv1) (sv R (Cd R) (sv R (Aj R R) (sv R (Aj R R) (sv R (Aj R R) (Bq R Q8 (sst J8 R R R R R (rm 2 R (Ai (csr (ld Dh R R R R (rm 2 R (sv R (A6 Ajw Apr (Av R (Av R Az)) (.cons _ _ _ _ _ _ _ R R (Nbl R) (.cons _ _ _ _ _ _ _ R R (Nbl R) (.nil _)))) (sst J8 R R R R R (sst Aof R R R R R (Ai (Bv (Ay (Ag ?_))))))))))))))))))
  obtain rfl:=SJ h
  exact dn (Ad (ra Dh R R R) (Ad (ra Apc R R R) Ah)) (Iz R) R
 ·refine csr (fl Sd ti3 R R R R R R (sv R (Dj R R) (rm 1 R (Ai (ccI h R (fun h=>?_) (fun h=>?_))))))
  ·refine csr (ld Dh R R R R (rm 1 R (sv R (Ac Alr R) (sv R (Ak Nr R (.lp _ _ _ R) R) ?_))))
   obtain ⟨v2,hv2,h⟩:=Ae h
   refine Bb R Aw6 (Aa R (Aa R (Aa R Af))) (Ao R) (Ry hv2) (sv R (Cd R) (sv R (Aj R R) (sv R (Aj R R) (sv R (Aj R R) (sv R (Aj R R) (Bq R Q8 (sst J8 R R R R R (rm 3 R (Ai (csr (ld Dh R R R R (rm 3 R (sv R (A6 Ajw Apr (Av R (Av R (Av R Az))) (.cons _ _ _ _ _ _ _ R R (Nbl R) (.cons _ _ _ _ _ _ _ R R (Nbl R) (.cons _ _ _ _ _ _ _ R R (Nbl R) (.nil _))))) (sst J8 R R R R R (sst Aof R R R R R (Ai (Bv (Ay (Ag ?_)))))))))))))))))))
   obtain rfl:=SJ h
   exact dn (Ad (ra Dh R R R) (Ad (ra Apc R R R) Ah)) (Iz R) R
  ·refine csr (fl Sd ti3 R R R R R R (sv R (B5 R R) (rm 1 R (Ai (ccI h R (fun h=>?_) (fun h=>?_))))))
   ·refine csr (ld Dh R R R R (rm 1 R (sv R (Ac Apf R) (sv R (Bf Abw R (.lp _ _ _ R) (Nbl R)) ?_))))
    obtain ⟨v3,hv3,h⟩:=Ae h
    refine Bb R Ay5 (Aa R (Aa R (Aa R (Aa R Af)))) (Ao R) (Z7 hv3) (sv R (Cd R) (sv R (Aj R R) (sv R (Aj R R) (sv R (Aj R R) (Bq R Q8 (sst J8 R R R R R (rm 2 R (Ai (csr (ld Dh R R R R (rm 2 R (sv R (A6 Ajw Apr (Av R (Av R Az)) (.cons _ _ _ _ _ _ _ R R (Nbl R) (.cons _ _ _ _ _ _ _ R R (Nbl R) (.nil _)))) (sst J8 R R R R R (sst Aof R R R R R (Ai (Bv (Ay (Ag ?_))))))))))))))))))
    obtain rfl:=SJ h
    exact dn (Ad (ra Dh R R R) (Ad (ra Apc R R R) Ah)) (Iz R) R
   ·refine csr (fl Sd ti3 R R R R R R (sv R (Dj R R) (rm 1 R (Ai (ccI h R (fun h=>?_) (fun h=>?_))))))
    ·refine csr (ld Dh R R R R (rm 1 R (fl Alr Nr R R R R R R (fl Api Nr R R R R R R (fl Att ti4 R R R R R R (sv R (A6 Ai2 Au8 (Av R (Av R (Av R Az))) (.cons _ _ _ _ _ _ _ R R (Nbl R) (.cons _ _ _ _ _ _ _ R R (Nbl R) (.cons _ _ _ _ _ _ _ R R (Nbl R) (.nil _))))) ?_))))))
     obtain ⟨v4,hv4,h⟩:=Ae h
     refine Bb R Avm (Aa R (Aa R (Aa R Af))) (Ao R) (R3 hv4) (sv R (Cd R) (sv R (Aj R R) (sv R (Aj R R) (Bq R Q8 (sst J8 R R R R R (rm 1 R (Ai (csr (ld Dh R R R R (rm 1 R (sv R (A6 Ajw Apr (Av R Az) (.cons _ _ _ _ _ _ _ R R (Nbl R) (.nil _))) (sst J8 R R R R R (sst Aof R R R R R (Ai (Bv (Ay (Ag ?_)))))))))))))))))
     obtain rfl:=SJ h
     exact dn (Ad (ra Dh R R R) (Ad (ra Apc R R R) Ah)) (Iz R) R
    ·refine csr (fl Sd ti3 R R R R R R (sv R (Dj R R) (rm 1 R (Ai (ccI h R (fun h=>?_) (fun h=>?_))))))
     ·refine csr (ld Dh R R R R (sv R (Bc R) ?_))
      obtain ⟨v5,hv5,h⟩:=Ae h
      refine Bb R Av8 (Aa R (Aa R Af)) (Ao R) (Pi hv5) (sv R (Cd R) (sv R (Aj R R) (sv R (Aj R R) (sv R (Aj R R) (Bq R Q8 (sst J8 R R R R R (rm 2 R (Ai (csr (ld Dh R R R R (rm 2 R (sv R (A6 Ajw Apr (Av R (Av R Az)) (.cons _ _ _ _ _ _ _ R R (Nbl R) (.cons _ _ _ _ _ _ _ R R (Nbl R) (.nil _)))) (sst J8 R R R R R (sst Aof R R R R R (Ai (Bv (Ay (Ag ?_))))))))))))))))))
      obtain rfl:=SJ h
      exact dn (Ad (ra Dh R R R) (Ad (ra Apc R R R) Ah)) (Iz R) R
     ·refine csr (fl Sd ti3 R R R R R R (sv R (B5 R R) (rm 1 R (Ai (ccI h R (fun h=>?_) (fun h=>?_))))))
      ·refine csr (ld Dh R R R R (sv R (Bc R) ?_))
       obtain ⟨v6,hv6,h⟩:=Ae h
       refine Bb R Ayz (Aa R (Aa R Af)) (Ao R) (Yy hv6) (sv R (Cd R) (sv R (Aj R R) (sv R (Aj R R) (Bq R Q8 (sst J8 R R R R R (rm 1 R (Ai (csr (ld Dh R R R R (rm 1 R (sv R (A6 Ajw Apr (Av R Az) (.cons _ _ _ _ _ _ _ R R (Nbl R) (.nil _))) (sst J8 R R R R R (sst Aof R R R R R (Ai (Bv (Ay (Ag ?_)))))))))))))))))
       obtain rfl:=SJ h
       exact dn (Ad (ra Dh R R R) (Ad (ra Apc R R R) Ah)) (Iz R) R
      ·refine csr (fl Sd ti3 R R R R R R (sv R (B5 R R) (rm 1 R (Ai (ccI h R (fun h=>?_) (fun h=>?_))))))
       ·refine csr (ld Dh R R R R (fl Ahb ti3 R R R R R R (sv R (Ac Akd R) (sv R (Ak ti3 R (.lp _ _ _ R) R) ?_))))
        obtain ⟨v7,hv7,h⟩:=Ae h
        refine Bb R Ayl (Aa R (Aa R (Aa R Af))) (Ao R) (Xs hv7) (sv R (Cd R) (sv R (Aj R R) (sv R (Aj R R) (sv R (Aj R R) (Bq R Q8 (sst J8 R R R R R (rm 2 R (Ai (csr (ld Dh R R R R (rm 2 R (sv R (A6 Ajw Apr (Av R (Av R Az)) (.cons _ _ _ _ _ _ _ R R (Nbl R) (.cons _ _ _ _ _ _ _ R R (Nbl R) (.nil _)))) (sst J8 R R R R R (sst Aof R R R R R (Ai (Bv (Ay (Ag ?_))))))))))))))))))
        obtain rfl:=SJ h
        exact dn (Ad (ra Dh R R R) (Ad (ra Apc R R R) Ah)) (Iz R) R
       ·refine Bj (Ar (Ab (csr (ld Dh R R R R (sv R (Ac Ahb R) (sv R (Ak ti3 R (.lp _ _ _ R) R) ?_))))))
        obtain ⟨v8,hv8,h⟩:=Ae h
        refine Bb R Aye (Aa R (Aa R Af)) (Ao R) (Wt hv8) (sv R (Cd R) (sv R (Aj R R) (sv R (Aj R R) (Bq R Q8 (sst J8 R R R R R (rm 1 R (Ai (csr (ld Dh R R R R (rm 1 R (sv R (A6 Ajw Apr (Av R Az) (.cons _ _ _ _ _ _ _ R R (Nbl R) (.nil _))) (sst J8 R R R R R (sst Aof R R R R R (Ai (Bv ?_)))))))))))))))
        obtain rfl:=SJ h
        exact dn (Ad (ra Dh R R R) (Ad (ra Apc R R R) Ah)) (Iz R) R
def Ov (v1:Bool) (b3:Am):Option Bool :=
 some v1
def Dz (s4:Int × Int × Int × Am) (v9:Am × Hz) (b11:Int) (b12:Int):Option (LR (Int × Int × Int × Am) (Am) (Bool)) :=
 some (.cont (b11,b12,(wI (s4.2.2.1+1)),v9.1))
def Cr (a0:List I0) (a1:Int) (s4:Int × Int × Int × Am) (v9:Am × Hz) (b11:Int):Option (LR (Int × Int × Int × Am) (Am) (Bool)) :=
 (idx a0 s4.2.2.1).bind fun u13=>if (decide (u13.What=12)) then ((idx a0 s4.2.2.1).bind fun u14=>if (decide (u14.Token=a1)) then (if (decide (v9.2.e_=0)) then (if (!((decide (0<v9.2.n_)) == (decide (b11=1)))) then (some (.ret false)) else (if (decide (v9.2.n_=0)) then ((idx a0 s4.2.2.1).bind fun u15=>Dz s4 v9 b11 (if u15.Attempt > s4.2.1 then u15.Attempt else s4.2.1)) else (Dz s4 v9 b11 s4.2.1))) else (Dz s4 v9 b11 s4.2.1)) else (Dz s4 v9 b11 s4.2.1)) else (Dz s4 v9 b11 s4.2.1)
def F9 (a0:List I0) (a1:Int) (s4:Int × Int × Int × Am) (v7:Bl × Bool) (v9:Am × Hz) (b10:Unit):Option (LR (Int × Int × Int × Am) (Am) (Bool)) :=
 (idx a0 s4.2.2.1).bind fun u16=>if (decide (7<u16.What)) then ((idx a0 s4.2.2.1).bind fun u17=>if (decide (u17.What≤10)) then (if (decide (v9.2.e_=0)) then (if v7.2 then (if (decide (v7.1.Token=a1)) then (if (decide (v7.1.Attempt≤s4.2.1)) then (some (.ret false)) else (if (decide (1<(wI (s4.1+1)))) then (some (.ret false)) else (Cr a0 a1 s4 v9 (wI (s4.1+1))))) else (Cr a0 a1 s4 v9 s4.1)) else (Cr a0 a1 s4 v9 s4.1)) else (Cr a0 a1 s4 v9 s4.1)) else (Cr a0 a1 s4 v9 s4.1)) else (Cr a0 a1 s4 v9 s4.1)
def G4 (a0:List I0) (a1:Int) (s4:Int × Int × Int × Am) (b6:Int):Option (LR (Int × Int × Int × Am) (Am) (Bool)) :=
 (Qu s4.2.2.2 b6).bind fun v7=>(idx a0 s4.2.2.1).bind fun u8=>(Ra s4.2.2.2 u8 b6).bind fun v9=>if (decide (v9.2.e_=1)) then (if (decide (v9.1.Next=0)) then (some (.cont (s4.1,s4.2.1,(wI (s4.2.2.1+1)),s4.2.2.2))) else (F9 a0 a1 s4 v7 v9 ())) else (F9 a0 a1 s4 v7 v9 ())
def Mi (a0:List I0) (a1:Int) (s4:Int × Int × Int × Am) (b5:Unit):Option (LR (Int × Int × Int × Am) (Am) (Bool)) :=
 if (decide (0<s4.2.2.2.Next)) then ((idx a0 s4.2.2.1).bind fun u18=>if s4.2.2.2.Next≠0 then (G4 a0 a1 s4 ((wI ((BitVec.ofInt 64 u18.N &&& BitVec.ofInt 64 65535).toNat:Int)).tmod s4.2.2.2.Next)) else none) else (G4 a0 a1 s4 0)
def Jg (a0:List I0) (a1:Int) (s4:Int × Int × Int × Am):Option (LR (Int × Int × Int × Am) (Am) (Bool)) :=
 if (decide (s4.2.2.1<(a0.length:Int))) then ((idx a0 s4.2.2.1).bind fun u20=>if (decide (u20.What=13)) then (some (.cont (s4.1,s4.2.1,(wI (s4.2.2.1+1)),s4.2.2.2))) else ((idx a0 s4.2.2.1).bind fun u21=>if (decide (12<u21.What)) then (some (.cont (s4.1,s4.2.1,(wI (s4.2.2.1+1)),s4.2.2.2))) else (Mi a0 a1 s4 ()))) else (some (.brk s4.2.2.2))
def O3 (a0:List I0) (a1:Int):Option Bool :=
 (Qt).bind fun v1=>(N8 a0).bind fun v2=>if (!v2) then (some v1) else ((Lj (Jg a0 a1) fuel (0,(-1),0,Fi)).bind fun x=>match x with | .inl r=>some r | .inr e22=>Ov v1 e22)
theorem X2 {a0:List I0} {a1:Int} {r:Bool} (h:O3 a0 a1=some r):Bt Tryz.prog 5 [.one (.sl a0.length (a0.flatMap Ev)),.one (Ii6 a1)] (·=.s (.one (.b r))):=by
 unfold O3 at h
 refine A4 Tryz.func5 R (nt:=153) R (Nbl R) ?_
 intro w0 S0
 refine csr (rm 1 R (Ai (Br (As ?_))))
 obtain ⟨v1,hv1,h⟩:=Ae h
 refine Bb R fn9 Af (Ao R) (Z1 hv1) (rm 1 R (Ai (Br (csr (sv R (Bc R) ?_)))))
 obtain ⟨v2,hv2,h⟩:=Ae h
 refine Bb R Ayj (Aa R Af) (Ao R) (Ze hv2) (sv R (B2 R) (Ai (ccI h R (fun h=>?_) (fun h=>?_))))
 ·refine csr (rm 2 R (Ai (Bv (Ag ?_))))
  obtain rfl:=SJ h
  exact dnT R R R R
 ·refine Bj (Ab (csr (sv R (A6 Q8 Aj8 Az (.nil _)) (Bq R Q8 (sst J8 R R R R R (Ai (csr (rm 1 R (Ai (csr (rm 1 R (Ai (Br (csr (rm 1 R (Ai (Dt (Am) (fun b3=>[(5,.s (.one (.b v1)))]) (fun b3=>[.box (EL.el b3)]) (fun b3=>Ov v1 b3=some r) (fun _ _=>A5 R) (fun _ _=>Ap R) (fun _ _=>Nbl R) (fun b3 h=>?_) ?_)))))))))))))))))
  ·unfold Ov at h
   refine csr (rm 2 R (Ai (Bv ?_)))
   obtain rfl:=SJ h
   exact dnT R R R R
  ·skip
   refine Bu (W6 0 0 R R Dm.nil R (W6 0 1 R R Dm.nil R (W6 0 3 R R Dm.nil R (W6 0 4 R R Dm.nil R (W6 0 5 R R Dm.nil R (W6 0 6 R R Dm.nil R ?_))))))
   obtain ⟨x4,hx4,ho4⟩:=Ae h
   refine B6 (G:=Nat × (Int × Int × Int × Am)) (fun g=>[(0,.s (.one (.sl a0.length (a0.flatMap Ev)))),(1,.s (.one (Ii6 a1))),(5,.s (.one (.b v1))),(6,.s (.one (.lp 0 0))),(7,.s (.one (Ii6 g.2.1))),(8,.s (.one (Ii6 g.2.2.1))),(9,.s (.one (Ii6 g.2.2.2.1)))]) (fun g=>[.box (EL.el g.2.2.2.2)]) (fun g=>Lj (Jg a0 a1) g.1 g.2=some x4) (fun g=>g.1) (fuel,(0,(-1),0,Fi)) hx4 ⟨R,R,R,R,R,R,R,trivial⟩ [] R (fun _ _=>A5 R) (fun _ _=>Ap R) (fun _ _=>Nbl R) ?_
   clear hx4 h
   rintro ⟨n4,s4⟩ h
   obtain ⟨n4,y4,rfl,h,hk4⟩:=Ff h
   unfold Jg at h
   refine Br (csr (rm 2 R (sv R (Ax Afa R) (sv R (Bw R R) (Ai (ccI h R (fun h=>?_) (fun h=>?_)))))))
   ·refine Bj (Ab (Br (Bu (Br (Br (Hp (Unit) (fun b5=>[(0,.s (.one (.sl a0.length (a0.flatMap Ev)))),(1,.s (.one (Ii6 a1))),(5,.s (.one (.b v1))),(6,.s (.one (.lp 0 0))),(7,.s (.one (Ii6 s4.1))),(8,.s (.one (Ii6 s4.2.1))),(9,.s (.one (Ii6 s4.2.2.1)))]) (fun b5=>[.box (EL.el s4.2.2.2)]) (fun b5=>Mi a0 a1 s4 b5=some y4) (fun _ _=>A5 R) (fun _ _=>Ap R) (fun _ _=>Nbl R) (fun b5 h=>?_) ?_))))))
    ·unfold Mi at h
     refine csr (rm 1 R (Ai (Br (csr (fl Ui ti3 R R R R R R (sv R (C7 R R) (Ai (Dt (Int) (fun b6=>[(0,.s (.one (.sl a0.length (a0.flatMap Ev)))),(1,.s (.one (Ii6 a1))),(5,.s (.one (.b v1))),(6,.s (.one (.lp 0 0))),(7,.s (.one (Ii6 s4.1))),(8,.s (.one (Ii6 s4.2.1))),(9,.s (.one (Ii6 s4.2.2.1))),(10,.s (.one (Ii6 b6)))]) (fun b6=>[.box (EL.el s4.2.2.2)]) (fun b6=>G4 a0 a1 s4 b6=some y4) (fun _ _=>A5 R) (fun _ _=>Ap R) (fun _ _=>Nbl R) (fun b6 h=>?_) ?_))))))))
     ·unfold G4 at h
      refine csr (ld Dh R R R R (sv R (Bc R) ?_))
      obtain ⟨v7,hv7,h⟩:=Ae h
      refine Bb R Ayc (Aa R (Aa R Af)) (Ao R) (Aaf hv7) (sv R (Cd R) (sv R (Aj R R) (sv R (Aj R R) (Bq R Zv (sst Zx R R R R R (rm 1 R (Ai (Br (Z0 (Z0 ?_))))))))))
      obtain ⟨u8,hu8,h⟩:=Ae h
      obtain ⟨v9,hv9,h⟩:=Ae h
      refine Aju [10,11,12,13] [0,0,0,6,14,0,63,127,255,255,0,0,3583,8191] [([false,false,false,false],[.box (EL.el s4.2.2.2),.box (EL.el v7.1),.hole,.hole]),([false,true,false,false],[.box (EL.el s4.2.2.2),.box (EL.el v7.1),.hole,.box [Ii6 0,.b false,Znl,Znl,Ii6 0]]),([true,false,false,false],[.box (EL.el s4.2.2.2),.box (EL.el v7.1),.box Zba,.hole]),([true,true,false,false],[.box (EL.el s4.2.2.2),.box (EL.el v7.1),.box Zba,.box [Ii6 0,.b false,Znl,Znl,Ii6 0]]),([true,true,true,false],[.box (EL.el s4.2.2.2),.box (EL.el v7.1),.box (EL.el v9.1),.box [Ii6 0,.b false,Znl,Znl,Ii6 0]]),([true,true,true,true],[.box (EL.el s4.2.2.2),.box (EL.el v7.1),.box (EL.el v9.1),.box (EL.el v9.2)])] (by kernel_rfl) mixed (by kernel_rfl) (by decide) R (by kernel_rfl) R R ?_
      refine mev (md:=[.box (EL.el s4.2.2.2),.box (EL.el v7.1),.dead,.dead]) (Cu R ⟨R,⟨R,⟨trivial,⟨trivial,trivial⟩⟩⟩⟩ (Cu R ⟨R,⟨R,⟨trivial,⟨trivial,trivial⟩⟩⟩⟩ (Cu R ⟨R,⟨R,⟨trivial,⟨trivial,trivial⟩⟩⟩⟩ (Cu R ⟨R,⟨R,⟨trivial,⟨trivial,trivial⟩⟩⟩⟩ (Ch R (Ch R Gx)))))) R R (Bf Dh R (.lp _ _ _ R) (Nbl R)) (Atj R R (fun _=>Bc R) ?_)
      refine Atj R R (fun _=>Bc R) ?_
      refine mev (md:=[.box (EL.el s4.2.2.2),.box (EL.el v7.1),.dead,.dead]) (Cu R ⟨R,⟨R,⟨trivial,⟨trivial,trivial⟩⟩⟩⟩ (Cu R ⟨R,⟨R,⟨trivial,⟨trivial,trivial⟩⟩⟩⟩ (Cu R ⟨R,⟨R,⟨trivial,⟨trivial,trivial⟩⟩⟩⟩ (Cu R ⟨R,⟨R,⟨trivial,⟨trivial,trivial⟩⟩⟩⟩ (Ch R (Ch R Gx)))))) R R (Cb (f:=Ev) Afa (fun _=>R) R R R R hu8) ?_
      refine mev (md:=[.box (EL.el s4.2.2.2),.box (EL.el v7.1),.dead,.dead]) (Cu R ⟨R,⟨R,⟨trivial,⟨trivial,trivial⟩⟩⟩⟩ (Cu R ⟨R,⟨R,⟨trivial,⟨trivial,trivial⟩⟩⟩⟩ (Cu R ⟨R,⟨R,⟨trivial,⟨trivial,trivial⟩⟩⟩⟩ (Cu R ⟨R,⟨R,⟨trivial,⟨trivial,trivial⟩⟩⟩⟩ (Ch R (Ch R Gx)))))) R R (B3 (ys:=[Ii6 u8.What,Ii6 u8.N,Ii6 u8.Token,Ii6 u8.Attempt,.b u8.RO,.b u8.Del,.sl u8.Key.length (u8.Key.flatMap eU8),.sl u8.Val.length (u8.Val.flatMap eU8),.sl u8.Rng.Lo.length (u8.Rng.Lo.flatMap eU8),.sl u8.Rng.Hi.length (u8.Rng.Hi.flatMap eU8),.b u8.Rng.Open]) Ayi R (.cp _) R R) (Atj R R (fun _=>Bc R) ?_)
      refine med (md:=[.box (EL.el s4.2.2.2),.box (EL.el v7.1),.dead,.dead]) (Cu R ⟨R,⟨R,⟨trivial,⟨trivial,trivial⟩⟩⟩⟩ (Cu R ⟨R,⟨R,⟨trivial,⟨trivial,trivial⟩⟩⟩⟩ (Cu R ⟨R,⟨R,⟨trivial,⟨trivial,trivial⟩⟩⟩⟩ (Cu R ⟨R,⟨R,⟨trivial,⟨trivial,trivial⟩⟩⟩⟩ (Ch R (Ch R Gx)))))) R R (C9 Ayq (Aa R (Aa R (Aa R Af))) R (Adj hv9)) (Atj R R (fun _=>Cd R) ?_)
      refine mev (md:=[.box (EL.el s4.2.2.2),.box (EL.el v7.1),.dead,.dead]) (Cu R ⟨R,⟨R,⟨trivial,⟨trivial,trivial⟩⟩⟩⟩ (Cu R ⟨R,⟨R,⟨trivial,⟨trivial,trivial⟩⟩⟩⟩ (Cu R ⟨R,⟨R,⟨trivial,⟨trivial,trivial⟩⟩⟩⟩ (Cu R ⟨R,⟨R,⟨trivial,⟨trivial,trivial⟩⟩⟩⟩ (Ch R (Ch R Gx)))))) R R (Aj R R) (mev (md:=[.box (EL.el s4.2.2.2),.box (EL.el v7.1),.dead,.dead]) (Cu R ⟨R,⟨R,⟨trivial,⟨trivial,trivial⟩⟩⟩⟩ (Cu R ⟨R,⟨R,⟨trivial,⟨trivial,trivial⟩⟩⟩⟩ (Cu R ⟨R,⟨R,⟨trivial,⟨trivial,trivial⟩⟩⟩⟩ (Cu R ⟨R,⟨R,⟨trivial,⟨trivial,trivial⟩⟩⟩⟩ (Cu R ⟨R,⟨R,⟨trivial,⟨trivial,trivial⟩⟩⟩⟩ (Ch R Gx)))))) R R (Aj R R) (mee (x:=.s (.one (.lp 2 0))) 0 R R ?_ ?_))
      ·refine Cu R ⟨_,R,fun ζ=>?_⟩ ?_
       ·refine M8 2 R Q8 R ?_
        exact Ta
       refine Cu R ⟨_,R,fun ζ=>?_⟩ ?_
       ·refine M8 2 R Q8 R ?_
        exact Ta
       refine Ch R (Ch R (Ch R (Ch R ?_)))
       exact Gx
      refine mee (x:=.s (.one (.lp 3 0))) 1 R R ?_ ?_
      ·refine Cu R ⟨_,R,fun ζ=>?_⟩ ?_
       ·refine M8 3 R Ajw R ?_
        exact Ta
       refine Ch R (Cu R ⟨_,R,fun ζ=>?_⟩ ?_)
       ·refine M8 3 R Ajw R ?_
        exact Ta
       refine Ch R (Ch R (Ch R ?_))
       exact Gx
      refine Axg 2 R ?_ ?_
      ·refine Ch R (Ch R (Ch R (Cu R ⟨_,R,fun ζ=>?_⟩ ?_)))
       ·refine sst J8 R R R R R (P4 [.box (EL.el s4.2.2.2),.box (EL.el v7.1),.box (EL.el v9.1),.box [Ii6 0,.b false,Znl,Znl,Ii6 0]] R ?_)
        exact Ta
       refine Ch R (Ch R ?_)
       exact Gx
      refine Axg 3 R ?_ ?_
      ·refine Ch R (Ch R (Ch R (Ch R (Cu R ⟨_,R,fun ζ=>?_⟩ ?_))))
       ·refine sst Aof R R R R R (P4 [.box (EL.el s4.2.2.2),.box (EL.el v7.1),.box (EL.el v9.1),.box (EL.el v9.2)] R ?_)
        exact Ta
       refine Ch R ?_
       exact Gx
      refine Atz (Ab (Br (Br (Hp (Unit) (fun b10=>[(0,.s (.one (.sl a0.length (a0.flatMap Ev)))),(1,.s (.one (Ii6 a1))),(5,.s (.one (.b v1))),(6,.s (.one (.lp 0 0))),(7,.s (.one (Ii6 s4.1))),(8,.s (.one (Ii6 s4.2.1))),(9,.s (.one (Ii6 s4.2.2.1))),(11,.s (.one (.lp 1 0))),(12,.s (.one (.b v7.2))),(13,.s (.one (.lp 2 0))),(14,.s (.one (.lp 3 0)))]) (fun b10=>[.box (EL.el s4.2.2.2),.box (EL.el v7.1),.box (EL.el v9.1),.box (EL.el v9.2)]) (fun b10=>F9 a0 a1 s4 v7 v9 b10=some y4) (fun _ _=>A5 R) (fun _ _=>Ap R) (fun _ _=>Nbl R) (fun b10 h=>?_) ?_))))
      ·unfold F9 at h
       refine Br (Br (Hp (Int) (fun b11=>[(0,.s (.one (.sl a0.length (a0.flatMap Ev)))),(1,.s (.one (Ii6 a1))),(5,.s (.one (.b v1))),(6,.s (.one (.lp 0 0))),(7,.s (.one (Ii6 b11))),(8,.s (.one (Ii6 s4.2.1))),(9,.s (.one (Ii6 s4.2.2.1))),(13,.s (.one (.lp 2 0))),(14,.s (.one (.lp 3 0)))]) (fun b11=>[.box (EL.el s4.2.2.2),.box (EL.el v7.1),.box (EL.el v9.1),.box (EL.el v9.2)]) (fun b11=>Cr a0 a1 s4 v9 b11=some y4) (fun _ _=>A5 R) (fun _ _=>Ap R) (fun _ _=>Nbl R) (fun b11 h=>?_) ?_))
       ·unfold Cr at h
        refine Br (Br (Hp (Int) (fun b12=>[(0,.s (.one (.sl a0.length (a0.flatMap Ev)))),(1,.s (.one (Ii6 a1))),(5,.s (.one (.b v1))),(6,.s (.one (.lp 0 0))),(7,.s (.one (Ii6 b11))),(8,.s (.one (Ii6 b12))),(9,.s (.one (Ii6 s4.2.2.1))),(13,.s (.one (.lp 2 0)))]) (fun b12=>[.box (EL.el s4.2.2.2),.box (EL.el v7.1),.box (EL.el v9.1),.box (EL.el v9.2)]) (fun b12=>Dz s4 v9 b11 b12=some y4) (fun _ _=>A5 R) (fun _ _=>Ap R) (fun _ _=>Nbl R) (fun b12 h=>?_) ?_))
        ·unfold Dz at h
         refine As (ld Dh R R R R (sst J8 R R R R R (Ks (Ar (Ab (As (rm 1 R (sv R (Bs R R) (rm 1 R (Ai ?_))))))))))
         obtain rfl:=SJ h
         exact ⟨(n4,(b11,b12,(wI (s4.2.2.1+1)),v9.1)),_,hk4,⟨R,R,R,R,R,R,R,trivial⟩,R,Nat.lt_succ_self _⟩
        ·skip
         refine As (rm 1 R (sv R (Bc R) ?_))
         obtain ⟨u13,hu13,h⟩:=Ae h
         refine sv R (Cb (f:=Ev) Afa (fun _=>R) R R R R hu13) ?_
         refine sv R (Ci Sd R) (sv R (Ak ti3 R (.cp _) R) (sv R (B5 R R) (rm 1 R (ssI 121 h R (fun h=>?_) (fun h=>?_)))))
         ·refine rm 2 R (son R R R ?_)
          obtain ⟨u14,hu14,h⟩:=Ae h
          refine sv R (Cb (f:=Ev) Afa (fun _=>R) R R R R hu14) ?_
          refine son R R R (sv R (Ci Ahb R) (son R R R (sv R (Ak ti3 R (.cp _) R) (rm 1 R (son R R R (sv R (B5 R R) (rm 2 R (ssI 130 h R (fun h=>?_) (fun h=>?_)))))))))
          ·refine son R R R (sv R (Ac Alz R) (son R R R (sv R (Ak Avq R (.lp _ _ _ R) R) (son R R R (sv R (B5 R R) (rm 1 R (Ai (ccI h R (fun h=>?_) (fun h=>?_)))))))))
           ·refine Br (csr (fl Ao8 ti3 R R R R R R (sv R (C7 R R) (rm 1 R (sv R (B5 R R) (sv R (An4 Tryz.underlying4 R R) (Ai (ccI h R (fun h=>?_) (fun h=>?_)))))))))
            ·refine csr (rm 1 R (Ai (Bv (Ag (Ag (Ay (Ag (Ag (Ay (Ag ?_))))))))))
             obtain rfl:=SJ h
             obtain rfl:Sum.inl _=x4:=hk4
             replace ho4:some _=some _:=ho4
             obtain rfl:=Option.some.inj ho4
             exact dnT R R R R
            ·refine Bj (Ab (csr (fl Ao8 ti3 R R R R R R (sv R (B5 R R) (Ai (ccI h R (fun h=>?_) (fun h=>?_)))))))
             ·refine As (rm 2 R (sv R (Bc R) ?_))
              obtain ⟨u15,hu15,h⟩:=Ae h
              refine sv R (Cb (f:=Ev) Afa (fun _=>R) R R R R hu15) ?_
              refine sv R (Ci Akd R) (sv R (Ak ti3 R (.cp _) R) (sv R (Al0 R R) (rm 1 R (Ai ?_))))
              exact ⟨(if u15.Attempt > s4.2.1 then u15.Attempt else s4.2.1),_,h,⟨R,R,R,R,R,R,R,R,trivial⟩,R⟩
             ·refine Bj (Ab ?_)
              exact ⟨s4.2.1,_,h,⟨R,R,R,R,R,R,R,R,trivial⟩,R⟩
           ·refine Bj (Ab ?_)
            exact ⟨s4.2.1,_,h,⟨R,R,R,R,R,R,R,R,trivial⟩,R⟩
          ·refine rm 4 R (Ai (Cp R (fun hx=>Bool.noConfusion hx) (fun _=>?_)))
           refine Bj (Ab ?_)
           exact ⟨s4.2.1,_,h,⟨R,R,R,R,R,R,R,R,trivial⟩,R⟩
         ·refine rm 13 R (Ai (Cp R (fun hx=>Bool.noConfusion hx) (fun _=>?_)))
          refine Bj (Ab ?_)
          exact ⟨s4.2.1,_,h,⟨R,R,R,R,R,R,R,R,trivial⟩,R⟩
       ·skip
        refine As (rm 1 R (sv R (Bc R) ?_))
        obtain ⟨u16,hu16,h⟩:=Ae h
        refine sv R (Cb (f:=Ev) Afa (fun _=>R) R R R R hu16) ?_
        refine sv R (Ci Sd R) (sv R (Ak ti3 R (.cp _) R) (sv R (C7 R R) (rm 1 R (ssI 83 h R (fun h=>?_) (fun h=>?_)))))
        ·refine rm 2 R (son R R R ?_)
         obtain ⟨u17,hu17,h⟩:=Ae h
         refine sv R (Cb (f:=Ev) Afa (fun _=>R) R R R R hu17) ?_
         refine son R R R (sv R (Ci Sd R) (son R R R (sv R (Ak ti3 R (.cp _) R) (son R R R (sv R (Dj R R) (rm 2 R (ssI 91 h R (fun h=>?_) (fun h=>?_))))))))
         ·refine son R R R (sv R (Ac Alz R) (son R R R (sv R (Ak Avq R (.lp _ _ _ R) R) (son R R R (sv R (B5 R R) (rm 2 R (ssI 96 h R (fun h=>?_) (fun h=>?_))))))))
          ·refine rm 3 R (ssI 99 h R (fun h=>?_) (fun h=>?_))
           ·refine son R R R (sv R (Ac Aao R) (son R R R (sv R (Ak ti3 R (.lp _ _ _ R) R) (rm 1 R (son R R R (sv R (B5 R R) (rm 1 R (Ai (ccI h R (fun h=>?_) (fun h=>?_))))))))))
            ·refine csr (rm 1 R (sv R (Bs R R) (rm 1 R (Ai (csr (fl Ac6 ti3 R R R R R R (rm 1 R (sv R (Dj R R) (rm 1 R (ssI 111 h R (fun h=>?_) (fun h=>?_)))))))))))
             ·refine rm 3 R (Ai (Cp R (fun _=>?_) (fun hx=>Bool.noConfusion hx)))
              refine csr (rm 1 R (Ai (Bv (Ag (Ay (Ag (Ag (Ay (Ag ?_)))))))))
              obtain rfl:=SJ h
              obtain rfl:Sum.inl _=x4:=hk4
              replace ho4:some _=some _:=ho4
              obtain rfl:=Option.some.inj ho4
              exact dnT R R R R
             ·refine rm 1 R (son R R R (sv R (C7 R R) (rm 1 R (Ai (ccI h R (fun h=>?_) (fun h=>?_))))))
              ·refine csr (rm 1 R (Ai (Bv (Ag (Ay (Ag (Ag (Ay (Ag ?_)))))))))
               obtain rfl:=SJ h
               obtain rfl:Sum.inl _=x4:=hk4
               replace ho4:some _=some _:=ho4
               obtain rfl:=Option.some.inj ho4
               exact dnT R R R R
              ·refine Bj (Ab ?_)
               exact ⟨(wI (s4.1+1)),_,h,⟨R,R,R,R,R,R,R,R,R,trivial⟩,R⟩
            ·refine Bj (Ab ?_)
             exact ⟨s4.1,_,h,⟨R,R,R,R,R,R,R,R,R,trivial⟩,R⟩
           ·refine rm 5 R (Ai (Cp R (fun hx=>Bool.noConfusion hx) (fun _=>?_)))
            refine Bj (Ab ?_)
            exact ⟨s4.1,_,h,⟨R,R,R,R,R,R,R,R,R,trivial⟩,R⟩
          ·refine rm 8 R (Ai (Cp R (fun hx=>Bool.noConfusion hx) (fun _=>?_)))
           refine Bj (Ab ?_)
           exact ⟨s4.1,_,h,⟨R,R,R,R,R,R,R,R,R,trivial⟩,R⟩
         ·refine rm 13 R (Ai (Cp R (fun hx=>Bool.noConfusion hx) (fun _=>?_)))
          refine Bj (Ab ?_)
          exact ⟨s4.1,_,h,⟨R,R,R,R,R,R,R,R,R,trivial⟩,R⟩
        ·refine rm 21 R (Ai (Cp R (fun hx=>Bool.noConfusion hx) (fun _=>?_)))
         refine Bj (Ab ?_)
         exact ⟨s4.1,_,h,⟨R,R,R,R,R,R,R,R,R,trivial⟩,R⟩
      ·skip
       refine As (fl Alz Avq R R R R R R (sv R (B5 R R) (rm 1 R (ssI 72 h R (fun h=>?_) (fun h=>?_)))))
       ·refine son R R R (sv R (Ac Ui R) (son R R R (sv R (Ak ti3 R (.lp _ _ _ R) R) (son R R R (sv R (B5 R R) (rm 1 R (Ai (ccI h R (fun h=>?_) (fun h=>?_)))))))))
        ·refine Di (Au (Bn (Ab (As (rm 1 R (sv R (Bs R R) (rm 1 R (Ai ?_))))))))
         obtain rfl:=SJ h
         exact ⟨(n4,(s4.1,s4.2.1,(wI (s4.2.2.1+1)),s4.2.2.2)),_,hk4,⟨R,R,R,R,R,R,R,trivial⟩,R,Nat.lt_succ_self _⟩
        ·refine Bj (Ab ?_)
         exact ⟨(),_,h,⟨R,R,R,R,R,R,R,R,R,R,R,trivial⟩,R⟩
       ·refine rm 4 R (Ai (Cp R (fun hx=>Bool.noConfusion hx) (fun _=>?_)))
        refine Bj (Ab ?_)
        exact ⟨(),_,h,⟨R,R,R,R,R,R,R,R,R,R,R,trivial⟩,R⟩
     ·skip
      refine ccI h R (fun h=>?_) (fun h=>?_)
      ·refine Z9 mixed (by kernel_rfl) ?_
       refine dv R (Bc R) (dv R (Bc R) ?_)
       obtain ⟨u18,hu18,h⟩:=Ae h
       refine dv R (Cb (f:=Ev) Afa (fun _=>R) R R R R hu18) ?_
       refine dv R (Ci Asx R) (dv R (Ak ti3 R (.cp _) R) (dv R (Aqi R R) (dv R (Ac Ui R) (dv R (Ak ti3 R (.lp _ _ _ R) R) ?_))))
       obtain ⟨hz19,h⟩:=Cy h
       refine dv R (Arw R R hz19) (dv R (Ko R) (Adw (Ab ?_)))
       exact ⟨((wI ((BitVec.ofInt 64 u18.N &&& BitVec.ofInt 64 65535).toNat:Int)).tmod s4.2.2.2.Next),_,h,⟨R,R,R,R,R,R,R,R,trivial⟩,R⟩
      ·refine Bj (Ab ?_)
       exact ⟨0,_,h,⟨R,R,R,R,R,R,R,R,trivial⟩,R⟩
    ·skip
     refine As (rm 1 R (sv R (Bc R) ?_))
     obtain ⟨u20,hu20,h⟩:=Ae h
     refine sv R (Cb (f:=Ev) Afa (fun _=>R) R R R R hu20) ?_
     refine sv R (Ci Sd R) (sv R (Ak ti3 R (.cp _) R) (sv R (B5 R R) (rm 1 R (ssI 33 h R (fun h=>?_) (fun h=>?_)))))
     ·refine rm 7 R (Ai (Cp R (fun _=>?_) (fun hx=>Bool.noConfusion hx)))
      refine Di (Au (Bn (Ab (As (rm 1 R (sv R (Bs R R) (rm 1 R (Ai ?_))))))))
      obtain rfl:=SJ h
      exact ⟨(n4,(s4.1,s4.2.1,(wI (s4.2.2.1+1)),s4.2.2.2)),_,hk4,⟨R,R,R,R,R,R,R,trivial⟩,R,Nat.lt_succ_self _⟩
     ·refine rm 2 R (son R R R ?_)
      obtain ⟨u21,hu21,h⟩:=Ae h
      refine sv R (Cb (f:=Ev) Afa (fun _=>R) R R R R hu21) ?_
      refine son R R R (sv R (Ci Sd R) (son R R R (sv R (Ak ti3 R (.cp _) R) (son R R R (sv R (C7 R R) (rm 1 R (Ai (ccI h R (fun h=>?_) (fun h=>?_)))))))))
      ·refine Di (Au (Bn (Ab (As (rm 1 R (sv R (Bs R R) (rm 1 R (Ai ?_))))))))
       obtain rfl:=SJ h
       exact ⟨(n4,(s4.1,s4.2.1,(wI (s4.2.2.1+1)),s4.2.2.2)),_,hk4,⟨R,R,R,R,R,R,R,trivial⟩,R,Nat.lt_succ_self _⟩
      ·refine Bj (Ab ?_)
       exact ⟨(),_,h,⟨R,R,R,R,R,R,R,trivial⟩,R⟩
   ·refine Di (Au (Au (Bn (Ab ?_))))
    obtain rfl:=SJ h
    obtain rfl:_=x4:=hk4
    exact ⟨s4.2.2.2,_,ho4,⟨R,trivial⟩,R⟩
end Go.Proofs.YtkblaobhhoebaaaGreat.Abs
