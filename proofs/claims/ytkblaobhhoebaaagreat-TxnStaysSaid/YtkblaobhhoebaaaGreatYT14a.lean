/-
 t
-/
import Derived.Test.YtkblaobhhoebaaaGreatYAbsC
import Derived.Test.YtkblaobhhoebaaaGreatProg
set_option linter.unusedVariables false
set_option linter.unusedSimpArgs false
namespace Go.Proofs.YtkblaobhhoebaaaGreat.Abs
open Go.RowKit Go.Proofs
set_option maxRecDepth 100000
structure A6 where
 Key:List UInt8
 Val:List UInt8
 Del:Bool
def Ba (x:A6):List Lf:=[.sl x.Key.length (x.Key.flatMap eU8),.sl x.Val.length (x.Val.flatMap eU8),.b x.Del]
structure B3 where
 L:List A6
def Agy (x:B3):List Lf:=[.sl x.L.length (x.L.flatMap Ba)]
structure B7 where
 Key:List UInt8
 Val:List UInt8
def Cg (x:B7):List Lf:=[.sl x.Key.length (x.Key.flatMap eU8),.sl x.Val.length (x.Val.flatMap eU8)]
structure Bg where
 Lo:List UInt8
 Hi:List UInt8
 Open:Bool
def Aba (x:Bg):List Lf:=[.sl x.Lo.length (x.Lo.flatMap eU8),.sl x.Hi.length (x.Hi.flatMap eU8),.b x.Open]
structure Cv where
 What:Int
 N:Int
 Token:Int
 Attempt:Int
 RO:Bool
 Del:Bool
 Key:List UInt8
 Val:List UInt8
 Rng:Bg
def Ch (x:Cv):List Lf:=[.i .i64 x.What,.i .i64 x.N,.i .i64 x.Token,.i .i64 x.Attempt,.b x.RO,.b x.Del,.sl x.Key.length (x.Key.flatMap eU8),.sl x.Val.length (x.Val.flatMap eU8),.sl x.Rng.Lo.length (x.Rng.Lo.flatMap eU8),.sl x.Rng.Hi.length (x.Rng.Hi.flatMap eU8),.b x.Rng.Open]
structure Ax where
 Ts:Int
 Val:List UInt8
 Del:Bool
def A7 (x:Ax):List Lf:=[.i .i64 x.Ts,.sl x.Val.length (x.Val.flatMap eU8),.b x.Del]
structure Al where
 L:List Ax
def As (x:Al):List Lf:=[.sl x.L.length (x.L.flatMap A7)]
structure Bw where
 Keys:List (List UInt8)
 Chains:List Al
 Ts:Int
def Adj (x:Bw):List Lf:=[.sl x.Keys.length (x.Keys.flatMap (eL eU8)),.sl x.Chains.length (x.Chains.flatMap As),.i .i64 x.Ts]
structure A1 where
 ID:Int
 Begin:Int
 End:Int
 State:Int
 In:Bool
 Out:Bool
 RO:Bool
 Keys:List (List UInt8)
def Bb (x:A1):List Lf:=[.i .i64 x.ID,.i .i64 x.Begin,.i .i64 x.End,.i .i64 x.State,.b x.In,.b x.Out,.b x.RO,.sl x.Keys.length (x.Keys.flatMap (eL eU8))]
structure Az where
 Tx:Int
 Rng:Bg
def Aq (x:Az):List Lf:=[.i .i64 x.Tx,.sl x.Rng.Lo.length (x.Rng.Lo.flatMap eU8),.sl x.Rng.Hi.length (x.Rng.Hi.flatMap eU8),.b x.Rng.Open]
structure Bu where
 L:List Az
def Aek (x:Bu):List Lf:=[.sl x.L.length (x.L.flatMap Aq)]
structure Be where
 Txs:List A1
 Reads:Bu
def Anv (x:Be):List Lf:=[.sl x.Txs.length (x.Txs.flatMap Bb),.sl x.Reads.L.length (x.Reads.L.flatMap Aq)]
structure A5 where
 Tok:Int
 Attempt:Int
 State:Int
 Ts:Int
def Am (x:A5):List Lf:=[.i .i64 x.Tok,.i .i64 x.Attempt,.i .i64 x.State,.i .i64 x.Ts]
structure Bi where
 L:List A5
def Acy (x:Bi):List Lf:=[.sl x.L.length (x.L.flatMap Am)]
structure Bc where
 ID:Int
 Token:Int
 Attempt:Int
 Snap:Int
 RO:Bool
 Buf:B3
def Bl (x:Bc):List Lf:=[.i .i64 x.ID,.i .i64 x.Token,.i .i64 x.Attempt,.i .i64 x.Snap,.b x.RO,.sl x.Buf.L.length (x.Buf.L.flatMap Ba)]
structure Ah where
 Store:Bw
 Cert:Be
 Toks:Bi
 Open:List Bc
 Next:Int
def Ahr (x:Ah):List Lf:=[.sl x.Store.Keys.length (x.Store.Keys.flatMap (eL eU8)),.sl x.Store.Chains.length (x.Store.Chains.flatMap As),.i .i64 x.Store.Ts,.sl x.Cert.Txs.length (x.Cert.Txs.flatMap Bb),.sl x.Cert.Reads.L.length (x.Cert.Reads.L.flatMap Aq),.sl x.Toks.L.length (x.Toks.L.flatMap Am),.sl x.Open.length (x.Open.flatMap Bl),.i .i64 x.Next]
structure Cj where
 tx_:Int
 lo_:List UInt8
 hi_:List UInt8
 open_:Bool
def D2 (x:Cj):List Lf:=[.i .i64 x.tx_,.s ⟨x.lo_.toArray⟩,.s ⟨x.hi_.toArray⟩,.b x.open_]
structure B2 where
 id_:Int
 snap_:Int
 end_:Int
 acts_:Nat
def Bh (x:B2):List Lf:=[.i .i64 x.id_,.i .i64 x.snap_,.i .i64 x.end_,.jk 152 16 x.acts_]
structure I4 where
 n_:Int
 found_:Bool
 v_:List UInt8
 l_:List B7
 e_:Int
def Ak2 (x:I4):List Lf:=[.i .i64 x.n_,.b x.found_,.sl x.v_.length (x.v_.flatMap eU8),.sl x.l_.length (x.l_.flatMap Cg),.i .i64 x.e_]
structure Gd where
 o_:Cv
 x_:I4
def Acx (x:Gd):List Lf:=[.i .i64 x.o_.What,.i .i64 x.o_.N,.i .i64 x.o_.Token,.i .i64 x.o_.Attempt,.b x.o_.RO,.b x.o_.Del,.sl x.o_.Key.length (x.o_.Key.flatMap eU8),.sl x.o_.Val.length (x.o_.Val.flatMap eU8),.sl x.o_.Rng.Lo.length (x.o_.Rng.Lo.flatMap eU8),.sl x.o_.Rng.Hi.length (x.o_.Rng.Hi.flatMap eU8),.b x.o_.Rng.Open,.i .i64 x.x_.n_,.b x.x_.found_,.sl x.x_.v_.length (x.x_.v_.flatMap eU8),.sl x.x_.l_.length (x.x_.l_.flatMap Cg),.i .i64 x.x_.e_]
class EL (α:Type) where
 el:α→List Lf
instance:EL A6:=⟨Ba⟩
instance:EL B3:=⟨Agy⟩
instance:EL B7:=⟨Cg⟩
instance:EL Bg:=⟨Aba⟩
instance:EL Cv:=⟨Ch⟩
instance:EL Ax:=⟨A7⟩
instance:EL Al:=⟨As⟩
instance:EL Bw:=⟨Adj⟩
instance:EL A1:=⟨Bb⟩
instance:EL Az:=⟨Aq⟩
instance:EL Bu:=⟨Aek⟩
instance:EL Be:=⟨Anv⟩
instance:EL A5:=⟨Am⟩
instance:EL Bi:=⟨Acy⟩
instance:EL Bc:=⟨Bl⟩
instance:EL Ah:=⟨Ahr⟩
instance:EL Cj:=⟨D2⟩
instance:EL B2:=⟨Bh⟩
instance:EL I4:=⟨Ak2⟩
instance:EL Gd:=⟨Acx⟩
abbrev At1:Bg:=(Bg.mk ([]:List UInt8) ([]:List UInt8) false)
abbrev Pm:Bw:=(Bw.mk ([]:List (List UInt8)) ([]:List Al) 0)
abbrev Xv:A1:=(A1.mk 0 0 0 0 false false false ([]:List (List UInt8)))
abbrev Qm:Az:=(Az.mk 0 (Bg.mk ([]:List UInt8) ([]:List UInt8) false))
abbrev Jf:Be:=(Be.mk ([]:List A1) (Bu.mk ([]:List Az)))
abbrev Cp:Bi:=(Bi.mk ([]:List A5))
abbrev Ps:Bc:=(Bc.mk 0 0 0 0 false (B3.mk ([]:List A6)))
abbrev E2:Ah:=(Ah.mk (Bw.mk ([]:List (List UInt8)) ([]:List Al) 0) (Be.mk ([]:List A1) (Bu.mk ([]:List Az))) (Bi.mk ([]:List A5)) ([]:List Bc) 0)
abbrev Znl:Lf:=.raw (.slice none 0 0)
abbrev Ii6 (n:Int):Lf:=.i .i64 n
theorem SJ {α:Type} {a b:α} (h:some a=some b):a=b:=zD h
abbrev Nfu:Lf:=.raw .nilFunc
abbrev Zba:List Lf:=[Znl,Znl,Ii6 0,Znl,Znl,Znl,Znl,Ii6 0]
abbrev Zbb:List Lf:=[Ii6 0,Ii6 0,Ii6 0,Ii6 0,.b false,.b false,.b false,Znl]
theorem Nbl {n m:Nat} (h:Nat.ble n m=true):n≤m:=wY h
theorem Wo:FI Tryz.prog 86 0 0:=⟨⟨_,_,1,Tryz.underlying86,rfl,rfl,by kernel_rfl,by decide⟩⟩
theorem Ao4:TI Tryz.prog 84 false 1:=⟨⟨_,Tryz.underlying84,rfl⟩,by kernel_rfl⟩
theorem Ac4:SI Tryz.prog 84 99 3:=⟨Tryz.underlying84,by kernel_rfl,by decide⟩
theorem Afp:TI Tryz.prog 99 true 3:=⟨⟨_,Tryz.underlying99,rfl⟩,by kernel_rfl⟩
theorem Aj9:ZI Tryz.prog 99 ([Znl,Znl,.b false]):=Qz (by kernel_rfl)
theorem Amh:(Tryz.prog.info? 99).map (·.size)=some 3:=by kernel_rfl
theorem S4:FI Tryz.prog 99 0 0:=⟨⟨_,_,1,Tryz.underlying99,rfl,rfl,by kernel_rfl,by decide⟩⟩
theorem N2:TI Tryz.prog 56 false 1:=⟨⟨_,Tryz.underlying56,rfl⟩,by kernel_rfl⟩
theorem Xb:SI Tryz.prog 56 5 1:=⟨Tryz.underlying56,by kernel_rfl,by decide⟩
theorem Awu:FnI Tryz.prog 62:=⟨⟨_,Tryz.func62,by kernel_rfl,by kernel_rfl⟩⟩
theorem Zo:FI Tryz.prog 99 1 1:=⟨⟨_,_,1,Tryz.underlying99,rfl,rfl,by kernel_rfl,by decide⟩⟩
theorem Adm:FI Tryz.prog 99 2 2:=⟨⟨_,_,1,Tryz.underlying99,rfl,rfl,by kernel_rfl,by decide⟩⟩
theorem ti4:TI Tryz.prog 4 false 1:=⟨⟨_,Tryz.underlying4,rfl⟩,by kernel_rfl⟩
theorem Awq:FnI Tryz.prog 124:=⟨⟨_,Tryz.func124,by kernel_rfl,by kernel_rfl⟩⟩
theorem Ag2:TI Tryz.prog 86 true 1:=⟨⟨_,Tryz.underlying86,rfl⟩,by kernel_rfl⟩
theorem Afq:EI Tryz.prog 56 1 24 [Znl]:=S7 (by kernel_rfl) (by decide)
theorem Asb:NI Tryz.prog 25:=⟨.inl ⟨_,Tryz.underlying25⟩⟩
theorem Auz:FnI Tryz.prog 125:=⟨⟨_,Tryz.func125,by kernel_rfl,by kernel_rfl⟩⟩
theorem S6:SI Tryz.prog 25 56 1:=⟨Tryz.underlying25,by kernel_rfl,by decide⟩
theorem mixed:Tryz.prog.follows .mixedOrders=true:=by kernel_rfl
theorem At6:XI Tryz.prog 259 Extern.BytealgCompare.compare:=⟨⟨Tryz.f259,Tryz.func259,by kernel_rfl,by kernel_rfl,by kernel_rfl,by kernel_rfl⟩⟩
theorem Ax7:FnI Tryz.prog 219:=⟨⟨_,Tryz.func219,by kernel_rfl,by kernel_rfl⟩⟩
theorem Alo:FnI Tryz.prog 150:=⟨⟨_,Tryz.func150,by kernel_rfl,by kernel_rfl⟩⟩
theorem Apw:FnI Tryz.prog 181:=⟨⟨_,Tryz.func181,by kernel_rfl,by kernel_rfl⟩⟩
theorem Asi:SI Tryz.prog 61 157 2:=⟨Tryz.underlying61,by kernel_rfl,by decide⟩
theorem Aof:TI Tryz.prog 157 true 2:=⟨⟨_,Tryz.underlying157,rfl⟩,by kernel_rfl⟩
theorem Anr:ZI Tryz.prog 157 ([Znl,Znl]):=Qz (by kernel_rfl)
theorem Arp:(Tryz.prog.info? 157).map (·.size)=some 2:=by kernel_rfl
theorem Agk:FI Tryz.prog 157 0 0:=⟨⟨_,_,1,Tryz.underlying157,rfl,rfl,by kernel_rfl,by decide⟩⟩
theorem Aa7:FI Tryz.prog 58 0 0:=⟨⟨_,_,1,Tryz.underlying58,rfl,rfl,by kernel_rfl,by decide⟩⟩
theorem Ai7:FI Tryz.prog 58 2 2:=⟨⟨_,_,1,Tryz.underlying58,rfl,rfl,by kernel_rfl,by decide⟩⟩
theorem Ya:FI Tryz.prog 58 1 1:=⟨⟨_,_,1,Tryz.underlying58,rfl,rfl,by kernel_rfl,by decide⟩⟩
theorem Ars:(Tryz.prog.info? 86).map (·.size)=some 1:=by kernel_rfl
theorem Acz:TI Tryz.prog 58 true 3:=⟨⟨_,Tryz.underlying58,rfl⟩,by kernel_rfl⟩
theorem A0m:(Tryz.prog.info? 58).map (·.size)=some 3:=by kernel_rfl
theorem Aod:EI Tryz.prog 157 2 48 [Znl,Znl]:=S7 (by kernel_rfl) (by decide)
theorem Azu:NI Tryz.prog 61:=⟨.inl ⟨_,Tryz.underlying61⟩⟩
theorem Ayg:FI Tryz.prog 157 1 1:=⟨⟨_,_,1,Tryz.underlying157,rfl,rfl,by kernel_rfl,by decide⟩⟩
theorem At7:PI Tryz.prog 157 [(0,1),(1,1)]:=Sa Tryz.underlying157 (by kernel_rfl) (by kernel_rfl)
theorem As7:FnI Tryz.prog 119:=⟨⟨_,Tryz.func119,by kernel_rfl,by kernel_rfl⟩⟩
theorem Ax5:FnI Tryz.prog 120:=⟨⟨_,Tryz.func120,by kernel_rfl,by kernel_rfl⟩⟩
theorem Am1:FnI Tryz.prog 121:=⟨⟨_,Tryz.func121,by kernel_rfl,by kernel_rfl⟩⟩
theorem Azc:FnI Tryz.prog 122:=⟨⟨_,Tryz.func122,by kernel_rfl,by kernel_rfl⟩⟩
theorem Qs:ZI Tryz.prog 40 (Zba):=Qz (by kernel_rfl)
theorem Ak3:PI Tryz.prog 40 [(0,3),(3,2),(5,1),(6,1),(7,1)]:=Sa Tryz.underlying40 (by kernel_rfl) (by kernel_rfl)
theorem De:TI Tryz.prog 40 true 8:=⟨⟨_,Tryz.underlying40,rfl⟩,by kernel_rfl⟩
theorem Sz:FI Tryz.prog 40 0 0:=⟨⟨_,_,3,Tryz.underlying40,rfl,rfl,by kernel_rfl,by decide⟩⟩
theorem Yb:TI Tryz.prog 28 true 3:=⟨⟨_,Tryz.underlying28,rfl⟩,by kernel_rfl⟩
theorem Ro:FI Tryz.prog 28 2 2:=⟨⟨_,_,1,Tryz.underlying28,rfl,rfl,by kernel_rfl,by decide⟩⟩
theorem ti3:TI Tryz.prog 3 false 1:=⟨⟨_,Tryz.underlying3,rfl⟩,by kernel_rfl⟩
theorem Q8:FI Tryz.prog 28 0 0:=⟨⟨_,_,1,Tryz.underlying28,rfl,rfl,by kernel_rfl,by decide⟩⟩
theorem Ac0:TI Tryz.prog 25 false 1:=⟨⟨_,Tryz.underlying25,rfl⟩,by kernel_rfl⟩
theorem Qt:FI Tryz.prog 28 1 1:=⟨⟨_,_,1,Tryz.underlying28,rfl,rfl,by kernel_rfl,by decide⟩⟩
theorem Ajr:TI Tryz.prog 26 false 1:=⟨⟨_,Tryz.underlying26,rfl⟩,by kernel_rfl⟩
theorem Ap3:SI Tryz.prog 26 134 1:=⟨Tryz.underlying26,by kernel_rfl,by decide⟩
theorem Aui:FnI Tryz.prog 107:=⟨⟨_,Tryz.func107,by kernel_rfl,by kernel_rfl⟩⟩
theorem O0:TI Tryz.prog 134 true 1:=⟨⟨_,Tryz.underlying134,rfl⟩,by kernel_rfl⟩
theorem Yq:ZI Tryz.prog 134 ([Znl]):=Qz (by kernel_rfl)
theorem Yr:(Tryz.prog.info? 134).map (·.size)=some 1:=by kernel_rfl
theorem Tp:FI Tryz.prog 134 0 0:=⟨⟨_,_,1,Tryz.underlying134,rfl,rfl,by kernel_rfl,by decide⟩⟩
theorem Aaq:TI Tryz.prog 132 false 1:=⟨⟨_,Tryz.underlying132,rfl⟩,by kernel_rfl⟩
theorem Wu:SI Tryz.prog 132 136 3:=⟨Tryz.underlying132,by kernel_rfl,by decide⟩
theorem zi4:ZI Tryz.prog 4 ([.b false]):=Qz (by kernel_rfl)
theorem zi3:ZI Tryz.prog 3 ([Ii6 0]):=Qz (by kernel_rfl)
theorem sz3:(Tryz.prog.info? 3).map (·.size)=some 1:=by kernel_rfl
theorem Asu:FnI Tryz.prog 182:=⟨⟨_,Tryz.func182,by kernel_rfl,by kernel_rfl⟩⟩
theorem Ahu:TI Tryz.prog 136 true 3:=⟨⟨_,Tryz.underlying136,rfl⟩,by kernel_rfl⟩
theorem As9:FnI Tryz.prog 235:=⟨⟨_,Tryz.func235,by kernel_rfl,by kernel_rfl⟩⟩
theorem Ag1:ZI Tryz.prog 136 ([Ii6 0,Znl,.b false]):=Qz (by kernel_rfl)
theorem Akg:(Tryz.prog.info? 136).map (·.size)=some 3:=by kernel_rfl
theorem Vy:FI Tryz.prog 136 0 0:=⟨⟨_,_,1,Tryz.underlying136,rfl,rfl,by kernel_rfl,by decide⟩⟩
theorem Ahg:FI Tryz.prog 136 1 1:=⟨⟨_,_,1,Tryz.underlying136,rfl,rfl,by kernel_rfl,by decide⟩⟩
theorem Agx:FI Tryz.prog 136 2 2:=⟨⟨_,_,1,Tryz.underlying136,rfl,rfl,by kernel_rfl,by decide⟩⟩
theorem Au2:FnI Tryz.prog 183:=⟨⟨_,Tryz.func183,by kernel_rfl,by kernel_rfl⟩⟩
theorem sz4:(Tryz.prog.info? 4).map (·.size)=some 1:=by kernel_rfl
theorem Asd:FnI Tryz.prog 108:=⟨⟨_,Tryz.func108,by kernel_rfl,by kernel_rfl⟩⟩
theorem Aue:FnI Tryz.prog 109:=⟨⟨_,Tryz.func109,by kernel_rfl,by kernel_rfl⟩⟩
theorem Auh:FnI Tryz.prog 45:=⟨⟨_,Tryz.func45,by kernel_rfl,by kernel_rfl⟩⟩
theorem Sy:FI Tryz.prog 40 1 3:=⟨⟨_,_,2,Tryz.underlying40,rfl,rfl,by kernel_rfl,by decide⟩⟩
theorem Qq:TI Tryz.prog 34 true 2:=⟨⟨_,Tryz.underlying34,rfl⟩,by kernel_rfl⟩
theorem N0:FI Tryz.prog 34 0 0:=⟨⟨_,_,1,Tryz.underlying34,rfl,rfl,by kernel_rfl,by decide⟩⟩
theorem Aaj:TI Tryz.prog 29 false 1:=⟨⟨_,Tryz.underlying29,rfl⟩,by kernel_rfl⟩
theorem Qd:SI Tryz.prog 29 139 8:=⟨Tryz.underlying29,by kernel_rfl,by decide⟩
theorem X6:FI Tryz.prog 34 1 1:=⟨⟨_,_,1,Tryz.underlying34,rfl,rfl,by kernel_rfl,by decide⟩⟩
theorem Ab5:TI Tryz.prog 32 true 1:=⟨⟨_,Tryz.underlying32,rfl⟩,by kernel_rfl⟩
theorem U6:FI Tryz.prog 32 0 0:=⟨⟨_,_,1,Tryz.underlying32,rfl,rfl,by kernel_rfl,by decide⟩⟩
theorem Aj2:TI Tryz.prog 30 false 1:=⟨⟨_,Tryz.underlying30,rfl⟩,by kernel_rfl⟩
theorem Aa6:SI Tryz.prog 30 142 4:=⟨Tryz.underlying30,by kernel_rfl,by decide⟩
theorem Aa0:TI Tryz.prog 142 true 4:=⟨⟨_,Tryz.underlying142,rfl⟩,by kernel_rfl⟩
theorem Aka:ZI Tryz.prog 142 ([Ii6 0,Znl,Znl,.b false]):=Qz (by kernel_rfl)
theorem Ale:(Tryz.prog.info? 142).map (·.size)=some 4:=by kernel_rfl
theorem Acj:FI Tryz.prog 142 0 0:=⟨⟨_,_,1,Tryz.underlying142,rfl,rfl,by kernel_rfl,by decide⟩⟩
theorem Xf:FI Tryz.prog 142 1 1:=⟨⟨_,_,3,Tryz.underlying142,rfl,rfl,by kernel_rfl,by decide⟩⟩
theorem Azr:FnI Tryz.prog 71:=⟨⟨_,Tryz.func71,by kernel_rfl,by kernel_rfl⟩⟩
theorem ti5:TI Tryz.prog 5 false 1:=⟨⟨_,Tryz.underlying5,rfl⟩,by kernel_rfl⟩
theorem Azx:FnI Tryz.prog 72:=⟨⟨_,Tryz.func72,by kernel_rfl,by kernel_rfl⟩⟩
theorem Avk:FnI Tryz.prog 184:=⟨⟨_,Tryz.func184,by kernel_rfl,by kernel_rfl⟩⟩
instance:DecidableEq Cj:=fun a b=>decidable_of_iff (a.tx_=b.tx_∧a.lo_=b.lo_∧a.hi_=b.hi_∧a.open_=b.open_) (by cases a;cases b;simp)
theorem Aua:Aft Cj Tryz.prog 354 D2 [0,2,2,1]:=⟨⟨by kernel_rfl,by kernel_rfl,by kernel_rfl,by kernel_rfl⟩,fun _=>rfl,by decide,fun a b=>by cases a;cases b;simp [D2,Aty,Aw4,A07,A1g]⟩
theorem Avc:ZI Tryz.prog 354 ([Ii6 0,.s ByteArray.empty,.s ByteArray.empty,.b false]):=Qz (by kernel_rfl)
theorem Axy:PI Tryz.prog 354 [(0,1),(1,1),(2,1),(3,1)]:=Sa Tryz.underlying354 (by kernel_rfl) (by kernel_rfl)
theorem Ax8:(Tryz.prog.info? 354).map (·.size)=some 4:=by kernel_rfl
theorem Aw9:TI Tryz.prog 354 true 4:=⟨⟨_,Tryz.underlying354,rfl⟩,by kernel_rfl⟩
theorem Awh:FnI Tryz.prog 236:=⟨⟨_,Tryz.func236,by kernel_rfl,by kernel_rfl⟩⟩
theorem Av4:FnI Tryz.prog 185:=⟨⟨_,Tryz.func185,by kernel_rfl,by kernel_rfl⟩⟩
theorem Av7:FnI Tryz.prog 110:=⟨⟨_,Tryz.func110,by kernel_rfl,by kernel_rfl⟩⟩
theorem Jr:TI Tryz.prog 139 true 8:=⟨⟨_,Tryz.underlying139,rfl⟩,by kernel_rfl⟩
theorem S8:ZI Tryz.prog 139 (Zbb):=Qz (by kernel_rfl)
theorem Si:(Tryz.prog.info? 139).map (·.size)=some 8:=by kernel_rfl
theorem Tm:FI Tryz.prog 139 0 0:=⟨⟨_,_,1,Tryz.underlying139,rfl,rfl,by kernel_rfl,by decide⟩⟩
theorem Vp:FI Tryz.prog 139 1 1:=⟨⟨_,_,1,Tryz.underlying139,rfl,rfl,by kernel_rfl,by decide⟩⟩
theorem O6:FI Tryz.prog 139 3 3:=⟨⟨_,_,1,Tryz.underlying139,rfl,rfl,by kernel_rfl,by decide⟩⟩
theorem Qo:FI Tryz.prog 139 2 2:=⟨⟨_,_,1,Tryz.underlying139,rfl,rfl,by kernel_rfl,by decide⟩⟩
theorem T4:FI Tryz.prog 139 7 7:=⟨⟨_,_,1,Tryz.underlying139,rfl,rfl,by kernel_rfl,by decide⟩⟩
theorem Aws:FnI Tryz.prog 186:=⟨⟨_,Tryz.func186,by kernel_rfl,by kernel_rfl⟩⟩
theorem Age:FI Tryz.prog 139 6 6:=⟨⟨_,_,1,Tryz.underlying139,rfl,rfl,by kernel_rfl,by decide⟩⟩
theorem Av1:FnI Tryz.prog 111:=⟨⟨_,Tryz.func111,by kernel_rfl,by kernel_rfl⟩⟩
theorem Azf:FnI Tryz.prog 112:=⟨⟨_,Tryz.func112,by kernel_rfl,by kernel_rfl⟩⟩
theorem ei3:EI Tryz.prog 3 1 8 [Ii6 0]:=S7 (by kernel_rfl) (by decide)
theorem Alw:NI Tryz.prog 225:=⟨.inl ⟨_,Tryz.underlying225⟩⟩
theorem Awo:FnI Tryz.prog 114:=⟨⟨_,Tryz.func114,by kernel_rfl,by kernel_rfl⟩⟩
theorem Aor:ZI Tryz.prog 32 ([Znl]):=Qz (by kernel_rfl)
theorem Asv:SI Tryz.prog 225 3 1:=⟨Tryz.underlying225,by kernel_rfl,by decide⟩
theorem Avg:FnI Tryz.prog 197:=⟨⟨_,Tryz.func197,by kernel_rfl,by kernel_rfl⟩⟩
theorem Atk:FnI Tryz.prog 237:=⟨⟨_,Tryz.func237,by kernel_rfl,by kernel_rfl⟩⟩
theorem Anj:EI Tryz.prog 142 4 64 [Ii6 0,Znl,Znl,.b false]:=S7 (by kernel_rfl) (by decide)
theorem Az1:NI Tryz.prog 30:=⟨.inl ⟨_,Tryz.underlying30⟩⟩
theorem Avy:PI Tryz.prog 32 [(0,1)]:=Sa Tryz.underlying32 (by kernel_rfl) (by kernel_rfl)
theorem Arb:(Tryz.prog.info? 32).map (·.size)=some 1:=by kernel_rfl
theorem Aye:FnI Tryz.prog 187:=⟨⟨_,Tryz.func187,by kernel_rfl,by kernel_rfl⟩⟩
theorem Av3:FnI Tryz.prog 113:=⟨⟨_,Tryz.func113,by kernel_rfl,by kernel_rfl⟩⟩
theorem Au5:FT Tryz.prog 32 0 0 30:=⟨⟨_,_,Tryz.underlying32,rfl,rfl,rfl⟩⟩
theorem Awz:FnI Tryz.prog 46:=⟨⟨_,Tryz.func46,by kernel_rfl,by kernel_rfl⟩⟩
theorem Ty:FI Tryz.prog 40 2 5:=⟨⟨_,_,1,Tryz.underlying40,rfl,rfl,by kernel_rfl,by decide⟩⟩
theorem Oj:TI Tryz.prog 37 true 1:=⟨⟨_,Tryz.underlying37,rfl⟩,by kernel_rfl⟩
theorem U4:FI Tryz.prog 37 0 0:=⟨⟨_,_,1,Tryz.underlying37,rfl,rfl,by kernel_rfl,by decide⟩⟩
theorem Akv:TI Tryz.prog 35 false 1:=⟨⟨_,Tryz.underlying35,rfl⟩,by kernel_rfl⟩
theorem Abp:SI Tryz.prog 35 145 4:=⟨Tryz.underlying35,by kernel_rfl,by decide⟩
theorem Abx:TI Tryz.prog 145 true 4:=⟨⟨_,Tryz.underlying145,rfl⟩,by kernel_rfl⟩
theorem Vz:ZI Tryz.prog 145 ([Ii6 0,Ii6 0,Ii6 0,Ii6 0]):=Qz (by kernel_rfl)
theorem Aao:(Tryz.prog.info? 145).map (·.size)=some 4:=by kernel_rfl
theorem Vv:FI Tryz.prog 145 2 2:=⟨⟨_,_,1,Tryz.underlying145,rfl,rfl,by kernel_rfl,by decide⟩⟩
theorem Zz:FI Tryz.prog 145 0 0:=⟨⟨_,_,1,Tryz.underlying145,rfl,rfl,by kernel_rfl,by decide⟩⟩
theorem Va:FI Tryz.prog 145 1 1:=⟨⟨_,_,1,Tryz.underlying145,rfl,rfl,by kernel_rfl,by decide⟩⟩
theorem Ajg:FnI Tryz.prog 130:=⟨⟨_,Tryz.func130,by kernel_rfl,by kernel_rfl⟩⟩
theorem Agu:FI Tryz.prog 145 3 3:=⟨⟨_,_,1,Tryz.underlying145,rfl,rfl,by kernel_rfl,by decide⟩⟩
theorem Awm:FnI Tryz.prog 188:=⟨⟨_,Tryz.func188,by kernel_rfl,by kernel_rfl⟩⟩
theorem Ayt:FnI Tryz.prog 115:=⟨⟨_,Tryz.func115,by kernel_rfl,by kernel_rfl⟩⟩
theorem Aqc:FnI Tryz.prog 116:=⟨⟨_,Tryz.func116,by kernel_rfl,by kernel_rfl⟩⟩
theorem Avj:FnI Tryz.prog 47:=⟨⟨_,Tryz.func47,by kernel_rfl,by kernel_rfl⟩⟩
theorem Ti:FI Tryz.prog 40 4 7:=⟨⟨_,_,1,Tryz.underlying40,rfl,rfl,by kernel_rfl,by decide⟩⟩
theorem Rc:FI Tryz.prog 40 3 6:=⟨⟨_,_,1,Tryz.underlying40,rfl,rfl,by kernel_rfl,by decide⟩⟩
theorem Ail:TI Tryz.prog 38 false 1:=⟨⟨_,Tryz.underlying38,rfl⟩,by kernel_rfl⟩
theorem Y4:SI Tryz.prog 38 88 6:=⟨Tryz.underlying38,by kernel_rfl,by decide⟩
theorem Wc:TI Tryz.prog 88 true 6:=⟨⟨_,Tryz.underlying88,rfl⟩,by kernel_rfl⟩
theorem Aag:ZI Tryz.prog 88 ([Ii6 0,Ii6 0,Ii6 0,Ii6 0,.b false,Znl]):=Qz (by kernel_rfl)
theorem Aah:(Tryz.prog.info? 88).map (·.size)=some 6:=by kernel_rfl
theorem Ry:FI Tryz.prog 88 0 0:=⟨⟨_,_,1,Tryz.underlying88,rfl,rfl,by kernel_rfl,by decide⟩⟩
theorem Axf:FnI Tryz.prog 48:=⟨⟨_,Tryz.func48,by kernel_rfl,by kernel_rfl⟩⟩
theorem Atd:FnI Tryz.prog 132:=⟨⟨_,Tryz.func132,by kernel_rfl,by kernel_rfl⟩⟩
theorem Awc:PI Tryz.prog 139 [(0,1),(1,1),(2,1),(3,1),(4,1),(5,1),(6,1),(7,1)]:=Sa Tryz.underlying139 (by kernel_rfl) (by kernel_rfl)
theorem Ayw:FnI Tryz.prog 189:=⟨⟨_,Tryz.func189,by kernel_rfl,by kernel_rfl⟩⟩
theorem Ahw:FI Tryz.prog 88 3 3:=⟨⟨_,_,1,Tryz.underlying88,rfl,rfl,by kernel_rfl,by decide⟩⟩
theorem Ane:FI Tryz.prog 88 4 4:=⟨⟨_,_,1,Tryz.underlying88,rfl,rfl,by kernel_rfl,by decide⟩⟩
theorem Ye:FI Tryz.prog 88 5 5:=⟨⟨_,_,1,Tryz.underlying88,rfl,rfl,by kernel_rfl,by decide⟩⟩
theorem Axq:FnI Tryz.prog 117:=⟨⟨_,Tryz.func117,by kernel_rfl,by kernel_rfl⟩⟩
theorem Afd:FI Tryz.prog 88 1 1:=⟨⟨_,_,1,Tryz.underlying88,rfl,rfl,by kernel_rfl,by decide⟩⟩
theorem A04:FnI Tryz.prog 49:=⟨⟨_,Tryz.func49,by kernel_rfl,by kernel_rfl⟩⟩
theorem Aub:FnI Tryz.prog 16:=⟨⟨_,Tryz.func16,by kernel_rfl,by kernel_rfl⟩⟩
theorem Iq:(Tryz.prog.info? 40).map (·.size)=some 8:=by kernel_rfl
theorem Aw2:PI Tryz.prog 88 [(0,1),(1,1),(2,1),(3,1),(4,1),(5,1)]:=Sa Tryz.underlying88 (by kernel_rfl) (by kernel_rfl)
theorem Az2:FnI Tryz.prog 56:=⟨⟨_,Tryz.func56,by kernel_rfl,by kernel_rfl⟩⟩
theorem Aip:FI Tryz.prog 88 2 2:=⟨⟨_,_,1,Tryz.underlying88,rfl,rfl,by kernel_rfl,by decide⟩⟩
theorem As3:EI Tryz.prog 88 6 64 [Ii6 0,Ii6 0,Ii6 0,Ii6 0,.b false,Znl]:=S7 (by kernel_rfl) (by decide)
theorem Azh:NI Tryz.prog 38:=⟨.inl ⟨_,Tryz.underlying38⟩⟩
theorem Az5:(Tryz.prog.info? 38).map (·.size)=some 1:=by kernel_rfl
theorem Auv:FnI Tryz.prog 128:=⟨⟨_,Tryz.func128,by kernel_rfl,by kernel_rfl⟩⟩
theorem Wy:ZI Tryz.prog 34 ([Znl,Znl]):=Qz (by kernel_rfl)
theorem Asq:FnI Tryz.prog 194:=⟨⟨_,Tryz.func194,by kernel_rfl,by kernel_rfl⟩⟩
theorem Xw:(Tryz.prog.info? 34).map (·.size)=some 2:=by kernel_rfl
theorem Ahh:EI Tryz.prog 139 8 64 Zbb:=S7 (by kernel_rfl) (by decide)
theorem Azk:NI Tryz.prog 29:=⟨.inl ⟨_,Tryz.underlying29⟩⟩
theorem Ac2:PI Tryz.prog 34 [(0,1),(1,1)]:=Sa Tryz.underlying34 (by kernel_rfl) (by kernel_rfl)
theorem Auu:FnI Tryz.prog 195:=⟨⟨_,Tryz.func195,by kernel_rfl,by kernel_rfl⟩⟩
theorem Ay1:FnI Tryz.prog 129:=⟨⟨_,Tryz.func129,by kernel_rfl,by kernel_rfl⟩⟩
theorem V2:ZI Tryz.prog 37 ([Znl]):=Qz (by kernel_rfl)
theorem Abr:PI Tryz.prog 37 [(0,1)]:=Sa Tryz.underlying37 (by kernel_rfl) (by kernel_rfl)
theorem S9:(Tryz.prog.info? 37).map (·.size)=some 1:=by kernel_rfl
theorem Agv:PI Tryz.prog 145 [(0,1),(1,1),(2,1),(3,1)]:=Sa Tryz.underlying145 (by kernel_rfl) (by kernel_rfl)
theorem Awg:FnI Tryz.prog 74:=⟨⟨_,Tryz.func74,by kernel_rfl,by kernel_rfl⟩⟩
theorem Aks:EI Tryz.prog 145 4 32 [Ii6 0,Ii6 0,Ii6 0,Ii6 0]:=S7 (by kernel_rfl) (by decide)
theorem Ayk:NI Tryz.prog 35:=⟨.inl ⟨_,Tryz.underlying35⟩⟩
theorem Axi:FnI Tryz.prog 249:=⟨⟨_,Tryz.func249,by kernel_rfl,by kernel_rfl⟩⟩
theorem Ayu:FnI Tryz.prog 196:=⟨⟨_,Tryz.func196,by kernel_rfl,by kernel_rfl⟩⟩
theorem Aj1:FnI Tryz.prog 131:=⟨⟨_,Tryz.func131,by kernel_rfl,by kernel_rfl⟩⟩
theorem Az0:FnI Tryz.prog 73:=⟨⟨_,Tryz.func73,by kernel_rfl,by kernel_rfl⟩⟩
theorem Atz:FnI Tryz.prog 57:=⟨⟨_,Tryz.func57,by kernel_rfl,by kernel_rfl⟩⟩
theorem A0d:FnI Tryz.prog 58:=⟨⟨_,Tryz.func58,by kernel_rfl,by kernel_rfl⟩⟩
theorem A00:EI Tryz.prog 29 1 24 [Znl]:=S7 (by kernel_rfl) (by decide)
theorem Aqe:SI Tryz.prog 312 29 1:=⟨Tryz.underlying312,by kernel_rfl,by decide⟩
theorem Axl:FnI Tryz.prog 198:=⟨⟨_,Tryz.func198,by kernel_rfl,by kernel_rfl⟩⟩
theorem Azl:FnI Tryz.prog 133:=⟨⟨_,Tryz.func133,by kernel_rfl,by kernel_rfl⟩⟩
theorem A03:FnI Tryz.prog 59:=⟨⟨_,Tryz.func59,by kernel_rfl,by kernel_rfl⟩⟩
theorem A08:EI Tryz.prog 38 1 24 [Znl]:=S7 (by kernel_rfl) (by decide)
theorem Aow:SI Tryz.prog 246 38 1:=⟨Tryz.underlying246,by kernel_rfl,by decide⟩
theorem Axg:FnI Tryz.prog 134:=⟨⟨_,Tryz.func134,by kernel_rfl,by kernel_rfl⟩⟩
theorem A0t:FnI Tryz.prog 60:=⟨⟨_,Tryz.func60,by kernel_rfl,by kernel_rfl⟩⟩
theorem Awv:FnI Tryz.prog 23:=⟨⟨_,Tryz.func23,by kernel_rfl,by kernel_rfl⟩⟩
theorem ei5:EI Tryz.prog 5 1 1 [.i .u8 0]:=S7 (by kernel_rfl) (by decide)
theorem At5:FnI Tryz.prog 55:=⟨⟨_,Tryz.func55,by kernel_rfl,by kernel_rfl⟩⟩
theorem Atw:FnI Tryz.prog 61:=⟨⟨_,Tryz.func61,by kernel_rfl,by kernel_rfl⟩⟩
theorem Arx:FnI Tryz.prog 135:=⟨⟨_,Tryz.func135,by kernel_rfl,by kernel_rfl⟩⟩
theorem Aww:PI Tryz.prog 99 [(0,1),(1,1),(2,1)]:=Sa Tryz.underlying99 (by kernel_rfl) (by kernel_rfl)
theorem A1b:FnI Tryz.prog 63:=⟨⟨_,Tryz.func63,by kernel_rfl,by kernel_rfl⟩⟩
theorem Azp:ZI Tryz.prog 58 ([Znl,Znl,.b false]):=Qz (by kernel_rfl)
theorem Ayl:FnI Tryz.prog 206:=⟨⟨_,Tryz.func206,by kernel_rfl,by kernel_rfl⟩⟩
theorem A0r:NI Tryz.prog 56:=⟨.inl ⟨_,Tryz.underlying56⟩⟩
theorem Azb:FnI Tryz.prog 137:=⟨⟨_,Tryz.func137,by kernel_rfl,by kernel_rfl⟩⟩
theorem A0w:PI Tryz.prog 58 [(0,1),(1,1),(2,1)]:=Sa Tryz.underlying58 (by kernel_rfl) (by kernel_rfl)
theorem A0a:FnI Tryz.prog 65:=⟨⟨_,Tryz.func65,by kernel_rfl,by kernel_rfl⟩⟩
theorem Ayx:PI Tryz.prog 142 [(0,1),(1,3)]:=Sa Tryz.underlying142 (by kernel_rfl) (by kernel_rfl)
theorem zv3:(Tryz.prog.info? 3).bind (·.zero)=some (.int .i64 0):=by kernel_rfl
theorem A1d:EI Tryz.prog 30 1 24 [Znl]:=S7 (by kernel_rfl) (by decide)
theorem Aol:SI Tryz.prog 396 30 1:=⟨Tryz.underlying396,by kernel_rfl,by decide⟩
theorem Axm:FnI Tryz.prog 268:=⟨⟨_,Tryz.func268,by kernel_rfl,by kernel_rfl⟩⟩
theorem Axv:FnI Tryz.prog 250:=⟨⟨_,Tryz.func250,by kernel_rfl,by kernel_rfl⟩⟩
theorem Aym:FnI Tryz.prog 199:=⟨⟨_,Tryz.func199,by kernel_rfl,by kernel_rfl⟩⟩
theorem Au1:FnI Tryz.prog 200:=⟨⟨_,Tryz.func200,by kernel_rfl,by kernel_rfl⟩⟩
theorem Auc:FnI Tryz.prog 251:=⟨⟨_,Tryz.func251,by kernel_rfl,by kernel_rfl⟩⟩
theorem Arv:FnI Tryz.prog 201:=⟨⟨_,Tryz.func201,by kernel_rfl,by kernel_rfl⟩⟩
theorem Ayv:FnI Tryz.prog 202:=⟨⟨_,Tryz.func202,by kernel_rfl,by kernel_rfl⟩⟩
theorem Aus:ZI Tryz.prog 320 ([Nfu,Nfu]):=Qz (by kernel_rfl)
theorem Ax9:PI Tryz.prog 320 [(0,1),(1,1)]:=Sa Tryz.underlying320 (by kernel_rfl) (by kernel_rfl)
theorem Axu:(Tryz.prog.info? 320).map (·.size)=some 2:=by kernel_rfl
theorem Ay7:TI Tryz.prog 320 true 2:=⟨⟨_,Tryz.underlying320,rfl⟩,by kernel_rfl⟩
theorem Avr:FnI Tryz.prog 203:=⟨⟨_,Tryz.func203,by kernel_rfl,by kernel_rfl⟩⟩
theorem Aro:FI Tryz.prog 320 0 0:=⟨⟨_,_,1,Tryz.underlying320,rfl,rfl,by kernel_rfl,by decide⟩⟩
theorem Avx:TI Tryz.prog 318 false 1:=⟨⟨_,Tryz.underlying318,rfl⟩,by kernel_rfl⟩
theorem Amt:FI Tryz.prog 139 5 5:=⟨⟨_,_,1,Tryz.underlying139,rfl,rfl,by kernel_rfl,by decide⟩⟩
theorem Axh:FnI Tryz.prog 252:=⟨⟨_,Tryz.func252,by kernel_rfl,by kernel_rfl⟩⟩
theorem Atq:FI Tryz.prog 320 1 1:=⟨⟨_,_,1,Tryz.underlying320,rfl,rfl,by kernel_rfl,by decide⟩⟩
theorem Ang:FI Tryz.prog 139 4 4:=⟨⟨_,_,1,Tryz.underlying139,rfl,rfl,by kernel_rfl,by decide⟩⟩
theorem Axx:FnI Tryz.prog 253:=⟨⟨_,Tryz.func253,by kernel_rfl,by kernel_rfl⟩⟩
theorem Avu:FnI Tryz.prog 204:=⟨⟨_,Tryz.func204,by kernel_rfl,by kernel_rfl⟩⟩
theorem Aru:FnI Tryz.prog 205:=⟨⟨_,Tryz.func205,by kernel_rfl,by kernel_rfl⟩⟩
theorem Azd:FnI Tryz.prog 136:=⟨⟨_,Tryz.func136,by kernel_rfl,by kernel_rfl⟩⟩
theorem Azv:FnI Tryz.prog 64:=⟨⟨_,Tryz.func64,by kernel_rfl,by kernel_rfl⟩⟩
theorem Awa:FnI Tryz.prog 148:=⟨⟨_,Tryz.func148,by kernel_rfl,by kernel_rfl⟩⟩
theorem Auy:FnI Tryz.prog 147:=⟨⟨_,Tryz.func147,by kernel_rfl,by kernel_rfl⟩⟩
theorem Aw0:FnI Tryz.prog 69:=⟨⟨_,Tryz.func69,by kernel_rfl,by kernel_rfl⟩⟩
theorem Awp:FnI Tryz.prog 218:=⟨⟨_,Tryz.func218,by kernel_rfl,by kernel_rfl⟩⟩
theorem Av6:PI Tryz.prog 136 [(0,1),(1,1),(2,1)]:=Sa Tryz.underlying136 (by kernel_rfl) (by kernel_rfl)
theorem Aza:FnI Tryz.prog 149:=⟨⟨_,Tryz.func149,by kernel_rfl,by kernel_rfl⟩⟩
theorem Az3:FnI Tryz.prog 70:=⟨⟨_,Tryz.func70,by kernel_rfl,by kernel_rfl⟩⟩
theorem A0g:FnI Tryz.prog 28:=⟨⟨_,Tryz.func28,by kernel_rfl,by kernel_rfl⟩⟩
theorem Auo:FnI Tryz.prog 24:=⟨⟨_,Tryz.func24,by kernel_rfl,by kernel_rfl⟩⟩
theorem Atn:ZI Tryz.prog 86 ([Znl]):=Qz (by kernel_rfl)
theorem Au7:PI Tryz.prog 86 [(0,1)]:=Sa Tryz.underlying86 (by kernel_rfl) (by kernel_rfl)
theorem Axb:EI Tryz.prog 99 3 56 [Znl,Znl,.b false]:=S7 (by kernel_rfl) (by decide)
theorem A01:NI Tryz.prog 84:=⟨.inl ⟨_,Tryz.underlying84⟩⟩
theorem Ay3:FnI Tryz.prog 126:=⟨⟨_,Tryz.func126,by kernel_rfl,by kernel_rfl⟩⟩
theorem Axt:FnI Tryz.prog 127:=⟨⟨_,Tryz.func127,by kernel_rfl,by kernel_rfl⟩⟩
theorem A1f:FnI Tryz.prog 53:=⟨⟨_,Tryz.func53,by kernel_rfl,by kernel_rfl⟩⟩
theorem Azo:FnI Tryz.prog 138:=⟨⟨_,Tryz.func138,by kernel_rfl,by kernel_rfl⟩⟩
theorem A1e:FnI Tryz.prog 66:=⟨⟨_,Tryz.func66,by kernel_rfl,by kernel_rfl⟩⟩
theorem Axw:FnI Tryz.prog 139:=⟨⟨_,Tryz.func139,by kernel_rfl,by kernel_rfl⟩⟩
theorem A0c:FnI Tryz.prog 67:=⟨⟨_,Tryz.func67,by kernel_rfl,by kernel_rfl⟩⟩
theorem Ays:FnI Tryz.prog 25:=⟨⟨_,Tryz.func25,by kernel_rfl,by kernel_rfl⟩⟩
theorem Aw8:FnI Tryz.prog 141:=⟨⟨_,Tryz.func141,by kernel_rfl,by kernel_rfl⟩⟩
theorem Axz:FnI Tryz.prog 209:=⟨⟨_,Tryz.func209,by kernel_rfl,by kernel_rfl⟩⟩
theorem Ayf:FnI Tryz.prog 210:=⟨⟨_,Tryz.func210,by kernel_rfl,by kernel_rfl⟩⟩
theorem Axe:FnI Tryz.prog 269:=⟨⟨_,Tryz.func269,by kernel_rfl,by kernel_rfl⟩⟩
theorem Ayn:FnI Tryz.prog 270:=⟨⟨_,Tryz.func270,by kernel_rfl,by kernel_rfl⟩⟩
theorem Avh:FnI Tryz.prog 254:=⟨⟨_,Tryz.func254,by kernel_rfl,by kernel_rfl⟩⟩
theorem Axd:FnI Tryz.prog 212:=⟨⟨_,Tryz.func212,by kernel_rfl,by kernel_rfl⟩⟩
theorem Ax0:FnI Tryz.prog 211:=⟨⟨_,Tryz.func211,by kernel_rfl,by kernel_rfl⟩⟩
theorem Ay6:(Tryz.prog.info? 25).map (·.size)=some 1:=by kernel_rfl
theorem Axp:FnI Tryz.prog 140:=⟨⟨_,Tryz.func140,by kernel_rfl,by kernel_rfl⟩⟩
theorem Aze:FnI Tryz.prog 142:=⟨⟨_,Tryz.func142,by kernel_rfl,by kernel_rfl⟩⟩
theorem Afu:ZI Tryz.prog 28 ([Znl,Znl,Ii6 0]):=Qz (by kernel_rfl)
theorem Ara:PI Tryz.prog 28 [(0,1),(1,1),(2,1)]:=Sa Tryz.underlying28 (by kernel_rfl) (by kernel_rfl)
theorem Ahp:(Tryz.prog.info? 28).map (·.size)=some 3:=by kernel_rfl
theorem Ayq:FnI Tryz.prog 213:=⟨⟨_,Tryz.func213,by kernel_rfl,by kernel_rfl⟩⟩
theorem Aun:FnI Tryz.prog 214:=⟨⟨_,Tryz.func214,by kernel_rfl,by kernel_rfl⟩⟩
theorem Ag8:EI Tryz.prog 134 1 24 [Znl]:=S7 (by kernel_rfl) (by decide)
theorem Ayy:NI Tryz.prog 26:=⟨.inl ⟨_,Tryz.underlying26⟩⟩
theorem At8:FnI Tryz.prog 215:=⟨⟨_,Tryz.func215,by kernel_rfl,by kernel_rfl⟩⟩
theorem Ayh:FnI Tryz.prog 255:=⟨⟨_,Tryz.func255,by kernel_rfl,by kernel_rfl⟩⟩
theorem Ajs:PI Tryz.prog 134 [(0,1)]:=Sa Tryz.underlying134 (by kernel_rfl) (by kernel_rfl)
theorem Ax6:FnI Tryz.prog 256:=⟨⟨_,Tryz.func256,by kernel_rfl,by kernel_rfl⟩⟩
theorem Azq:(Tryz.prog.info? 26).map (·.size)=some 1:=by kernel_rfl
theorem Anp:EI Tryz.prog 136 3 40 [Ii6 0,Znl,.b false]:=S7 (by kernel_rfl) (by decide)
theorem Ayj:EI Tryz.prog 132 1 24 [Znl]:=S7 (by kernel_rfl) (by decide)
theorem Aob:SI Tryz.prog 408 132 1:=⟨Tryz.underlying408,by kernel_rfl,by decide⟩
theorem Ayi:FnI Tryz.prog 281:=⟨⟨_,Tryz.func281,by kernel_rfl,by kernel_rfl⟩⟩
theorem Auk:NI Tryz.prog 132:=⟨.inl ⟨_,Tryz.underlying132⟩⟩
theorem Ay4:FnI Tryz.prog 275:=⟨⟨_,Tryz.func275,by kernel_rfl,by kernel_rfl⟩⟩
theorem Axn:FnI Tryz.prog 257:=⟨⟨_,Tryz.func257,by kernel_rfl,by kernel_rfl⟩⟩
theorem Azj:FnI Tryz.prog 216:=⟨⟨_,Tryz.func216,by kernel_rfl,by kernel_rfl⟩⟩
theorem Aw6:FnI Tryz.prog 143:=⟨⟨_,Tryz.func143,by kernel_rfl,by kernel_rfl⟩⟩
theorem Avd:FnI Tryz.prog 146:=⟨⟨_,Tryz.func146,by kernel_rfl,by kernel_rfl⟩⟩
theorem Ayb:FnI Tryz.prog 144:=⟨⟨_,Tryz.func144,by kernel_rfl,by kernel_rfl⟩⟩
theorem Azn:FnI Tryz.prog 258:=⟨⟨_,Tryz.func258,by kernel_rfl,by kernel_rfl⟩⟩
theorem Axs:FnI Tryz.prog 217:=⟨⟨_,Tryz.func217,by kernel_rfl,by kernel_rfl⟩⟩
theorem Axo:FnI Tryz.prog 145:=⟨⟨_,Tryz.func145,by kernel_rfl,by kernel_rfl⟩⟩
theorem A0h:FnI Tryz.prog 68:=⟨⟨_,Tryz.func68,by kernel_rfl,by kernel_rfl⟩⟩
theorem Ay0:FnI Tryz.prog 27:=⟨⟨_,Tryz.func27,by kernel_rfl,by kernel_rfl⟩⟩
theorem fn9:FnI Tryz.prog 9:=⟨⟨_,Tryz.func9,by kernel_rfl,by kernel_rfl⟩⟩
theorem Aa1:SI Tryz.prog 22 60 11:=⟨Tryz.underlying22,by kernel_rfl,by decide⟩
theorem Aqn:FI Tryz.prog 60 8 8:=⟨⟨_,_,3,Tryz.underlying60,rfl,rfl,by kernel_rfl,by decide⟩⟩
theorem A0s:FnI Tryz.prog 29:=⟨⟨_,Tryz.func29,by kernel_rfl,by kernel_rfl⟩⟩
theorem Anb:FI Tryz.prog 60 6 6:=⟨⟨_,_,1,Tryz.underlying60,rfl,rfl,by kernel_rfl,by decide⟩⟩
theorem Aqv:FI Tryz.prog 60 7 7:=⟨⟨_,_,1,Tryz.underlying60,rfl,rfl,by kernel_rfl,by decide⟩⟩
theorem Azy:FnI Tryz.prog 10:=⟨⟨_,Tryz.func10,by kernel_rfl,by kernel_rfl⟩⟩
theorem Adn:FI Tryz.prog 60 2 2:=⟨⟨_,_,1,Tryz.underlying60,rfl,rfl,by kernel_rfl,by decide⟩⟩
theorem Ard:SI Tryz.prog 73 79 4:=⟨Tryz.underlying73,by kernel_rfl,by decide⟩
theorem Ari:FI Tryz.prog 60 1 1:=⟨⟨_,_,1,Tryz.underlying60,rfl,rfl,by kernel_rfl,by decide⟩⟩
theorem Ayo:TI Tryz.prog 60 true 11:=⟨⟨_,Tryz.underlying60,rfl⟩,by kernel_rfl⟩
theorem Aj8:ZI Tryz.prog 64 ([Ii6 0,.b false,Znl,Znl,Ii6 0]):=Qz (by kernel_rfl)
theorem Sc:FI Tryz.prog 60 0 0:=⟨⟨_,_,1,Tryz.underlying60,rfl,rfl,by kernel_rfl,by decide⟩⟩
theorem Are:FI Tryz.prog 60 3 3:=⟨⟨_,_,1,Tryz.underlying60,rfl,rfl,by kernel_rfl,by decide⟩⟩
theorem Aut:FI Tryz.prog 60 4 4:=⟨⟨_,_,1,Tryz.underlying60,rfl,rfl,by kernel_rfl,by decide⟩⟩
theorem Aq6:PI Tryz.prog 64 [(0,1),(1,1),(2,1),(3,1),(4,1)]:=Sa Tryz.underlying64 (by kernel_rfl) (by kernel_rfl)
theorem An6:(Tryz.prog.info? 64).map (·.size)=some 5:=by kernel_rfl
theorem Aon:TI Tryz.prog 64 true 5:=⟨⟨_,Tryz.underlying64,rfl⟩,by kernel_rfl⟩
theorem A0y:FnI Tryz.prog 54:=⟨⟨_,Tryz.func54,by kernel_rfl,by kernel_rfl⟩⟩
theorem A0k:FnI Tryz.prog 52:=⟨⟨_,Tryz.func52,by kernel_rfl,by kernel_rfl⟩⟩
theorem A0b:FnI Tryz.prog 30:=⟨⟨_,Tryz.func30,by kernel_rfl,by kernel_rfl⟩⟩
theorem Awb:FI Tryz.prog 60 5 5:=⟨⟨_,_,1,Tryz.underlying60,rfl,rfl,by kernel_rfl,by decide⟩⟩
theorem A05:FnI Tryz.prog 26:=⟨⟨_,Tryz.func26,by kernel_rfl,by kernel_rfl⟩⟩
theorem A0e:FnI Tryz.prog 31:=⟨⟨_,Tryz.func31,by kernel_rfl,by kernel_rfl⟩⟩
theorem A0z:EI Tryz.prog 35 1 24 [Znl]:=S7 (by kernel_rfl) (by decide)
theorem Aqb:SI Tryz.prog 337 35 1:=⟨Tryz.underlying337,by kernel_rfl,by decide⟩
theorem Axk:FnI Tryz.prog 220:=⟨⟨_,Tryz.func220,by kernel_rfl,by kernel_rfl⟩⟩
theorem Ayc:FnI Tryz.prog 151:=⟨⟨_,Tryz.func151,by kernel_rfl,by kernel_rfl⟩⟩
theorem A02:FnI Tryz.prog 75:=⟨⟨_,Tryz.func75,by kernel_rfl,by kernel_rfl⟩⟩
theorem Az8:FnI Tryz.prog 32:=⟨⟨_,Tryz.func32,by kernel_rfl,by kernel_rfl⟩⟩
theorem Az6:FnI Tryz.prog 11:=⟨⟨_,Tryz.func11,by kernel_rfl,by kernel_rfl⟩⟩
theorem Aew:FI Tryz.prog 64 4 4:=⟨⟨_,_,1,Tryz.underlying64,rfl,rfl,by kernel_rfl,by decide⟩⟩
theorem Awt:TI Tryz.prog 62 false 1:=⟨⟨_,Tryz.underlying62,rfl⟩,by kernel_rfl⟩
theorem Aq5:FI Tryz.prog 64 0 0:=⟨⟨_,_,1,Tryz.underlying64,rfl,rfl,by kernel_rfl,by decide⟩⟩
theorem A09:ZI Tryz.prog 79 ([Ii6 0,Ii6 0,Ii6 0,Znl]):=Qz (by kernel_rfl)
theorem A0x:PI Tryz.prog 79 [(0,1),(1,1),(2,1),(3,1)]:=Sa Tryz.underlying79 (by kernel_rfl) (by kernel_rfl)
theorem Awy:EI Tryz.prog 79 4 48 [Ii6 0,Ii6 0,Ii6 0,Znl]:=S7 (by kernel_rfl) (by decide)
theorem Azz:NI Tryz.prog 73:=⟨.inl ⟨_,Tryz.underlying73⟩⟩
theorem Arf:FI Tryz.prog 79 3 3:=⟨⟨_,_,1,Tryz.underlying79,rfl,rfl,by kernel_rfl,by decide⟩⟩
theorem A0j:TI Tryz.prog 77 false 1:=⟨⟨_,Tryz.underlying77,rfl⟩,by kernel_rfl⟩
theorem Ax4:ZI Tryz.prog 152 ([Ii6 0,Ii6 0,Ii6 0,Ii6 0,.b false,.b false,Znl,Znl,Znl,Znl,.b false,Ii6 0,.b false,Znl,Znl,Ii6 0]):=Qz (by kernel_rfl)
theorem Axc:PI Tryz.prog 152 [(0,11),(11,5)]:=Sa Tryz.underlying152 (by kernel_rfl) (by kernel_rfl)
theorem Awe:EI Tryz.prog 152 16 216 [Ii6 0,Ii6 0,Ii6 0,Ii6 0,.b false,.b false,Znl,Znl,Znl,Znl,.b false,Ii6 0,.b false,Znl,Znl,Ii6 0]:=S7 (by kernel_rfl) (by decide)
theorem A0p:NI Tryz.prog 77:=⟨.inl ⟨_,Tryz.underlying77⟩⟩
theorem A1a:(Tryz.prog.info? 77).map (·.size)=some 1:=by kernel_rfl
theorem Av9:FI Tryz.prog 79 2 2:=⟨⟨_,_,1,Tryz.underlying79,rfl,rfl,by kernel_rfl,by decide⟩⟩
theorem A0o:TI Tryz.prog 79 true 4:=⟨⟨_,Tryz.underlying79,rfl⟩,by kernel_rfl⟩
theorem A0i:FnI Tryz.prog 17:=⟨⟨_,Tryz.func17,by kernel_rfl,by kernel_rfl⟩⟩
theorem A1c:FnI Tryz.prog 22:=⟨⟨_,Tryz.func22,by kernel_rfl,by kernel_rfl⟩⟩
def Ez (a0:List UInt8):Option Bool :=
 if (decide (1≤(a0.length:Int))) then (some (decide ((a0.length:Int)≤16))) else (some false)
theorem N8 {a0:List UInt8} {r:Bool} (h:Ez a0=some r):Br Tryz.prog 62 [.one (.sl a0.length (a0.flatMap eU8))] (·=.s (.one (.b r))):=by
 unfold Ez at h
 refine A2 Tryz.func62 R (nt:=11) R (Nbl R) ?_
 intro w0 S0
 refine csr (rm 1 R (Ak (csr (rm 1 R (sv R (Au Xb R) (sv R (Hn R R) (rm 1 R (ssI 6 h R (fun h=>?_) (fun h=>?_)))))))))
 ·refine rm 1 R (son R R R (sv R (Au Xb R) (son R R R (sv R (Dl R R) (rm 2 R (Ak (Bs ?_)))))))
  obtain rfl:=SJ h
  exact dnT R R R R
 ·refine rm 5 R (Ak (Bs ?_))
  obtain rfl:=SJ h
  exact dnT R R R R
def C0 (a0:A6):Option Bool :=
 (Ez a0.Key).bind fun v1=>if v1 then (if (decide ((a0.Val.length:Int)≤32)) then (if a0.Del then (some (!(decide (0<(a0.Val.length:Int))))) else (some true)) else (some false)) else (some false)
theorem Od {a0:A6} {r:Bool} (h:C0 a0=some r):Br Tryz.prog 124 [.agg (EL.el a0)] (·=.s (.one (.b r))):=by
 unfold C0 at h
 refine A2 Tryz.func124 R (nt:=23) R (Nbl R) ?_
 intro w0 S0
 refine csr (F2 R R (rm 1 R (Ak (csr (sv R (Ac S4 R) (sv R (l1 N2 R R R) ?_))))))
 obtain ⟨v1,hv1,h⟩:=Ae h
 refine A8 R Awu (Aa R Af) (An R) (N8 hv1) (rm 1 R (ssI 6 h R (fun h=>?_) (fun h=>?_)))
 ·refine son R R R (sv R (Ac Zo R) (son R R R (sv R (l1 N2 R R R) (son R R R (sv R (Au Xb R) (son R R R (sv R (Dl R R) (rm 2 R (ssI 12 h R (fun h=>?_) (fun h=>?_))))))))))
  ·refine son R R R (sv R (Ac Adm R) (son R R R (sv R (l1 ti4 R R R) (rm 1 R (ssI 15 h R (fun h=>?_) (fun h=>?_))))))
   ·refine son R R R (sv R (Ac Zo R) (son R R R (sv R (l1 N2 R R R) (son R R R (sv R (Au Xb R) (son R R R (sv R (C9 R R) (rm 1 R (son R R R (sv R (B1 R) (rm 2 R (Ak (Bs ?_)))))))))))))
    obtain rfl:=SJ h
    exact dnT R R R R
   ·refine rm 5 R (son R R R (sv R (B1 R) (rm 2 R (Ak (Bs ?_)))))
    obtain rfl:=SJ h
    exact dnT R R R R
  ·refine rm 3 R (B8 R R R (B8 R R R (B8 R R R (B8 R R R (rm 4 R (Ak (Bs ?_)))))))
   obtain rfl:=SJ h
   exact dnT R R R R
 ·refine rm 9 R (B8 R R R (B8 R R R (B8 R R R (B8 R R R (rm 4 R (Ak (Bs ?_)))))))
  obtain rfl:=SJ h
  exact dnT R R R R
def Mn (b1:(List (List UInt8))):Option (List (List UInt8)) :=
 some b1
def Ga (a0:B3) (s2:Int × (List (List UInt8))):Option (LB (Int × (List (List UInt8))) ((List (List UInt8)))) :=
 if (decide (s2.1<(a0.L.length:Int))) then ((idx a0.L s2.1).bind fun u3=>if (s2.2.length+[u3.Key].length)*24≤140737488355328 then (some (.cont ((wI (s2.1+1)),(s2.2++[u3.Key])))) else none) else (some (.brk s2.2))
def E4 (a0:B3):Option (List (List UInt8)) :=
 (Cw (Ga a0) fuel (0,([]:List (List UInt8)))).bind fun e5=>Mn e5
theorem P2 {a0:B3} {r:(List (List UInt8))} (h:E4 a0=some r):Br Tryz.prog 125 [.agg [.sl a0.L.length (a0.L.flatMap Ba)]] (·=.s (.one (.sl r.length (r.flatMap (eL eU8))))):=by
 unfold E4 at h
 refine A2 Tryz.func125 R (nt:=20) R (Nbl R) ?_
 intro w0 S0
 refine csr (F2 R R (rm 1 R (Ak (csr (rm 1 R (Ak (Bn (csr (fl Wo Ao4 R R R R R R (sv R (Au Ac4 R) (rm 1 R (Ak ?_))))))))))))
 refine Dh 56 1 3 (by decide) R ?_
 refine cj ((List (List UInt8))) (fun b1=>[(3,.s (.one (.ls 1 b1.length)))]) (fun b1=>[.box [.sl a0.L.length (a0.L.flatMap Ba)],.arr 56 1 0 (b1.flatMap (eL eU8))]) (fun b1=>Mn b1=some r) (fun _=>R) (fun b1 h=>?_) ?_
 ·unfold Mn at h
  refine csr (rm 2 R (Ak (Bs ?_)))
  obtain rfl:=SJ h
  refine ⟨Or.inr R,_,_,_,(Ad (rt R) Aj),(by (repeat' first | exact H6.nil _ | apply H6.cons | apply Hy.one | apply Hy.agg | exact C7.nil | exact C7.ls _ _ _ _ _ _ R (Aw (f:=(eL eU8)) (fun _=>R) _).symm | exact C7.id _ R | exact Cs.nil _ | apply Cs.cons)),?_⟩
  rfl
 ·skip
  refine Bq ?_
  obtain ⟨x2,hx2,ho2⟩:=Ae h
  refine lpo (G:=Nat × (Int × (List (List UInt8)))) (fun g=>[(3,.s (.one (.ls 1 g.2.2.length))),(7,.s (.one (.sl a0.L.length (a0.L.flatMap Ba)))),(8,.s (.one (Ii6 (a0.L.length:Int)))),(9,.s (.one (Ii6 g.2.1)))]) (fun g=>[.box [.sl a0.L.length (a0.L.flatMap Ba)],.arr 56 1 0 (g.2.2.flatMap (eL eU8))]) (fun g=>Cw (Ga a0) g.1 g.2=some x2) (fun g=>g.1) (fuel,(0,([]:List (List UInt8)))) hx2 ⟨R,R,R,R,trivial⟩ [] R (fun _=>R) ?_
  clear hx2 h
  rintro ⟨n2,s2⟩ h
  obtain ⟨n2,y2,rfl,h,hk2⟩:=Cy h
  unfold Ga at h
  refine csr (sv R (Bt R R) (Ak (Bn (ccI h R (fun h=>?_) (fun h=>?_)))))
  ·refine Bf (Ab (Bn (Bq (Bn (Ap ?_)))))
   obtain ⟨u3,hu3,h⟩:=Ae h
   refine sv R (Cb (f:=Ba) Ac4 (fun _=>R) R R R R hu3) ?_
   refine sv R (Bz (ys:=[.sl u3.Key.length (u3.Key.flatMap eU8),.sl u3.Val.length (u3.Val.flatMap eU8),.b u3.Del]) Afp R (.cp _) R R) (Bo R Aj9 (sst Amh R R R R R (Ak (Ap (rm 1 R (sv R (Ac S4 R) (sv R (l1 N2 R R R) ?_)))))))
   refine Fo R Tryz.underlying25 Afq R R (zJ.1 R) (by decide) ?_
   refine Pq [.box [.sl a0.L.length (a0.L.flatMap Ba)],.arr 56 1 0 (s2.2.flatMap (eL eU8)),.box (EL.el u3),.arr 56 1 0 ([u3.Key].flatMap (eL eU8))] R ?_
   obtain ⟨hb4,h⟩:=Cr h
   refine Ub (f:=(eL eU8)) (xs:=s2.2) (us:=[u3.Key]) R Tryz.underlying25 Afq Asb (fun _=>R) R R (.one _ _ _ _ (.ls _ _ _ _ _ _ R (Aw (f:=(eL eU8)) (fun _=>R) [u3.Key]).symm)) R R R (.sl _ _ _ (Aw (f:=(eL eU8)) (fun _=>R) _)) R R hb4 (by decide) ?_
   refine rm 1 R (Ki (Ao (Ab (Ap (sv R (Bm R R) (rm 1 R (Ak ?_)))))))
   obtain rfl:=SJ h
   exact ⟨(n2,((wI (s2.1+1)),(s2.2++[u3.Key]))),_,hk2,⟨R,R,R,R,trivial⟩,R,zH _⟩
  ·refine Dd (Ar (Ar (Bj (Ab ?_))))
   obtain rfl:=SJ h
   obtain rfl:_=x2:=hk2
   exact ⟨s2.2,_,ho2,⟨R,trivial⟩,R⟩
def N5 (a0:List UInt8) (a1:List UInt8):Option Int :=
 some (Gc a0 a1)
theorem Ut {a0:List UInt8} {a1:List UInt8} {r:Int} (h:N5 a0 a1=some r):Br Tryz.prog 219 [.one (.sl a0.length (a0.flatMap eU8)),.one (.sl a1.length (a1.flatMap eU8))] (·=.s (.one (Ii6 r))):=by
 unfold N5 at h
 refine A2 Tryz.func219 R (nt:=8) R (Nbl R) ?_
 intro w0 S0
 refine csr (rm 1 R (Ak (csr (rm 2 R (sv R (Ape (a:=a0) (b:=a1) At6 R R R R R R) (rm 1 R (Ak (Bs ?_))))))))
 obtain rfl:=SJ h
 exact dnT R R R R
def I3 (a0:List UInt8) (a1:List UInt8):Option Int :=
 (N5 a0 a1).bind fun v1=>some v1
theorem Mj {a0:List UInt8} {a1:List UInt8} {r:Int} (h:I3 a0 a1=some r):Br Tryz.prog 150 [.one (.sl a0.length (a0.flatMap eU8)),.one (.sl a1.length (a1.flatMap eU8))] (·=.s (.one (Ii6 r))):=by
 unfold I3 at h
 refine A2 Tryz.func150 R (nt:=8) R (Nbl R) ?_
 intro w0 S0
 refine csr (rm 1 R (Ak (csr (rm 1 R (sv R (A4 R) ?_)))))
 obtain ⟨v1,hv1,h⟩:=Ae h
 refine A8 R Ax7 (Aa R (Aa R Af)) (An R) (Ut hv1) (rm 1 R (Ak (Bs ?_)))
 obtain rfl:=SJ h
 exact dnT R R R R
def Nv (b1:Unit):Option Bool :=
 some true
def Co (a0:List (List UInt8)) (s2:Int):Option (LR (Int) (Unit) (Bool)) :=
 if (decide (s2<(a0.length:Int))) then ((idx a0 (wI (s2-1))).bind fun u3=>(idx a0 s2).bind fun u4=>(I3 u3 u4).bind fun v5=>if (decide (0≤v5)) then (some (.ret false)) else (some (.cont (wI (s2+1))))) else (some (.brk ()))
def Cm (a0:List (List UInt8)):Option Bool :=
 (Lj (Co a0) fuel 1).bind fun x=>match x with | .inl r=>some r | .inr e6=>Nv e6
theorem Lz {a0:List (List UInt8)} {r:Bool} (h:Cm a0=some r):Br Tryz.prog 181 [.one (.sl a0.length (a0.flatMap (eL eU8)))] (·=.s (.one (.b r))):=by
 unfold Cm at h
 refine A2 Tryz.func181 R (nt:=21) R (Nbl R) ?_
 intro w0 S0
 refine csr (rm 1 R (Ak (Bn (csr (rm 1 R (Ak (cj (Unit) (fun b1=>[]) (fun b1=>[]) (fun b1=>Nv b1=some r) (fun _=>R) (fun b1 h=>?_) ?_)))))))
 ·unfold Nv at h
  refine csr (rm 1 R (Ak (Bs ?_)))
  obtain rfl:=SJ h
  exact dnT R R R R
 ·skip
  refine Bq ?_
  obtain ⟨x2,hx2,ho2⟩:=Ae h
  refine lpo (G:=Nat × (Int)) (fun g=>[(0,.s (.one (.sl a0.length (a0.flatMap (eL eU8))))),(3,.s (.one (Ii6 g.2)))]) (fun g=>[]) (fun g=>Lj (Co a0) g.1 g.2=some x2) (fun g=>g.1) (fuel,1) hx2 ⟨R,R,trivial⟩ [] R (fun _=>R) ?_
  clear hx2 h
  rintro ⟨n2,s2⟩ h
  obtain ⟨n2,y2,rfl,h,hk2⟩:=Fh h
  unfold Co at h
  refine Bn (csr (rm 2 R (sv R (Au S6 R) (sv R (Bt R R) (Ak (ccI h R (fun h=>?_) (fun h=>?_)))))))
  ·refine Bf (Ab (Bn (Bq (Bn ?_))))
   refine Aav mixed (by kernel_rfl) ?_
   refine dv R (A4 R) (dv R (A4 R) (dv R (Nt R R) ?_))
   obtain ⟨u3,hu3,h⟩:=Ae h
   refine dv R (Cb (f:=(eL eU8)) S6 (fun _=>R) R R R R hu3) ?_
   refine dv R (B6 N2 R (.cp _) R) (dv R (A4 R) (dv R (A4 R) ?_))
   obtain ⟨u4,hu4,h⟩:=Ae h
   refine dv R (Cb (f:=(eL eU8)) S6 (fun _=>R) R R R R hu4) ?_
   refine dv R (B6 N2 R (.cp _) R) ?_
   obtain ⟨v5,hv5,h⟩:=Ae h
   refine dd R (Db Alo (Aa R (Aa R Af)) R (Mj hv5)) (dv R (Hn R R) (Ad3 (Ab (ccI h R (fun h=>?_) (fun h=>?_)))))
   ·refine csr (rm 1 R (Ak (Bs (A0 (Ag (Ag (A0 (Ag ?_))))))))
    obtain rfl:=SJ h
    obtain rfl:Sum.inl _=x2:=hk2
    replace ho2:some _=some _:=ho2
    obtain rfl:=zD ho2
    exact dnT R R R R
   ·refine Bf (Ao (Ab (Ap (rm 1 R (sv R (Bm R R) (rm 1 R (Ak ?_)))))))
    obtain rfl:=SJ h
    exact ⟨(n2,(wI (s2+1))),_,hk2,⟨R,R,trivial⟩,R,zH _⟩
  ·refine Dd (Ar (Ar (Bj (Ab ?_))))
   obtain rfl:=SJ h
   obtain rfl:_=x2:=hk2
   exact ⟨(),_,ho2,trivial,R⟩
def Hr (a0:B3) (b1:Unit):Option Bool :=
 if (decide ((a0.L.length:Int)≤16)) then ((E4 a0).bind fun v2=>(Cm v2).bind fun v3=>some v3) else (some false)
def F1 (a0:B3) (s4:Int):Option (LR (Int) (Unit) (Bool)) :=
 if (decide (s4<(a0.L.length:Int))) then ((idx a0.L s4).bind fun u5=>(C0 u5).bind fun v6=>if (!v6) then (some (.ret false)) else (some (.cont (wI (s4+1))))) else (some (.brk ()))
def Fg (a0:B3):Option Bool :=
 (Lj (F1 a0) fuel 0).bind fun x=>match x with | .inl r=>some r | .inr e7=>Hr a0 e7
theorem Oe {a0:B3} {r:Bool} (h:Fg a0=some r):Br Tryz.prog 119 [.agg [.sl a0.L.length (a0.L.flatMap Ba)]] (·=.s (.one (.b r))):=by
 unfold Fg at h
 refine A2 Tryz.func119 R (nt:=25) R (Nbl R) ?_
 intro w0 S0
 refine csr (F2 R R (rm 1 R (Ak (Bn (csr (fl Wo Ao4 R R R R R R (sv R (Au Ac4 R) (rm 1 R (Ak (cj (Unit) (fun b1=>[(1,.s (.one (.lp 0 0)))]) (fun b1=>[.box [.sl a0.L.length (a0.L.flatMap Ba)]]) (fun b1=>Hr a0 b1=some r) (fun _=>R) (fun b1 h=>?_) ?_))))))))))
 ·unfold Hr at h
  refine csr (fl Wo Ao4 R R R R R R (sv R (Au Ac4 R) (sv R (Dl R R) (rm 1 R (ssI 20 h R (fun h=>?_) (fun h=>?_))))))
  ·refine son R R R (ld Ag2 R R R R (son R R R ?_))
   obtain ⟨v2,hv2,h⟩:=Ae h
   refine A8 R Auz (Aa R Af) (An R) (P2 hv2) (son R R R ?_)
   obtain ⟨v3,hv3,h⟩:=Ae h
   refine A8 R Apw (Aa R Af) (An R) (Lz hv3) (rm 2 R (Ak (Bs ?_)))
   obtain rfl:=SJ h
   exact dnT R R R R
  ·refine rm 5 R (Ak (Bs ?_))
   obtain rfl:=SJ h
   exact dnT R R R R
 ·skip
  refine Bq ?_
  obtain ⟨x4,hx4,ho4⟩:=Ae h
  refine lpo (G:=Nat × (Int)) (fun g=>[(1,.s (.one (.lp 0 0))),(6,.s (.one (.sl a0.L.length (a0.L.flatMap Ba)))),(7,.s (.one (Ii6 (a0.L.length:Int)))),(8,.s (.one (Ii6 g.2)))]) (fun g=>[.box [.sl a0.L.length (a0.L.flatMap Ba)]]) (fun g=>Lj (F1 a0) g.1 g.2=some x4) (fun g=>g.1) (fuel,0) hx4 ⟨R,R,R,R,trivial⟩ [] R (fun _=>R) ?_
  clear hx4 h
  rintro ⟨n4,s4⟩ h
  obtain ⟨n4,y4,rfl,h,hk4⟩:=Fh h
  unfold F1 at h
  refine csr (sv R (Bt R R) (Ak (Bn (ccI h R (fun h=>?_) (fun h=>?_)))))
  ·refine Bf (Ab (Bn (Bq (Bn (Ap ?_)))))
   obtain ⟨u5,hu5,h⟩:=Ae h
   refine sv R (Cb (f:=Ba) Ac4 (fun _=>R) R R R R hu5) ?_
   refine sv R (Bz (ys:=[.sl u5.Key.length (u5.Key.flatMap eU8),.sl u5.Val.length (u5.Val.flatMap eU8),.b u5.Del]) Afp R (.cp _) R R) (Bo R Aj9 (sst Amh R R R R R (Ak (csr (sv R (lo Afp R R R) ?_)))))
   obtain ⟨v6,hv6,h⟩:=Ae h
   refine A8 R Awq (Aa R Af) (An R) (Od hv6) (sv R (B1 R) (Ak (ccI h R (fun h=>?_) (fun h=>?_))))
   ·refine csr (rm 1 R (Ak (Bs (A0 (Ag (Ag (A0 (Ag ?_))))))))
    obtain rfl:=SJ h
    obtain rfl:Sum.inl _=x4:=hk4
    replace ho4:some _=some _:=ho4
    obtain rfl:=zD ho4
    exact dnT R R R R
   ·refine Bf (Ao (Ab (Ap (sv R (Bm R R) (rm 1 R (Ak ?_))))))
    obtain rfl:=SJ h
    exact ⟨(n4,(wI (s4+1))),_,hk4,⟨R,R,R,R,trivial⟩,R,zH _⟩
  ·refine Dd (Ar (Ar (Bj (Ab ?_))))
   obtain rfl:=SJ h
   obtain rfl:_=x4:=hk4
   exact ⟨(),_,ho4,⟨R,trivial⟩,R⟩
def D1 (b1:(List (List UInt8))):Option Bool :=
 (Cm b1).bind fun v2=>some v2
def Dx (a0:List B7) (s3:Int × (List (List UInt8))):Option (LB (Int × (List (List UInt8))) ((List (List UInt8)))) :=
 if (decide (s3.1<(a0.length:Int))) then ((idx a0 s3.1).bind fun u4=>if (s3.2.length+[u4.Key].length)*24≤140737488355328 then (some (.cont ((wI (s3.1+1)),(s3.2++[u4.Key])))) else none) else (some (.brk s3.2))
def Fs (a0:List B7):Option Bool :=
 (Cw (Dx a0) fuel (0,([]:List (List UInt8)))).bind fun e6=>D1 e6
theorem Vw {a0:List B7} {r:Bool} (h:Fs a0=some r):Br Tryz.prog 120 [.one (.sl a0.length (a0.flatMap Cg))] (·=.s (.one (.b r))):=by
 unfold Fs at h
 refine A2 Tryz.func120 R (nt:=20) R (Nbl R) ?_
 intro w0 S0
 refine csr (rm 1 R (Ak (csr (rm 1 R (Ak (Bn (csr (rm 1 R (sv R (Au Asi R) (rm 1 R (Ak ?_)))))))))))
 refine Dh 56 1 3 (by decide) R ?_
 refine cj ((List (List UInt8))) (fun b1=>[(3,.s (.one (.ls 0 b1.length)))]) (fun b1=>[.arr 56 1 0 (b1.flatMap (eL eU8))]) (fun b1=>D1 b1=some r) (fun _=>R) (fun b1 h=>?_) ?_
 ·unfold D1 at h
  refine csr (sv R (A4 R) ?_)
  refine Ahv 18 R (by (repeat' first | exact H6.nil _ | apply H6.cons | apply Hy.one | apply Hy.agg | exact C7.nil | exact C7.ls _ _ _ _ _ _ R (Aw (f:=(eL eU8)) (fun _=>R) _).symm | exact C7.id _ R | exact Cs.nil _ | apply Cs.cons)) ?_
  obtain ⟨v2,hv2,h⟩:=Ae h
  refine A8 R Apw (Aa R Af) (An R) (Lz hv2) (rm 1 R (Ak (Bs ?_)))
  obtain rfl:=SJ h
  exact dnT R R R R
 ·skip
  refine Bq ?_
  obtain ⟨x3,hx3,ho3⟩:=Ae h
  refine lpo (G:=Nat × (Int × (List (List UInt8)))) (fun g=>[(3,.s (.one (.ls 0 g.2.2.length))),(6,.s (.one (.sl a0.length (a0.flatMap Cg)))),(7,.s (.one (Ii6 (a0.length:Int)))),(8,.s (.one (Ii6 g.2.1)))]) (fun g=>[.arr 56 1 0 (g.2.2.flatMap (eL eU8))]) (fun g=>Cw (Dx a0) g.1 g.2=some x3) (fun g=>g.1) (fuel,(0,([]:List (List UInt8)))) hx3 ⟨R,R,R,R,trivial⟩ [] R (fun _=>R) ?_
  clear hx3 h
  rintro ⟨n3,s3⟩ h
  obtain ⟨n3,y3,rfl,h,hk3⟩:=Cy h
  unfold Dx at h
  refine csr (sv R (Bt R R) (Ak (Bn (ccI h R (fun h=>?_) (fun h=>?_)))))
  ·refine Bf (Ab (Bn (Bq (Bn (Ap ?_)))))
   obtain ⟨u4,hu4,h⟩:=Ae h
   refine sv R (Cb (f:=Cg) Asi (fun _=>R) R R R R hu4) ?_
   refine sv R (Bz (ys:=[.sl u4.Key.length (u4.Key.flatMap eU8),.sl u4.Val.length (u4.Val.flatMap eU8)]) Aof R (.cp _) R R) (Bo R Anr (sst Arp R R R R R (Ak (Ap (rm 1 R (sv R (Ac Agk R) (sv R (l1 N2 R R R) ?_)))))))
   refine Fo R Tryz.underlying25 Afq R R (zJ.1 R) (by decide) ?_
   refine Pq [.arr 56 1 0 (s3.2.flatMap (eL eU8)),.box (EL.el u4),.arr 56 1 0 ([u4.Key].flatMap (eL eU8))] R ?_
   obtain ⟨hb5,h⟩:=Cr h
   refine Ub (f:=(eL eU8)) (xs:=s3.2) (us:=[u4.Key]) R Tryz.underlying25 Afq Asb (fun _=>R) R R (.one _ _ _ _ (.ls _ _ _ _ _ _ R (Aw (f:=(eL eU8)) (fun _=>R) [u4.Key]).symm)) R R R (.sl _ _ _ (Aw (f:=(eL eU8)) (fun _=>R) _)) R R hb5 (by decide) ?_
   refine rm 1 R (Ki (Ao (Ab (Ap (sv R (Bm R R) (rm 1 R (Ak ?_)))))))
   obtain rfl:=SJ h
   exact ⟨(n3,((wI (s3.1+1)),(s3.2++[u4.Key]))),_,hk3,⟨R,R,R,R,trivial⟩,R,zH _⟩
  ·refine Dd (Ar (Ar (Bj (Ab ?_))))
   obtain rfl:=SJ h
   obtain rfl:_=x3:=hk3
   exact ⟨s3.2,_,ho3,⟨R,trivial⟩,R⟩
def G4 (a0:Bg) (a1:List UInt8):Option Bool :=
 (I3 a1 a0.Lo).bind fun v1=>if (decide (0≤v1)) then (if a0.Open then (some true) else ((I3 a1 a0.Hi).bind fun v2=>some (decide (v2<0)))) else (some false)
theorem Mp {a0:Bg} {a1:List UInt8} {r:Bool} (h:G4 a0 a1=some r):Br Tryz.prog 121 [.agg (EL.el a0),.one (.sl a1.length (a1.flatMap eU8))] (·=.s (.one (.b r))):=by
 unfold G4 at h
 refine A2 Tryz.func121 R (nt:=21) R (Nbl R) ?_
 intro w0 S0
 refine csr (F2 R R (rm 1 R (Ak (csr (rm 1 R (sv R (Ac Aa7 R) (sv R (l1 N2 R R R) ?_)))))))
 obtain ⟨v1,hv1,h⟩:=Ae h
 refine A8 R Alo (Aa R (Aa R Af)) (An R) (Mj hv1) (sv R (Hn R R) (rm 1 R (ssI 10 h R (fun h=>?_) (fun h=>?_))))
 ·refine son R R R (sv R (Ac Ai7 R) (son R R R (sv R (l1 ti4 R R R) (rm 1 R (ssI 13 h R (fun h=>?_) (fun h=>?_))))))
  ·refine rm 8 R (Ak (Bs ?_))
   obtain rfl:=SJ h
   exact dnT R R R R
  ·refine rm 1 R (son R R R (sv R (Ac Ya R) (son R R R (sv R (l1 N2 R R R) (son R R R ?_)))))
   obtain ⟨v2,hv2,h⟩:=Ae h
   refine A8 R Alo (Aa R (Aa R Af)) (An R) (Mj hv2) (son R R R (sv R (Bt R R) (rm 3 R (Ak (Bs ?_)))))
   obtain rfl:=SJ h
   exact dnT R R R R
 ·refine rm 3 R (B8 R R R (B8 R R R (B8 R R R (B8 R R R (B8 R R R (rm 3 R (Ak (Bs ?_))))))))
  obtain rfl:=SJ h
  exact dnT R R R R
def kvk (x:B7):List UInt8:=x.Key
def kB (x:B7):ByteArray:=⟨x.Key.toArray⟩
theorem Afa {t:List B7} {j:Nat} {k:List UInt8} (h:(t.map kB)[j]? = some ⟨k.toArray⟩):(t.map kvk)[j]? = some k:=by
 rw [zO] at h ⊢
 cases ht:t[j]? with
 | none=>rw [ht] at h;cases h
 | some x =>
  rw [ht] at h
  have h1:(⟨x.Key.toArray⟩:ByteArray)=⟨k.toArray⟩:=zD h
  have h2:x.Key.toArray=k.toArray:=congrArg ByteArray.data h1
  have h3:x.Key=k:=by have:=congrArg Array.toList h2;simpa using this
  rw [xC];exact congrArg some h3
theorem Aml {t:List B7} {k:List UInt8} (h:(⟨k.toArray⟩:ByteArray) ∉ t.map kB):k ∉ t.map kvk:=fun hk=>by
 obtain ⟨x,hx,rfl⟩:=yP.1 hk
 exact h (yP.2 ⟨x,hx,R⟩)
theorem Aq4 {t:List B7} {j:Nat} {x:B7} (h:(t.map kvk)[j]? = some (kvk x)):(t.set j x).map kB=t.map kB:=by
 rw [kI]
 apply xZ
 intro i
 rw [w7]
 by_cases hij:j=i
 ·subst hij
  rw [zO] at h ⊢
  cases ht:t[j]? with
  | none=>rw [ht] at h;cases h
  | some y =>
   rw [ht] at h
   have h2:y.Key=x.Key:=zD h
   have hlt:j<t.length:=(zC.1 ht).1
   rw [if_pos rfl,if_pos (by simpa using hlt),xC]
   show some (ByteArray.mk x.Key.toArray)=some (ByteArray.mk y.Key.toArray)
   rw [h2]
 ·rw [if_neg hij]
theorem Awr {W:World} {S:Cl} {a b:List UInt8} {va vb:Value} (h1:Rep W S (.sl a.length (a.flatMap eU8)) va) (h2:Rep W S (.sl b.length (b.flatMap eU8)) vb):(callFunc 259 #[va,vb]).run Tryz.prog W=.ok (.value (.int .i64 (Gc a b))) W:=by
 rw [← Amr] at h1 h2
 obtain ⟨fn,q1,q2,q3,q4,q5⟩:=At6.h
 have hrun:(Extern.BytealgCompare.compare #[va,vb]).run Tryz.prog W=.ok (.int .i64 (Gc a b)) W:=by
  change Sem.run Tryz.prog (do
   let p ← Extern.Bytes.bytesOf va
   let q ← Extern.Bytes.bytesOf vb
   pure (goInt (Extern.BytealgCompare.cmp p q))) W=_
  simp only [Sem.run_bind,Sl h1,Sl h2,Result.andThen_ok,Aqx,Sem.run_pure]
  rfl
 have hcall:=run_callFunc_extern (P:=Tryz.prog) q1 q2 q3 q4 q5 #[va,vb] W
 rw [hrun] at hcall
 simpa using hcall
theorem As1 {W:World} {S:Cl} {a b:List UInt8} {va vb:Value} (h1:Rep W S (.sl a.length (a.flatMap eU8)) va) (h2:Rep W S (.sl b.length (b.flatMap eU8)) vb):Calls Tryz.prog 219 #[va,vb] W fun e w'=>e=.returned (.int .i64 (Gc a b))∧w'=W:=by
 have hx:=Awr h1 h2
 generalize Gc a b=r at hx ⊢
 clear h1 h2
 go_enter Tryz.func219,Tryz.ntmps219
 go_wp2
 go_ret
 exact ⟨R,R⟩
theorem Ar7 {W:World} {S:Cl} {a b:List UInt8} {va vb:Value} (h1:Rep W S (.sl a.length (a.flatMap eU8)) va) (h2:Rep W S (.sl b.length (b.flatMap eU8)) vb):Calls Tryz.prog 150 #[va,vb] W fun e w'=>e=.returned (.int .i64 (Gc a b))∧w'=W:=by
 have hcon:=As1 h1 h2
 generalize Gc a b=r at hcon ⊢
 clear h1 h2
 go_enter Tryz.func150,Tryz.ntmps150
 go_wp2_with (go_at_call 219;refine hcon.mono ?_;rintro e w' ⟨rfl,rfl⟩)
 go_ret
 exact ⟨R,R⟩
set_option maxHeartbeats 1000000 in
theorem Auw {W:World} {S:Cl} {a b:List UInt8} {va vb ua ub:Value} (hS:∀ b i,S b i→b<W.heap.size) (h1:Rep W S (.sl a.length (a.flatMap eU8)) va) (h2:Rep W S (.sl b.length (b.flatMap eU8)) vb) (oc:ua.oneCell'=true) (od:ub.oneCell'=true) :
  Calls Tryz.prog 123 #[.agg #[va,ua],.agg #[vb,ub]] W fun e w'=>e=.returned (.int .i64 (Gc a b))∧∃ q os',w'=Go.Sort.grow (W.drewN q) os':=by
 have oa:=h1.oneCell
 have ob:=h2.oneCell
 have hcon:∀ o1 o2:Obj,Calls Tryz.prog 150 #[va,vb] ((W.alloc o1).alloc o2) fun e w'=>e=.returned (.int .i64 (Gc a b))∧w'=(W.alloc o1).alloc o2:=fun o1 o2=>by
  have k1:∀ b i,S b i→S b i∧((W.alloc o1).alloc o2).cell? ⟨b,i,none⟩=W.cell? ⟨b,i,none⟩:=fun b i hs =>
   ⟨hs,World.cell?_of_block (w:=W) ((Below.heap_alloc _ o2 b (by have:=hS b i hs;simp;omega)).trans (Below.heap_alloc W o1 b (hS b i hs)))⟩
  exact Ar7 (h1.mono k1) (h2.mono k1)
 generalize Gc a b=r at hcon ⊢
 clear h1 h2
 go_enter Tryz.func123,Tryz.ntmps123
 go_wp2_with (go_at_call 150;refine (hcon _ _).mono ?_;rintro e w' ⟨rfl,rfl⟩)
 go_ret
 exact ⟨rfl,0,_,by rw [Go.Sort.alloc_eq_grow,Go.Sort.alloc_eq_grow,Go.Sort.grow_grow];rfl⟩
def Abi:Go.Shelf.Ren:=⟨fun | 6=>122 | 15=>191 | 14=>190 | 28=>246 | 29=>247 | 20=>238 | 21=>239 | 22=>240 | 23=>241 | 24=>242 | 25=>243 | 26=>244 | 27=>245 | 46=>262 | 47=>263 | 48=>264 | 49=>265 | 50=>266 | 57=>277 | n=>n,fun | 22=>61 | 24=>157 | 25=>235 | 3=>3 | 39=>307 | 0=>0 | 53=>365 | 55=>367 | 4=>4 | 46=>359 | 45=>358 | 50=>177 | 5=>5 | 9=>9 | 66=>389 | 70=>393 | 76=>404 | 77=>405 | n=>n,fun | n=>n⟩
theorem Avm:Go.Proofs.SlLaysF0.n6 Tryz.prog Abi:={
 mixed:=by kernel_rfl,
 f6 :=⟨ "slices.SortFunc[[]godwit/api.KV,godwit/api.KV]", by decide, Tryz.func122.trans (congrArg some (by kernel_rfl))⟩,
 f14 :=⟨ "slices.pdqsortCmpFunc[godwit/api.KV]", by decide, Tryz.func190.trans (congrArg some (by kernel_rfl))⟩,
 f15:=Tryz.func191.trans (congrArg some (by kernel_rfl)),
 f20 :=⟨ "slices.insertionSortCmpFunc[godwit/api.KV]", by decide, Tryz.func238.trans (congrArg some (by kernel_rfl))⟩,
 f21 :=⟨ "slices.heapSortCmpFunc[godwit/api.KV]", by decide, Tryz.func239.trans (congrArg some (by kernel_rfl))⟩,
 f22 :=⟨ "slices.breakPatternsCmpFunc[godwit/api.KV]", by decide, Tryz.func240.trans (congrArg some (by kernel_rfl))⟩,
 f23 :=⟨ "slices.choosePivotCmpFunc[godwit/api.KV]", by decide, Tryz.func241.trans (congrArg some (by kernel_rfl))⟩,
 f24 :=⟨ "slices.reverseRangeCmpFunc[godwit/api.KV]", by decide, Tryz.func242.trans (congrArg some (by kernel_rfl))⟩,
 f25 :=⟨ "slices.partialInsertionSortCmpFunc[godwit/api.KV]", by decide, Tryz.func243.trans (congrArg some (by kernel_rfl))⟩,
 f26 :=⟨ "slices.partitionEqualCmpFunc[godwit/api.KV]", by decide, Tryz.func244.trans (congrArg some (by kernel_rfl))⟩,
 f27 :=⟨ "slices.partitionCmpFunc[godwit/api.KV]", by decide, Tryz.func245.trans (congrArg some (by kernel_rfl))⟩,
 f28:=Tryz.func246.trans (congrArg some (by kernel_rfl)),
 f29:=Tryz.func247.trans (congrArg some (by kernel_rfl)),
 f46 :=⟨ "slices.siftDownCmpFunc[godwit/api.KV]", by decide, Tryz.func262.trans (congrArg some (by kernel_rfl))⟩,
 f47:=Tryz.func263.trans (congrArg some (by kernel_rfl)),
 f48:=Tryz.func264.trans (congrArg some (by kernel_rfl)),
 f49 :=⟨ "slices.medianAdjacentCmpFunc[godwit/api.KV]", by decide, Tryz.func265.trans (congrArg some (by kernel_rfl))⟩,
 f50 :=⟨ "slices.medianCmpFunc[godwit/api.KV]", by decide, Tryz.func266.trans (congrArg some (by kernel_rfl))⟩,
 f57 :=⟨ "slices.order2CmpFunc[godwit/api.KV]", by decide, Tryz.func277.trans (congrArg some (by kernel_rfl))⟩,
 t0:=Tryz.underlying0,
 a0:=Tryz.isAgg0,
 z0:=Tryz.sizeOf0,
 v0:=Tryz.zeroValue0,
 t3:=Tryz.underlying3,
 a3:=Tryz.isAgg3,
 z3:=Tryz.sizeOf3,
 v3:=Tryz.zeroValue3,
 t4:=Tryz.underlying4,
 a4:=Tryz.isAgg4,
 z4:=Tryz.sizeOf4,
 v4:=Tryz.zeroValue4,
 t5:=Tryz.underlying5,
 a5:=Tryz.isAgg5,
 z5:=Tryz.sizeOf5,
 v5:=Tryz.zeroValue5,
 t9:=Tryz.underlying9,
 a9:=Tryz.isAgg9,
 z9:=Tryz.sizeOf9,
 v9:=Tryz.zeroValue9,
 t22:=Tryz.underlying61,
 a22:=Tryz.isAgg61,
 z22:=Tryz.sizeOf61,
 v22:=Tryz.zeroValue61,
 t25:=Tryz.underlying235,
 a25:=Tryz.isAgg235,
 z25:=Tryz.sizeOf235,
 v25:=Tryz.zeroValue235,
 t39:=Tryz.underlying307,
 a39:=Tryz.isAgg307,
 z39:=Tryz.sizeOf307,
 v39:=Tryz.zeroValue307,
 t45:=Tryz.underlying358,
 a45:=Tryz.isAgg358,
 z45:=Tryz.sizeOf358,
 v45:=Tryz.zeroValue358,
 t46:=Tryz.underlying359,
 a46:=Tryz.isAgg359,
 z46:=Tryz.sizeOf359,
 v46:=Tryz.zeroValue359,
 t50:=Tryz.underlying177,
 a50:=Tryz.isAgg177,
 z50:=Tryz.sizeOf177,
 v50:=Tryz.zeroValue177,
 t53:=Tryz.underlying365,
 a53:=Tryz.isAgg365,
 z53:=Tryz.sizeOf365,
 v53:=Tryz.zeroValue365,
 t55:=Tryz.underlying367,
 a55:=Tryz.isAgg367,
 z55:=Tryz.sizeOf367,
 v55:=Tryz.zeroValue367,
 t66:=Tryz.underlying389,
 a66:=Tryz.isAgg389,
 z66:=Tryz.sizeOf389,
 v66:=Tryz.zeroValue389,
 t70:=Tryz.underlying393,
 a70:=Tryz.isAgg393,
 z70:=Tryz.sizeOf393,
 v70:=Tryz.zeroValue393,
 t76:=Tryz.underlying404,
 a76:=Tryz.isAgg404,
 z76:=Tryz.sizeOf404,
 v76:=Tryz.zeroValue404,
 t77:=Tryz.underlying405,
 a77:=Tryz.isAgg405,
 z77:=Tryz.sizeOf405,
 v77:=Tryz.zeroValue405 }
theorem Amu {xs:List B7} (hn:xs.length≤1000000000000000000) (hd:O4 kvk xs):Dn Tryz.prog 122 [.arr 157 2 0 (xs.flatMap Cg)] [.one (.ls 0 xs.length),.one (.raw (.func (.func 123) #[] #[]))] (fun y m'=>y=.tup []∧m'=[.arr 157 2 0 ((Ab0 kvk xs).flatMap Cg)]) :=
 Aud (ρ:=Abi) (f:=Cg) (g:=123) Avm (fun a b=>Gc (kvk a) (kvk b)) (fun _=>rfl) (by decide) Tryz.isAgg157 Tryz.sizeOf157 A0q (enters_of Tryz.func123 (by kernel_rfl) rfl) (fun W S x y vx vy hS hx hy=>by
  obtain ⟨v0,u0,rfl⟩:∃ v0 u0,vx=[v0,u0]:=by
   match vx,hx.1 with
   | [a,b],_=>exact ⟨a,b,rfl⟩
  obtain ⟨v1,u1,rfl⟩:∃ v1 u1,vy=[v1,u1]:=by
   match vy,hy.1 with
   | [a,b],_=>exact ⟨a,b,rfl⟩
  exact Auw hS (hx.2 0 _ _ R R) (hy.2 0 _ _ R R) (hx.2 1 _ _ R R).oneCell (hy.2 1 _ _ R R).oneCell) hn (Akq hd)
def Z3 (a1:List B7) (a2:Bg) (s:Int × List B7):Option (LB (Int × List B7) (List B7)) :=
 if decide (s.1<(a1.length:Int)) then ((idx a1 s.1).bind fun u=>(G4 a2 u.Key).bind fun v=>some (.cont (wI (s.1+1),if v then Rw kvk s.2 u else s.2))) else some (.brk s.2)
def Zm (a0:B3) (a2:Bg) (s:Int × List B7):Option (LB (Int × List B7) (List B7)) :=
 if decide (s.1<(a0.L.length:Int)) then ((idx a0.L s.1).bind fun u=>if u.Del then some (.cont (wI (s.1+1),Ach kvk s.2 u.Key)) else (G4 a2 u.Key).bind fun v=>some (.cont (wI (s.1+1),if v then Rw kvk s.2 ⟨u.Key,u.Val⟩ else s.2))) else some (.brk s.2)
def Aic (a3:Int) (t:List B7):Option (List B7) :=
 if t.length*48≤140737488355328 then cut (Ab0 kvk t) 0 (if a3<((Ab0 kvk t).length:Int) then a3 else ((Ab0 kvk t).length:Int)) else none
def Ajc (a0:B3) (a2:Bg) (a3:Int) (t:List B7):Option (List B7):=(Cw (Zm a0 a2) fuel (0,t)).bind fun t2=>Aic a3 t2
def F6 (a0:B3) (a1:List B7) (a2:Bg) (a3:Int):Option (List B7) :=
 (Fg a0).bind fun v1=>if !v1 then some [] else (Fs a1).bind fun v2=>if !v2 then some [] else if decide (a3<1) then some [] else (Cw (Z3 a1 a2) fuel (0,[])).bind fun t1=>Ajc a0 a2 a3 t1
theorem Xs {a0:B3} {a1:List B7} {a2:Bg} {a3:Int} {r:List B7} (h:F6 a0 a1 a2 a3=some r) :
  Br Tryz.prog 52 [.agg [.sl a0.L.length (a0.L.flatMap Ba)],.one (.sl a1.length (a1.flatMap Cg)),.agg (EL.el a2),.one (Ii6 a3)] (·=.s (.one (.sl r.length (r.flatMap Cg)))):=by
 unfold F6 at h
 refine A2 Tryz.func52 R (nt:=91) R (Nbl R) ?_
 intro w0 S0
 refine csr (F2 R R (F2 R R (rm 1 R (Ak (Bn (csr (sv R (lo Ag2 R R R) ?_)))))))
 obtain ⟨v1,hv1,h⟩:=Ae h
 refine A8 R As7 (Aa R Af) (An R) (Oe hv1) (sv R (B1 R) (rm 1 R (Al9 20 R (fun hc=>?_) (fun hc=>?_))))
 ·replace h:=Ve hc h
  clear hc
  refine rm 8 R (Ak (Ck R (fun hc=>?_) (fun hc=>nomatch hc)))
  refine csr (rm 1 R (Ak (Bs (Ag ?_))))
  obtain rfl:=SJ h
  exact dn (Ad (rt R) Aj) (I8 R) R
 replace h:=Vh hc h
 clear hc
 refine rm 1 R (son R R R ?_)
 obtain ⟨v2,hv2,h⟩:=Ae h
 refine A8 R Ax5 (Aa R Af) (An R) (Vw hv2) (son R R R (sv R (B1 R) (rm 2 R (Al9 25 R (fun hc=>?_) (fun hc=>?_)))))
 ·replace h:=Ve hc h
  clear hc
  refine rm 3 R (Ak (Ck R (fun hc=>?_) (fun hc=>nomatch hc)))
  refine csr (rm 1 R (Ak (Bs (Ag ?_))))
  obtain rfl:=SJ h
  exact dn (Ad (rt R) Aj) (I8 R) R
 replace h:=Vh hc h
 clear hc
 refine rm 1 R (son R R R (sv R (Bt R R) (rm 1 R (Ak (Ck R (fun hc=>?_) (fun hc=>?_))))))
 ·replace h:=Ve hc h
  refine csr (rm 1 R (Ak (Bs (Ag ?_))))
  obtain rfl:=SJ h
  exact dn (Ad (rt R) Aj) (I8 R) R
 replace h:=Vh hc h
 clear hc
 refine Bf (Ab (csr (Aqh U2 R (fun g=>?_))))
 refine rm 1 R (Ak (Bn (csr (rm 1 R (sv R (Au Asi R) (rm 1 R (Ak (cj (List B7 × List B7) (fun _=>[(4,.s (.one (.lp 0 0))),(6,.s (.one (.lp 1 0))),(3,.s (.one (Ii6 a3))),(9,.s (.one (.raw (.map (some g)))))]) (fun b=>[.box [.sl a0.L.length (a0.L.flatMap Ba)],.box (EL.el a2),.obj g (Mo U2 ((b.2.map kB).map .string)) (b.2.map Cg)]) (fun b=>b.2.Perm b.1∧O4 kvk b.2∧Ajc a0 a2 a3 b.1=some r) (fun _=>R) (fun b h=>?_) ?_))))))))
 ·obtain ⟨t1,t1'⟩:=b
  obtain ⟨hp1,hd1,h⟩:=h
  dsimp only at hp1 hd1 h
  unfold Ajc at h
  refine Bn (csr (fl Wo Ao4 R R R R R R (sv R (Au Ac4 R) (rm 1 R (Ak (cj (List B7 × List B7) (fun _=>[(3,.s (.one (Ii6 a3))),(9,.s (.one (.raw (.map (some g)))))]) (fun b=>[.box [.sl a0.L.length (a0.L.flatMap Ba)],.box (EL.el a2),.obj g (Mo U2 ((b.2.map kB).map .string)) (b.2.map Cg)]) (fun b=>b.2.Perm b.1∧O4 kvk b.2∧Aic a3 b.1=some r) (fun _=>R) (fun b h=>?_) ?_))))))
  ·obtain ⟨t2,t2'⟩:=b
   obtain ⟨hp2,hd2,h⟩:=h
   dsimp only at hp2 hd2 h
   unfold Aic at h
   obtain ⟨hb2,h⟩:=Cr h
   have hb2':t2'.length*48≤140737488355328:=by rw [hp2.length_eq];exact hb2
   refine csr (rm 1 R (Ak (Bn (csr (rm 1 R (Amk (p:=2) R Tryz.underlying233 R R (fun es clock q hst hks hsz=>?_)))))))
   refine Ak ?_
   refine Dh 157 2 14 (by decide) R ?_
   have hes:es.size=t2'.length:=by rw [hsz,z6]
   obtain ⟨hs1,hs2,_⟩:=(Go.MapKept.stamped_iff es clock).1 hst
   refine cj (Array Nat × List B7) (fun b=>[(3,.s (.one (Ii6 a3))),(14,.s (.one (.ls 4 b.2.length)))]) (fun b=>[.box [.sl a0.L.length (a0.L.flatMap Ba)],.box (EL.el a2),.obj g (Ae5 U2 es clock) (t2'.map Cg),.obj q (Aku g clock b.1 clock) [],.arr 157 2 0 (b.2.flatMap Cg)]) (fun b=>b.2.Perm t2') (fun _=>R) (fun b hpo=>?_) ?_
   ·obtain ⟨seen,out⟩:=b
    dsimp only at hpo
    have hol:out.length=t2'.length:=hpo.length_eq
    have hdo:O4 kvk out:=(O4.perm hpo).2 hd2
    have he:Ab0 kvk out=Ab0 kvk t2:=Aju (hpo.trans hp2) hdo
    have hlen:(Ab0 kvk out).length=out.length:=(Mr out).length_eq
    have hlen2:out.length*2=((Ab0 kvk out).flatMap Cg).length:=by rw [← hlen];exact (Aw (f:=Cg) (fun _=>rfl) _).symm
    rw [← he,hlen] at h
    refine csr (sv R (A4 R) ?_)
    refine H7 (x':=.tup []) (M':=[.box [.sl a0.L.length (a0.L.flatMap Ba)],.box (EL.el a2),.obj g (Ae5 U2 es clock) (t2'.map Cg),.obj q (Aku g clock seen clock) [],.arr 157 2 0 ((Ab0 kvk out).flatMap Cg)]) [4] R Azc (.func _) (Aa R (Aa R Af)) (Amu (xs:=out) (by omega) hdo) R R (by decide) R R R ?_
    refine Ak (csr (rm 2 R (sv R (Hj Asi R R hlen2) (rm 1 R (sv R (Ahm R R) (Ahv 85 R (Hy.one _ _ _ _ (C7.ls _ _ _ _ _ _ R hlen2)) (sv R (Xl (f:=Cg) (lo:=0) (hi:=(if a3<(out.length:Int) then a3 else (out.length:Int))) Asi (fun _=>R) R R hlen.symm T9 (Qh R (Int.le_trans (T1 h).1.1 (T1 h).1.2.1)) h) ?_)))))))
    refine rm 1 R (Ak (Bs (⟨Or.inr R,_,_,_,(Ad (rt R) Aj),(An R),?_⟩)))
    rfl
   ·refine Bq ?_
    refine lpo (G:=Array Nat × List Nat) (fun b=>[(3,.s (.one (Ii6 a3))),(14,.s (.one (.ls 4 (b.2.filterMap (t2'[·]?)).length))),(74,.s (.one (.raw (.pointer (some ⟨q,0,none⟩)))))]) (fun b=>[.box [.sl a0.L.length (a0.L.flatMap Ba)],.box (EL.el a2),.obj g (Ae5 U2 es clock) (t2'.map Cg),.obj q (Aku g clock b.1 clock) [],.arr 157 2 0 ((b.2.filterMap (t2'[·]?)).flatMap Cg)]) (fun b=>b.2.Nodup∧(∀ j ∈ b.2,j<t2'.length)∧(∀ (j:Nat) e,es[j]? = some e→(b.1.contains e.born=true ↔ j ∈ b.2))∧b.2.length+(leftOf es b.1).size≤es.size) (fun b=>(leftOf es b.1).size) (#[],[]) ⟨kG,fun j hj=>by simp at hj,fun j e _=>⟨fun h=>by simp at h,fun h=>by simp at h⟩,by show 0+(leftOf es #[]).size≤es.size;rw [yG];exact Array.size_filter_le ..⟩ ⟨R,R,R,trivial⟩ [] R (fun _=>R) ?_
    rintro ⟨seen,picks⟩ ⟨hnd,hlt,hsn,hmu⟩
    dsimp only at hnd hlt hsn hmu
    refine csr (Aql (p:=2) (pi:=3) (ss:=t2'.map kB) R R R R hs1 (zN _) hks (fun h0=>?_) (fun j e s cs hj he hs hcs=>?_))
    ·refine sv R (Ai R R) (Ak (Bn (Ck R (fun hc=>nomatch hc) (fun _=>?_))))
     refine Dd (Ar (Ar (Bj (Ab (⟨(seen,picks.filterMap (t2'[·]?)),_,?_,⟨R,R,trivial⟩,R⟩)))))
     refine Akm hnd hlt fun j hj=>?_
     have hj':j<es.size:=by rw [hes];exact hj
     exact (hsn j es[j] (zU hj')).1 (all_seen es seen h0 _ (by simp))
    ·obtain ⟨x,hx,rfl⟩:∃ x,t2'[j]? = some x∧cs=Cg x:=by
      rw [zO] at hcs
      cases hx:t2'[j]? with
      | none=>rw [hx] at hcs;cases hcs
      | some x=>rw [hx] at hcs;exact ⟨x,rfl,(zD hcs).symm⟩
     have hns:=(mem_left he).2
     have hjn:j ∉ picks:=fun h=>by rw [(hsn j e hj).2 h] at hns;cases hns
     have hsh:=left_shrinks es seen e he
     have hpl:(picks.filterMap (t2'[·]?)).length≤picks.length:=List.length_filterMap_le ..
     refine sv R (Ai R R) (Ak (Bn (Ck R (fun _=>?_) (fun hc=>nomatch hc))))
     refine Bf (Ab (Bq (Bn (Ap ?_))))
     refine Ams (p:=2) (pi:=3) (j:=j) rfl rfl rfl rfl hs2 hks hj hs (by rw [zO,hx];rfl) ?_
     refine sv R (Ai R R) (Bo R Anr (sst Arp R R R R R (Ak (Ap (rm 1 R (sv R (lo Aof R R R) ?_))))))
     refine Fo R Tryz.underlying61 Aod R R (zJ.1 R) (by decide) ?_
     refine Pq [.box [.sl a0.L.length (a0.L.flatMap Ba)],.box (EL.el a2),.obj g (Ae5 U2 es clock) (t2'.map Cg),.obj q (Aku g clock (seen.push e.born) clock) [],.arr 157 2 0 ((picks.filterMap (t2'[·]?)).flatMap Cg),.box (EL.el x),.arr 157 2 0 ([x].flatMap Cg)] R ?_
     refine Ub (f:=Cg) (xs:=picks.filterMap (t2'[·]?)) (us:=[x]) R Tryz.underlying61 Aod Azu (fun _=>R) R R (.one _ _ _ _ (.ls _ _ _ _ _ _ R (Aw (f:=Cg) (fun _=>R) [x]).symm)) R R R (.sl _ _ _ (Aw (f:=Cg) (fun _=>R) _)) R R (by rw [yE];omega) (by decide) ?_
     refine rm 1 R (Ki (Ao ?_))
     have hfm:(picks++[j]).filterMap (t2'[·]?)=picks.filterMap (t2'[·]?)++[x]:=by
      rw [List.filterMap_append]
      simp [hx]
     refine ⟨(seen.push e.born,picks++[j]),_,⟨?_,?_,?_,?_⟩,⟨rfl,by show _=AV.s (.one (.ls 4 ((picks++[j]).filterMap (t2'[·]?)).length));rw [hfm];rfl,rfl,trivial⟩,by show _=[_,_,_,_,Blk.arr 157 2 0 (((picks++[j]).filterMap (t2'[·]?)).flatMap Cg)]++_;rw [hfm];rfl,hsh⟩
     ·rw [jT]
      exact ⟨hnd,by simp,fun a ha b hb=>by rw [zT.1 hb];exact fun e=>hjn (e ▸ ha)⟩
     ·intro k hk
      rcases yH.1 hk with hk | hk
      ·exact hlt k hk
      ·rw [zT.1 hk];exact (zC.1 hx).1
     ·intro k e' hk
      rw [yH,zT,← Ar5 hs2 hk hj,← hsn k e' hk];simp [or_comm]
     ·rw [zG,yE]
      have:(leftOf es (seen.push e.born)).size+1≤(leftOf es seen).size:=hsh
      dsimp only
      omega
  ·refine Bq ?_
   obtain ⟨x2,hx2,ho2⟩:=Ae h
   refine lpo (G:=Nat × (Int × List B7) × List B7) (fun q=>[(6,.s (.one (.lp 1 0))),(3,.s (.one (Ii6 a3))),(9,.s (.one (.raw (.map (some g))))),(47,.s (.one (.sl a0.L.length (a0.L.flatMap Ba)))),(48,.s (.one (Ii6 (a0.L.length:Int)))),(49,.s (.one (Ii6 q.2.1.1)))]) (fun q=>[.box [.sl a0.L.length (a0.L.flatMap Ba)],.box (EL.el a2),.obj g (Mo U2 ((q.2.2.map kB).map .string)) (q.2.2.map Cg)]) (fun q=>Cw (Zm a0 a2) q.1 q.2.1=some x2∧q.2.2.Perm q.2.1.2∧O4 kvk q.2.2) (fun q=>q.1) (fuel,(0,t1),t1') ⟨hx2,hp1,hd1⟩ ⟨R,R,R,R,R,R,trivial⟩ [] R (fun _=>R) ?_
   clear hx2 h hp1 hd1
   rintro ⟨n,⟨i,t⟩,t'⟩ ⟨h,hp,hd⟩
   dsimp only at hp hd
   obtain ⟨n,y,rfl,h,hk⟩:=Cy h
   unfold Zm at h
   dsimp only at h
   refine csr (sv R (Bt R R) (Ak (Bn (ccI h R (fun h=>?_) (fun h=>?_)))))
   ·refine Bf (Ab (Bn (Bq (Bn (Ap ?_)))))
    obtain ⟨u,hu,h⟩:=Ae h
    refine sv R (Cb (f:=Ba) Ac4 (fun _=>R) R R R R hu) ?_
    refine sv R (Bz (ys:=[.sl u.Key.length (u.Key.flatMap eU8),.sl u.Val.length (u.Val.flatMap eU8),.b u.Del]) Afp R (.cp _) R R) (Bo R Aj9 (sst Amh R R R R R (Ak (csr (fl Adm ti4 R R R R R R (Ak (ccI h R (fun h=>?_) (fun h=>?_))))))))
    ·obtain rfl:=SJ h
     clear h
     refine Ap (rm 1 R (fl S4 N2 R R R R R R (sv R (Wi (l:=u.Key) Tryz.underlying56 Tryz.underlying5 Tryz.underlying9 R R R) (Ary (ss:=t'.map kB) (css:=t'.map Cg) (s:=⟨u.Key.toArray⟩) (p:=2) Tryz.underlying233 Tryz.underlying9 R R R (fun j hj=>?_) (fun hn=>?_) R))))
     ·obtain ⟨e1,e3⟩:=Atp hp hd (Afa hj)
      refine Pq [.box [.sl a0.L.length (a0.L.flatMap Ba)],.box (EL.el a2),.obj g (Mo U2 (((t'.eraseIdx j).map kB).map .string)) ((t'.eraseIdx j).map Cg),.box (EL.el u)] (by rw [← Go.ChangeMaps.map_eraseIdx,← Go.ChangeMaps.map_eraseIdx];rfl) ?_
      refine Ki (Ao (Ab (Ap (sv R (Bm R R) (rm 1 R (Ak ?_))))))
      exact ⟨(n,(wI (i+1),Ach kvk t u.Key),t'.eraseIdx j),_,⟨hk,e1,e3⟩,⟨R,R,R,R,R,R,trivial⟩,R,zH _⟩
     ·have e1:=Am2 (kf:=kvk) hp (Aml hn)
      refine Pq [.box [.sl a0.L.length (a0.L.flatMap Ba)],.box (EL.el a2),.obj g (Mo U2 ((t'.map kB).map .string)) (t'.map Cg),.box (EL.el u)] R (Ki (Ao (Ab (Ap (sv R (Bm R R) (rm 1 R (Ak ?_)))))))
      exact ⟨(n,(wI (i+1),Ach kvk t u.Key),t'),_,⟨hk,e1,hd⟩,⟨R,R,R,R,R,R,trivial⟩,R,zH _⟩
    ·obtain ⟨v,hv,h⟩:=Ae h
     obtain rfl:=SJ h
     clear h
     refine csr (ld Acz R R R R (fl S4 N2 R R R R R R (A8 R Am1 (Aa R (Aa R Af)) (An R) (Mp hv) (Ak (Ck R (fun hc=>?_) (fun hc=>?_))))))
     ·subst hc
      refine Ap (rm 1 R (fl S4 N2 R R R R R R (sv R (Wi (l:=u.Key) Tryz.underlying56 Tryz.underlying5 Tryz.underlying9 R R R) (fl S4 N2 R R R R R R (fl Zo N2 R R R R R R (sv R (A3 Anr At7 (Av R (Av R Ay)) (.cons _ _ _ _ _ _ _ R R (Nbl R) (.cons _ _ _ _ _ _ _ R R (Nbl R) (.nil _)))) (Amb (ss:=t'.map kB) (css:=t'.map Cg) (s:=kB ⟨u.Key,u.Val⟩) (p:=2) Tryz.underlying233 Tryz.underlying9 R R R R R (fun j hj=>?_) (fun hn=>?_))))))))
      ·obtain ⟨e1,e2,e3⟩:=Aby hp hd (x:=⟨u.Key,u.Val⟩) (Afa hj)
       refine Pq [.box [.sl a0.L.length (a0.L.flatMap Ba)],.box (EL.el a2),.obj g (Mo U2 (((t'.set j ⟨u.Key,u.Val⟩).map kB).map .string)) ((t'.set j ⟨u.Key,u.Val⟩).map Cg),.box (EL.el u)] (by rw [Aq4 (Afa hj),kI];rfl) ?_
       refine Ki (Ao (Ab (Ap (sv R (Bm R R) (rm 1 R (Ak ?_))))))
       exact ⟨(n,(wI (i+1),Rw kvk t ⟨u.Key,u.Val⟩),t'.set j ⟨u.Key,u.Val⟩),_,⟨hk,e1,e3⟩,⟨R,R,R,R,R,R,trivial⟩,R,zH _⟩
      ·obtain ⟨e1,e3⟩:=Ai2 hp hd (x:=⟨u.Key,u.Val⟩) (Aml hn)
       refine Pq [.box [.sl a0.L.length (a0.L.flatMap Ba)],.box (EL.el a2),.obj g (Mo U2 (((t'++[(⟨u.Key,u.Val⟩:B7)]).map kB).map .string)) ((t'++[(⟨u.Key,u.Val⟩:B7)]).map Cg),.box (EL.el u)] (by simp only [wA];rfl) ?_
       refine Ki (Ao (Ab (Ap (sv R (Bm R R) (rm 1 R (Ak ?_))))))
       exact ⟨(n,(wI (i+1),Rw kvk t ⟨u.Key,u.Val⟩),t'++[(⟨u.Key,u.Val⟩:B7)]),_,⟨hk,e1,e3⟩,⟨R,R,R,R,R,R,trivial⟩,R,zH _⟩
     ·subst hc
      refine Bf (Ao (Ab (Ap (sv R (Bm R R) (rm 1 R (Ak ?_))))))
      exact ⟨(n,(wI (i+1),t),t'),_,⟨hk,hp,hd⟩,⟨R,R,R,R,R,R,trivial⟩,R,zH _⟩
   ·refine Dd (Ar (Ar (Bj (Ab ?_))))
    obtain rfl:=SJ h
    obtain rfl:_=x2:=hk
    exact ⟨(t,t'),_,⟨hp,hd,ho2⟩,⟨R,R,trivial⟩,R⟩
 ·refine Bq ?_
  obtain ⟨x1,hx1,ho1⟩:=Ae h
  refine lpo (G:=Nat × (Int × List B7) × List B7) (fun q=>[(4,.s (.one (.lp 0 0))),(6,.s (.one (.lp 1 0))),(3,.s (.one (Ii6 a3))),(9,.s (.one (.raw (.map (some g))))),(30,.s (.one (.sl a1.length (a1.flatMap Cg)))),(31,.s (.one (Ii6 (a1.length:Int)))),(32,.s (.one (Ii6 q.2.1.1)))]) (fun q=>[.box [.sl a0.L.length (a0.L.flatMap Ba)],.box (EL.el a2),.obj g (Mo U2 ((q.2.2.map kB).map .string)) (q.2.2.map Cg)]) (fun q=>Cw (Z3 a1 a2) q.1 q.2.1=some x1∧q.2.2.Perm q.2.1.2∧O4 kvk q.2.2) (fun q=>q.1) (fuel,(0,[]),[]) ⟨hx1,List.Perm.refl _,List.Pairwise.nil⟩ ⟨R,R,R,R,R,R,R,trivial⟩ [] R (fun _=>R) ?_
  clear hx1 h
  rintro ⟨n,⟨i,t⟩,t'⟩ ⟨h,hp,hd⟩
  dsimp only at hp hd
  obtain ⟨n,y,rfl,h,hk⟩:=Cy h
  unfold Z3 at h
  dsimp only at h
  refine csr (sv R (Bt R R) (Ak (Bn (ccI h R (fun h=>?_) (fun h=>?_)))))
  ·refine Bf (Ab (Bn (Bq (Bn (Ap ?_)))))
   obtain ⟨u,hu,h⟩:=Ae h
   refine sv R (Cb (f:=Cg) Asi (fun _=>R) R R R R hu) ?_
   refine sv R (Bz (ys:=[.sl u.Key.length (u.Key.flatMap eU8),.sl u.Val.length (u.Val.flatMap eU8)]) Aof R (.cp _) R R) (Bo R Anr (sst Arp R R R R R (Ak (csr (ld Acz R R R R (sv R (Ac Agk R) (sv R (l1 N2 R R R) ?_)))))))
   obtain ⟨v,hv,h⟩:=Ae h
   refine A8 R Am1 (Aa R (Aa R Af)) (An R) (Mp hv) (Ak ?_)
   obtain rfl:=SJ h
   clear h
   refine Ck R (fun hc=>?_) (fun hc=>?_)
   ·subst hc
    refine Ap (rm 1 R (fl Agk N2 R R R R R R (sv R (Wi (l:=u.Key) Tryz.underlying56 Tryz.underlying5 Tryz.underlying9 R R R) (ld Aof R R R R (Amb (ss:=t'.map kB) (css:=t'.map Cg) (s:=kB u) (p:=2) Tryz.underlying233 Tryz.underlying9 R R R R R (fun j hj=>?_) (fun hn=>?_))))))
    ·obtain ⟨e1,e2,e3⟩:=Aby hp hd (x:=u) (Afa hj)
     refine Pq [.box [.sl a0.L.length (a0.L.flatMap Ba)],.box (EL.el a2),.obj g (Mo U2 (((t'.set j u).map kB).map .string)) ((t'.set j u).map Cg),.box (EL.el u)] (by rw [Aq4 (Afa hj),kI];rfl) ?_
     refine Ki (Ao (Ab (Ap (sv R (Bm R R) (rm 1 R (Ak ?_))))))
     exact ⟨(n,(wI (i+1),Rw kvk t u),t'.set j u),_,⟨hk,e1,e3⟩,⟨R,R,R,R,R,R,R,trivial⟩,R,zH _⟩
    ·obtain ⟨e1,e3⟩:=Ai2 hp hd (x:=u) (Aml hn)
     refine Pq [.box [.sl a0.L.length (a0.L.flatMap Ba)],.box (EL.el a2),.obj g (Mo U2 (((t'++[u]).map kB).map .string)) ((t'++[u]).map Cg),.box (EL.el u)] (by simp only [wA];rfl) ?_
     refine Ki (Ao (Ab (Ap (sv R (Bm R R) (rm 1 R (Ak ?_))))))
     exact ⟨(n,(wI (i+1),Rw kvk t u),t'++[u]),_,⟨hk,e1,e3⟩,⟨R,R,R,R,R,R,R,trivial⟩,R,zH _⟩
   ·subst hc
    refine Bf (Ao (Ab (Ap (sv R (Bm R R) (rm 1 R (Ak ?_))))))
    exact ⟨(n,(wI (i+1),t),t'),_,⟨hk,hp,hd⟩,⟨R,R,R,R,R,R,R,trivial⟩,R,zH _⟩
  ·refine Dd (Ar (Ar (Bj (Ab ?_))))
   obtain rfl:=SJ h
   obtain rfl:_=x1:=hk
   exact ⟨(t,t'),_,⟨hp,hd,ho1⟩,⟨R,R,R,R,trivial⟩,R⟩
section
open Go.Extern.Stop Go.Stop Go.Extern
theorem An2 (v:Value) (w:World):(Extern.ReflectliteType.typeOf #[.iface 62 v]).run Tryz.prog w=.ok (.iface 371 (.agg #[.pointer (some ⟨1,62,none⟩)])) w:=by kernel_rfl
theorem Ac1 (w : World) : ((Extern.ReflectliteType.method fun t => do Extern.Rtype.noPackHeld "Comparable" t; (fun a => Value.bool a.comparable) <$> typeInfo t) #[.agg #[.pointer (some ⟨1, 62, none⟩)]]).run Tryz.prog w = .ok (.bool true) w := by kernel_rfl
theorem An0 (v : Value) (w : World) : (Go.method 553 371 v "Comparable").run Tryz.prog w = .ok (317, v) w := by kernel_rfl
theorem Aky:(Tryz.prog.info? 62).map (·.comparable)=some true:=by kernel_rfl
theorem Atl (v:Value) (xT:TypeId) (w:World):(Instr.typeAssert (.iface 62 v) xT 373 true).run Tryz.prog w=.ok (.tuple #[.nilIface,.bool false]) w:=run_typeAssert_lacksB Tryz.underlying373 (by kernel_rfl) (by kernel_rfl) v xT w
theorem Ahk (v:Value) (xT:TypeId) (w:World):(Instr.typeAssert (.iface 62 v) xT 376 true).run Tryz.prog w=.ok (.tuple #[.nilIface,.bool false]) w:=run_typeAssert_lacksB Tryz.underlying376 (by kernel_rfl) (by kernel_rfl) v xT w
theorem Aet (v:Value) (xT:TypeId) (w:World):(Instr.typeAssert (.iface 62 v) xT 378 true).run Tryz.prog w=.ok (.tuple #[.nilIface,.bool false]) w:=run_typeAssert_lacksB Tryz.underlying378 (by kernel_rfl) (by kernel_rfl) v xT w
set_option maxHeartbeats 2000000 in
theorem Apu (a b:Int) (w:World):Calls Tryz.prog 138 #[.iface 62 (.int .i64 a),.iface 62 (.int .i64 b)] w fun e w'=>e=.returned (.bool (a == b))∧w'=w:=by
 have h8:=@run_callFunc_extern Tryz.prog 207 _ Extern.ReflectliteType.typeOf Tryz.func207 (by kernel_rfl) (by kernel_rfl) (by kernel_rfl) (by kernel_rfl)
 have h32 := @run_callFunc_extern Tryz.prog 317 _ (Extern.ReflectliteType.method fun t => do Extern.Rtype.noPackHeld "Comparable" t; pure (.bool (← typeInfo t).comparable)) Tryz.func317 (by kernel_rfl) (by kernel_rfl) (by kernel_rfl) (by kernel_rfl)
 have tT:=An2
 have cT:=Ac1
 have mR:=An0
 have nE:=Atl
 have uE:=Ahk
 have vE:=Aet
 have hn1:=fun v:Value=>run_eql_iface_nil_left (P:=Tryz.prog) w 62 v Tryz.underlying252
 have hnr:=fun v:Value=>run_eql_iface_nil (P:=Tryz.prog) (w:=w) 252 (by kernel_rfl) 62 v
 cases hab:(a == b) with
 | true =>
  have heq:=Go.Lib.run_eql_iface_int (P:=Tryz.prog) w (k:=.i64) a b Tryz.underlying252 Aky Tryz.underlying62
  rw [hab] at heq
  go_enter Tryz.func138,Tryz.ntmps138
  go_wp2
  refine wp_loop_rounds 1 ?_
  rw [rounds_succ]
  go_wp2
  go_ret
  exact ⟨R,R⟩
 | false =>
  have heq:=Go.Lib.run_eql_iface_int (P:=Tryz.prog) w (k:=.i64) a b Tryz.underlying252 Aky Tryz.underlying62
  rw [hab] at heq
  go_enter Tryz.func138,Tryz.ntmps138
  go_wp2
  refine wp_loop_rounds 1 ?_
  rw [rounds_succ]
  go_wp2
  go_ret
  exact ⟨R,R⟩
def Rl (a b:Int):Option Bool:=some (a == b)
theorem Yx {a b:Int} {r:Bool} (h:Rl a b=some r):Br Tryz.prog 138 [.one (.raw (.iface 62 (.int .i64 a))),.one (.raw (.iface 62 (.int .i64 b)))] (·=.s (.one (.b r))):=by
 obtain rfl:=SJ h
 exact Af3 (fun _ _=>.b _) (fun w=>Apu a b w)
end
def H2 (a0:List (List UInt8)) (b1:Unit):Option Bool :=
 (Cm a0).bind fun v2=>some v2
def Ea (a0:List (List UInt8)) (s3:Int):Option (LR (Int) (Unit) (Bool)) :=
 if (decide (s3<(a0.length:Int))) then ((idx a0 s3).bind fun u4=>(Ez u4).bind fun v5=>if (!v5) then (some (.ret false)) else (some (.cont (wI (s3+1))))) else (some (.brk ()))
def Ej (a0:List (List UInt8)):Option Bool :=
 (Lj (Ea a0) fuel 0).bind fun x=>match x with | .inl r=>some r | .inr e6=>H2 a0 e6
theorem Pi {a0:List (List UInt8)} {r:Bool} (h:Ej a0=some r):Br Tryz.prog 107 [.one (.sl a0.length (a0.flatMap (eL eU8)))] (·=.s (.one (.b r))):=by
 unfold Ej at h
 refine A2 Tryz.func107 R (nt:=17) R (Nbl R) ?_
 intro w0 S0
 refine csr (rm 1 R (Ak (Bn (csr (rm 1 R (sv R (Au S6 R) (rm 1 R (Ak (cj (Unit) (fun b1=>[(0,.s (.one (.sl a0.length (a0.flatMap (eL eU8)))))]) (fun b1=>[]) (fun b1=>H2 a0 b1=some r) (fun _=>R) (fun b1 h=>?_) ?_)))))))))
 ·unfold H2 at h
  refine csr (sv R (A4 R) ?_)
  obtain ⟨v2,hv2,h⟩:=Ae h
  refine A8 R Apw (Aa R Af) (An R) (Lz hv2) (rm 1 R (Ak (Bs ?_)))
  obtain rfl:=SJ h
  exact dnT R R R R
 ·skip
  refine Bq ?_
  obtain ⟨x3,hx3,ho3⟩:=Ae h
  refine lpo (G:=Nat × (Int)) (fun g=>[(0,.s (.one (.sl a0.length (a0.flatMap (eL eU8))))),(5,.s (.one (.sl a0.length (a0.flatMap (eL eU8))))),(6,.s (.one (Ii6 (a0.length:Int)))),(7,.s (.one (Ii6 g.2)))]) (fun g=>[]) (fun g=>Lj (Ea a0) g.1 g.2=some x3) (fun g=>g.1) (fuel,0) hx3 ⟨R,R,R,R,trivial⟩ [] R (fun _=>R) ?_
  clear hx3 h
  rintro ⟨n3,s3⟩ h
  obtain ⟨n3,y3,rfl,h,hk3⟩:=Fh h
  unfold Ea at h
  refine csr (sv R (Bt R R) (Ak (Bn (ccI h R (fun h=>?_) (fun h=>?_)))))
  ·refine Bf (Ab (Bn (Bq (Bn (Ap ?_)))))
   obtain ⟨u4,hu4,h⟩:=Ae h
   refine sv R (Cb (f:=(eL eU8)) S6 (fun _=>R) R R R R hu4) ?_
   refine sv R (B6 N2 R (.cp _) R) (rm 1 R (Ak (csr (sv R (A4 R) ?_))))
   obtain ⟨v5,hv5,h⟩:=Ae h
   refine A8 R Awu (Aa R Af) (An R) (N8 hv5) (sv R (B1 R) (Ak (ccI h R (fun h=>?_) (fun h=>?_))))
   ·refine csr (rm 1 R (Ak (Bs (A0 (Ag (Ag (A0 (Ag ?_))))))))
    obtain rfl:=SJ h
    obtain rfl:Sum.inl _=x3:=hk3
    replace ho3:some _=some _:=ho3
    obtain rfl:=zD ho3
    exact dnT R R R R
   ·refine Bf (Ao (Ab (Ap (sv R (Bm R R) (rm 1 R (Ak ?_))))))
    obtain rfl:=SJ h
    exact ⟨(n3,(wI (s3+1))),_,hk3,⟨R,R,R,R,trivial⟩,R,zH _⟩
  ·refine Dd (Ar (Ar (Bj (Ab ?_))))
   obtain rfl:=SJ h
   obtain rfl:_=x3:=hk3
   exact ⟨(),_,ho3,⟨R,trivial⟩,R⟩
theorem L9 {a0:Al}:Br Tryz.prog 182 [.agg [.sl a0.L.length (a0.L.flatMap A7)]] (·=.s (.one (.fn 235 [] [.cp [.sl a0.L.length (a0.L.flatMap A7)]]))):=by
 refine A2 Tryz.func182 R (nt:=4) R (Nbl R) ?_
 intro w0 S0
 refine csr (Ann R R R (rm 1 R (Ak (csr (sv R (Tq Qi (V0 R R Qi)) (rm 1 R (Ak (Bs (⟨Or.inr R,_,_,_,(Ad (rt R) Aj),(An R),?_⟩)))))))))
 rfl
def Qk (l:List Ax):Nat→List (Int × Ax)
 | 0=>[]
 | n+1=>match l[n]? with
  | some v=>((n:Int),v)::Qk l n
  | none=>[]
def Aki (c:Al):Option (List (Int × Ax)) :=
 if c.L.length≤1000000000000000000 then some (Qk c.L c.L.length) else none
theorem Qr {l:List Ax} {n:Nat} (h:n<l.length):Qk l (n+1)=((n:Int),l[n])::Qk l n:=by
 simp [Qk,zB h]
theorem Wv {l:List Ax}:∀ n,n≤l.length→(Qk l n).length=n
 | 0,_=>rfl
 | n+1,h=>by
  rw [Qr (by omega),y9,Wv n (by omega)]
theorem Af1 {c:Al} {L:List (Int × Ax)} (h:Aki c=some L):Aoh Tryz.prog 235 [.cp [.sl c.L.length (c.L.flatMap A7)]] (L.map fun x=>(.one (Ii6 x.1),.agg (EL.el x.2))):=by
 unfold Aki at h
 obtain ⟨hlen,h⟩:=Cr h
 obtain rfl:=SJ h
 refine Ao0 Tryz.func235 R R (nt:=21) R (Nbl R) ?_
 intro l J Jx hJ hJx hs
 refine Av8 ?_
 refine Ame (hJ 0) (by rfl) (fun w0 S0=>?_)
 refine sv R (Ce Tp R) (sv R (B6 Aaq R (.cp _) R) (sv R (Au Wu R) (sv R (Nt R R) (rm 1 R (Ki ⟨R,R,Ad7 (Af9 ?_)⟩)))))
 refine Aqz ?_
 have hw0:wI ((c.L.length:Int)-1)=(c.L.length:Int)-1:=by
  show IntKind.i64.wrap _=_
  exact wrap_i64 (by omega) (by omega)
 refine Azi (G:=Nat × Int) (fun g=>[(0,.s (.one (.raw (.func (.yield l) #[] #[])))),(1,.s (.one (.cp [.sl c.L.length (c.L.flatMap A7)]))),(3,.s (.one (Ii6 g.2)))])
  (fun g=>J g.1) (fun g=>g.1≤c.L.length∧g.2=((c.L.length-g.1:Nat):Int)-1∧(Qk c.L c.L.length).drop g.1=Qk c.L (c.L.length-g.1))
  (fun g=>c.L.length-g.1) (0,wI ((c.L.length:Int)-1)) ⟨zX _,by simp only [Nat.sub_zero];exact hw0,rfl⟩ ⟨rfl,rfl,rfl,trivial⟩ rfl (fun _ _=>Zp rfl) ?_
 rintro ⟨k,i⟩ ⟨g1,g2,g3⟩
 simp only at g1 g2 g3
 refine Av8 (Av8 ?_)
 refine Ame (hJ k) (by rfl) (fun w0 S0=>?_)
 refine rm 1 R (sv R (Hn R R) (Ki ⟨R,R,Ad7 (Af9 ?_)⟩))
 refine Ar2 R (fun hc=>?_) (fun hc=>?_)
 rotate_left
 ·have hc':¬ 0≤i:=by simpa using hc
  refine Aw5 (And.intro (Or.inl R) (Or.inl ?_))
  show J k=J _
  rw [z6,Wv _ (zN _)]
  congr 1
  omega
 have hge:0≤i:=by simpa using hc
 refine Aup (Af9 ?_)
 obtain ⟨n,hn⟩:∃ n,c.L.length-k=n+1:=⟨c.L.length-k-1,by omega⟩
 have hi:i=(n:Int):=by omega
 subst hi
 have hnl:n<c.L.length:=by omega
 rw [hn,Qr hnl] at g3
 have hget:(Qk c.L c.L.length)[k]? = some ((n:Int),c.L[n]):=by
  have:=congrArg (fun l=>l[0]?) g3
  simpa using this
 have hdrop:(Qk c.L c.L.length).drop (k+1)=Qk c.L n:=by
  have:=congrArg (fun l=>l.drop 1) g3
  simpa [j4] using this
 have hu:idx c.L (n:Int)=some c.L[n]:=by
  unfold idx
  rw [if_pos (xM n),zW,zB hnl]
 generalize c.L[n]=v at hget hu
 refine Av8 (Aqz (Av8 (Ak4 ?_)))
 refine Apv (l1:=[_,_,_,_,_,_,_]) (hJ k) (by rfl) (fun w0 S0=>?_)
 refine rm 2 R (sv R (Ce Tp R) (sv R (B6 Aaq R (.cp _) R) (rm 1 R (sv R (Cb (f:=A7) Wu (fun _=>R) R R R R hu) ?_))))
 refine sv R (Bz (ys:=[Ii6 v.Ts,.sl v.Val.length (v.Val.flatMap eU8),.b v.Del]) Ahu R (.cp _) R R) (Ki ⟨R,R,?_⟩)
 refine Ao1 rfl rfl (fun _ _ _ _ _=>rfl) hs rfl rfl rfl rfl (x:=.one (Ii6 (n:Int))) (y:=.agg (EL.el v)) (by rw [zO,hget];rfl) ?_ ?_
 rotate_left
 ·
  refine Apv (l1:=[_]) (l2:=[]) hJx (by rfl) (fun w0 S0=>?_)
  refine sv R (B1 R) (Ki ⟨R,R,Ad7 (Af9 ?_)⟩)
  refine Ar2 R (fun _=>?_) (fun hx=>Bool.noConfusion hx)
  exact A0n (And.intro (Or.inr R) (Or.inr R))
 refine Apv (l1:=[_]) (l2:=[]) (hJ (k+1)) (by rfl) (fun w0 S0=>?_)
 refine sv R (B1 R) (Ki ⟨R,R,Ad7 (Af9 ?_)⟩)
 refine Ar2 R (fun hx=>Bool.noConfusion hx) (fun _=>?_)
 refine Aup (Az9 (Af9 ?_))
 refine Ame (hJ (k+1)) (by rfl) (fun w0 S0=>?_)
 refine rm 1 R (sv R (Nt R R) (rm 1 R (Ki ⟨R,R,Ad7 (Af9 ?_)⟩)))
 have hw:wI ((n:Int)-1)=(n:Int)-1:=by
  show IntKind.i64.wrap _=_
  exact wrap_i64 (by omega) (by omega)
 refine ⟨(k+1,wI ((n:Int)-1)),⟨?_,?_,?_⟩,⟨R,R,R,trivial⟩,R,?_⟩
 ·show k+1≤c.L.length
  omega
 ·show wI ((n:Int)-1)=((c.L.length-(k+1):Nat):Int)-1
  rw [hw];omega
 ·show List.drop (k+1) _=Qk c.L (c.L.length-(k+1))
  rw [hdrop]
  congr 1
  omega
 ·show c.L.length-(k+1)<c.L.length-k
  omega
def Gm (a0:Ax):Option Bool :=
 if (decide (1≤a0.Ts)) then (if (decide (a0.Ts≤1099511627776)) then (if (decide ((a0.Val.length:Int)≤32)) then (if a0.Del then (some (!(decide (0<(a0.Val.length:Int))))) else (some true)) else (some false)) else (some false)) else (some false)
theorem Qb {a0:Ax} {r:Bool} (h:Gm a0=some r):Br Tryz.prog 183 [.agg (EL.el a0)] (·=.s (.one (.b r))):=by
 unfold Gm at h
 refine A2 Tryz.func183 R (nt:=28) R (Nbl R) ?_
 intro w0 S0
 refine csr (F2 R R (rm 1 R (Ak (csr (fl Vy ti3 R R R R R R (sv R (Hn R R) (rm 1 R (ssI 6 h R (fun h=>?_) (fun h=>?_)))))))))
 ·refine son R R R (sv R (Ac Vy R) (son R R R (sv R (l1 ti3 R R R) (son R R R (sv R (Dl R R) (rm 2 R (ssI 11 h R (fun h=>?_) (fun h=>?_))))))))
  ·refine son R R R (sv R (Ac Ahg R) (son R R R (sv R (l1 N2 R R R) (son R R R (sv R (Au Xb R) (son R R R (sv R (Dl R R) (rm 2 R (ssI 17 h R (fun h=>?_) (fun h=>?_))))))))))
   ·refine son R R R (sv R (Ac Agx R) (son R R R (sv R (l1 ti4 R R R) (rm 1 R (ssI 20 h R (fun h=>?_) (fun h=>?_))))))
    ·refine son R R R (sv R (Ac Ahg R) (son R R R (sv R (l1 N2 R R R) (son R R R (sv R (Au Xb R) (son R R R (sv R (C9 R R) (rm 1 R (son R R R (sv R (B1 R) (rm 2 R (Ak (Bs ?_)))))))))))))
     obtain rfl:=SJ h
     exact dnT R R R R
    ·refine rm 5 R (son R R R (sv R (B1 R) (rm 2 R (Ak (Bs ?_)))))
     obtain rfl:=SJ h
     exact dnT R R R R
   ·refine rm 3 R (B8 R R R (B8 R R R (B8 R R R (B8 R R R (rm 4 R (Ak (Bs ?_)))))))
    obtain rfl:=SJ h
    exact dnT R R R R
  ·refine rm 9 R (B8 R R R (B8 R R R (B8 R R R (B8 R R R (rm 4 R (Ak (Bs ?_)))))))
   obtain rfl:=SJ h
   exact dnT R R R R
 ·refine rm 14 R (B8 R R R (B8 R R R (B8 R R R (B8 R R R (rm 4 R (Ak (Bs ?_)))))))
  obtain rfl:=SJ h
  exact dnT R R R R
def Jg (s1:Int) (x1:Int × Ax):Option ((Int) ⊕ (Nat × (Int))) :=
 (Gm x1.2).bind fun v2=>if (!v2) then (some (.inr (0,s1))) else (if (decide (s1≤x1.2.Ts)) then (some (.inr (0,s1))) else (some (.inl x1.2.Ts)))
def L2 (s3:Int):Option Bool :=
 some true
def Ls (s4:Int):Option Bool :=
 some false
def Ew (a0:Al):Option Bool :=
 (Aki a0).bind fun L1=>(Rf Jg L1 1099511627777).bind fun e=>Ad8 L2 Ls (fun _ _=>none) e
theorem O2 {a0:Al} {r:Bool} (h:Ew a0=some r):Br Tryz.prog 108 [.agg [.sl a0.L.length (a0.L.flatMap A7)]] (·=.s (.one (.b r))):=by
 unfold Ew at h
 refine Xo Tryz.func108 R (nt:=21) R (Nbl R) ?_
 intro w0 S0
 refine Aak (Jj R (fun w0 S0 X0 m0 H0=>?_))
 refine Ann R R R (Bo R zi4 (Ak (Aak (Jj R (fun w0 S0 X0 m0 H0=>?_)))))
 refine Bo R zi3 (sst sz3 R R R R R (Ak (Aak (Aak (Jj R (fun w0 S0 X0 m0 H0=>?_))))))
 refine sv R (Bz (ys:=[.sl a0.L.length (a0.L.flatMap A7)]) O0 R (.cp _) R R) (A8 R Asu (Aa R Af) (An R) L9 (Ak (Abc ?_)))
 obtain ⟨L1,hL1,h⟩:=Ae h
 obtain ⟨e1,he1,h⟩:=Ae h
 refine Agt Jg L1 (fun x1=>.one (Ii6 x1.1)) (fun x1=>.agg (EL.el x1.2)) (fun s1=>[.box [.b false],.box [Ii6 s1]]) 1099511627777 he1 R As9 R (Af1 hL1) R R R (fun _=>R) (fun _=>Rn R) ?_ ?_ ?_ ?_
 ·clear h
  intro x1 s1 y1 l h w0 S0 X0 H0
  unfold Jg at h
  refine Jj R (fun w0 S0 X0 m0 H0=>?_)
  refine Bo R Ag1 (sst Akg R R R R R (Ak (fun w0 S0 X0 H0=>?_)))
  refine Abc (Aak (Aak (Jj R (fun w0 S0 X0 m0 H0=>?_))))
  refine sv R (lo Ahu R R R) ?_
  obtain ⟨v2,hv2,h⟩:=Ae h
  refine A8 R Au2 (Aa R Af) (An R) (Qb hv2) (sv R (B1 R) (rm 1 R (ssI 13 h R (fun h=>?_) (fun h=>?_))))
  ·refine rm 5 R (Ak (Arn R (fun _=>?_) (fun hx=>Bool.noConfusion hx)))
   refine Aak (Jj R (fun w0 S0 X0 m0 H0=>?_))
   refine sst sz4 R R R R R (Ak (Ar0 (Ag (A0 ?_))))
   obtain rfl:=SJ h
   exact ⟨s1,_,R,R⟩
  ·refine son R R R (sv R (Ac Vy R) (son R R R (sv R (l1 ti3 R R R) (son R R R (sv R (l1 ti3 R R R) (son R R R (sv R (Hn R R) (rm 1 R (Ak (Arn R (fun hc=>?_) (fun hc=>?_)))))))))))
   ·replace h:=Ve hc h
    clear hc
    refine Aak (Jj R (fun w0 S0 X0 m0 H0=>?_))
    refine sst sz4 R R R R R (Ak (Ar0 (Ag (A0 ?_))))
    obtain rfl:=SJ h
    exact ⟨s1,_,R,R⟩
   ·replace h:=Vh hc h
    clear hc
    refine Aux (Ab (Jj R (fun w0 S0 X0 m0 H0=>?_)))
    refine fl Vy ti3 R R R R R R (sst sz3 R R R R R (Ki (Ao ?_)))
    obtain rfl:=SJ h
    exact ⟨x1.2.Ts,_,R,R⟩
 ·intro s3 hs
  obtain rfl:=hs
  replace h:L2 s3=some r:=h
  unfold L2 at h
  refine Ao (Ab (Aak (Jj R (fun w0 S0 X0 m0 H0=>?_))))
  refine sst sz4 R R R R R (Ak (Ar0 ?_))
  obtain rfl:=SJ h
  exact dn (Ad (Aii.one _ _ _ _ _ ti4 R (.lp _ _ _ R) R) Aj) (An R) R
 ·intro s4 hs
  obtain rfl:=hs
  replace h:Ls s4=some r:=h
  unfold Ls at h
  refine A0 (Ag ?_)
  obtain rfl:=SJ h
  exact dn (Ad (Aii.one _ _ _ _ _ ti4 R (.lp _ _ _ R) R) Aj) (An R) R
 ·intro id s hs
  obtain rfl:=hs
  replace h:none=some r:=h
  cases h
def Om (s1:Int) (x1:Int × Ax):Option ((Int) ⊕ (Nat × (Int))) :=
 some (.inr (0,x1.2.Ts))
def On (s2:Int):Option Int :=
 some 0
def N6 (s3:Int):Option Int :=
 some s3
def J8 (a0:Al):Option Int :=
 (Aki a0).bind fun L1=>(Rf Om L1 0).bind fun e=>Ad8 On N6 (fun _ _=>none) e
theorem R5 {a0:Al} {r:Int} (h:J8 a0=some r):Br Tryz.prog 109 [.agg [.sl a0.L.length (a0.L.flatMap A7)]] (·=.s (.one (Ii6 r))):=by
 unfold J8 at h
 refine Xo Tryz.func109 R (nt:=11) R (Nbl R) ?_
 intro w0 S0
 refine Aak (Jj R (fun w0 S0 X0 m0 H0=>?_))
 refine Ann R R R (Bo R zi3 (Ak (Aak (Aak (Jj R (fun w0 S0 X0 m0 H0=>?_))))))
 refine sv R (Bz (ys:=[.sl a0.L.length (a0.L.flatMap A7)]) O0 R (.cp _) R R) (A8 R Asu (Aa R Af) (An R) L9 (Ak (Abc ?_)))
 obtain ⟨L1,hL1,h⟩:=Ae h
 obtain ⟨e1,he1,h⟩:=Ae h
 refine Agt Om L1 (fun x1=>.one (Ii6 x1.1)) (fun x1=>.agg (EL.el x1.2)) (fun s1=>[.box [Ii6 s1]]) 0 he1 R As9 R (Af1 hL1) R R R (fun _=>R) (fun _=>Rn R) ?_ ?_ ?_ ?_
 ·clear h
  intro x1 s1 y1 l h w0 S0 X0 H0
  unfold Om at h
  refine Jj R (fun w0 S0 X0 m0 H0=>?_)
  refine Bo R Ag1 (sst Akg R R R R R (Ak (fun w0 S0 X0 H0=>?_)))
  refine Abc (Aak (Jj R (fun w0 S0 X0 m0 H0=>?_)))
  refine fl Vy ti3 R R R R R R (sst sz3 R R R R R (Ak (Ar0 (A0 ?_))))
  obtain rfl:=SJ h
  exact ⟨x1.2.Ts,_,R,R⟩
 ·intro s2 hs
  obtain rfl:=hs
  replace h:On s2=some r:=h
  unfold On at h
  refine Ao (Ab (Aak (Jj R (fun w0 S0 X0 m0 H0=>?_))))
  refine sst sz3 R R R R R (Ak (Ar0 ?_))
  obtain rfl:=SJ h
  exact dn (Ad (Aii.one _ _ _ _ _ ti3 R (.lp _ _ _ R) R) Aj) (An R) R
 ·intro s3 hs
  obtain rfl:=hs
  replace h:N6 s3=some r:=h
  unfold N6 at h
  refine A0 (Ag ?_)
  obtain rfl:=SJ h
  exact dn (Ad (Aii.one _ _ _ _ _ ti3 R (.lp _ _ _ R) R) Aj) (An R) R
 ·intro id s hs
  obtain rfl:=hs
  replace h:none=some r:=h
  cases h
def Pb (b2:Unit):Option Bool :=
 some true
def Hd (a0:Bw) (s3:Int):Option (LR (Int) (Unit) (Bool)) :=
 if (decide (s3<(a0.Chains.length:Int))) then ((idx a0.Chains s3).bind fun u4=>if (decide ((u4.L.length:Int)=0)) then (some (.ret false)) else ((Ew u4).bind fun v5=>if (!v5) then (some (.ret false)) else ((J8 u4).bind fun v6=>if (decide (a0.Ts<v6)) then (some (.ret false)) else (some (.cont (wI (s3+1))))))) else (some (.brk ()))
def M1 (a0:Bw) (b1:Unit):Option Bool :=
 (Lj (Hd a0) fuel 0).bind fun x=>match x with | .inl r=>some r | .inr e7=>Pb e7
def Dc (a0:Bw):Option Bool :=
 if (decide (a0.Ts<0)) then (some false) else (if (decide (1099511627776<a0.Ts)) then (some false) else (if (decide (128<(a0.Keys.length:Int))) then (some false) else (if (!decide ((a0.Chains.length:Int)=(a0.Keys.length:Int))) then (some false) else ((Ej a0.Keys).bind fun v8=>if (!v8) then (some false) else (M1 a0 ())))))
theorem Lg {a0:Bw} {r:Bool} (h:Dc a0=some r):Br Tryz.prog 45 [.agg (EL.el a0)] (·=.s (.one (.b r))):=by
 unfold Dc at h
 refine A2 Tryz.func45 R (nt:=58) R (Nbl R) ?_
 intro w0 S0
 refine csr (F2 R R (rm 1 R (Ak (Bn (Bn (cj3 (Unit) (fun b1=>[(1,.s (.one (.lp 0 0)))]) (fun b1=>[.box (EL.el a0)]) (fun b1=>M1 a0 b1=some r) (fun _=>R) (fun b1 h=>?_) ?_))))))
 ·unfold M1 at h
  refine Bn (csr (fl Qt Ajr R R R R R R (sv R (Au Ap3 R) (rm 1 R (Ak (cj (Unit) (fun b2=>[]) (fun b2=>[.box (EL.el a0)]) (fun b2=>Pb b2=some r) (fun _=>R) (fun b2 h=>?_) ?_))))))
  ·unfold Pb at h
   refine csr (rm 1 R (Ak (Bs ?_)))
   obtain rfl:=SJ h
   exact dnT R R R R
  ·skip
   refine Bq ?_
   obtain ⟨x3,hx3,ho3⟩:=Ae h
   refine lpo (G:=Nat × (Int)) (fun g=>[(1,.s (.one (.lp 0 0))),(35,.s (.one (.sl a0.Chains.length (a0.Chains.flatMap As)))),(36,.s (.one (Ii6 (a0.Chains.length:Int)))),(37,.s (.one (Ii6 g.2)))]) (fun g=>[.box (EL.el a0)]) (fun g=>Lj (Hd a0) g.1 g.2=some x3) (fun g=>g.1) (fuel,0) hx3 ⟨R,R,R,R,trivial⟩ [] R (fun _=>R) ?_
   clear hx3 h
   rintro ⟨n3,s3⟩ h
   obtain ⟨n3,y3,rfl,h,hk3⟩:=Fh h
   unfold Hd at h
   refine csr (sv R (Bt R R) (Ak (Bn (ccI h R (fun h=>?_) (fun h=>?_)))))
   ·refine Bf (Ab (Bn (Bq (Bn (Ap ?_)))))
    obtain ⟨u4,hu4,h⟩:=Ae h
    refine sv R (Cb (f:=As) Ap3 (fun _=>R) R R R R hu4) ?_
    refine sv R (Bz (ys:=[.sl u4.L.length (u4.L.flatMap A7)]) O0 R (.cp _) R R) (Bo R Yq (sst Yr R R R R R (Ak (Bn ?_))))
    refine Aav mixed (by kernel_rfl) ?_
    refine dv R (Ac Tp R) (dv R (l1 Aaq R R R) (dv R (Au Wu R) (dv R (B0 R R) (dv R (A4 R) (Zi 45 R (fun hc=>?_) (fun hc=>?_))))))
    ·replace h:=Ve hc h
     clear hc
     refine Pf R R R R (Pf R R R R (Pf R R R R (dv R (H8 R R) (dv R (A4 R) (Pf R R R R (Pf R R R R (Pf R R R R (Pf R R R R (Pf R R R R (dv R (H8 R R) (Ad3 (Ab (Ck R (fun _=>?_) (fun hx=>Bool.noConfusion hx))))))))))))))
     refine csr (rm 1 R (Ak (Bs (A0 (Ag (Ag (A0 (Ag ?_))))))))
     obtain rfl:=SJ h
     obtain rfl:Sum.inl _=x3:=hk3
     replace ho3:some _=some _:=ho3
     obtain rfl:=zD ho3
     exact dnT R R R R
    ·replace h:=Vh hc h
     clear hc
     refine dvg R R R (lo O0 R R R) ?_
     obtain ⟨v5,hv5,h⟩:=Ae h
     refine ddg R R R (Db Asd (Aa R Af) R (O2 hv5)) (dvg R R R (B1 R) (dv R (Mz R R) (dv R (A4 R) (Zi 50 R (fun hc=>?_) (fun hc=>?_)))))
     ·replace h:=Ve hc h
      clear hc
      refine Pf R R R R (Pf R R R R (Pf R R R R (Pf R R R R (Pf R R R R (dv R (H8 R R) (Ad3 (Ab (Ck R (fun _=>?_) (fun hx=>Bool.noConfusion hx)))))))))
      refine csr (rm 1 R (Ak (Bs (A0 (Ag (Ag (A0 (Ag ?_))))))))
      obtain rfl:=SJ h
      obtain rfl:Sum.inl _=x3:=hk3
      replace ho3:some _=some _:=ho3
      obtain rfl:=zD ho3
      exact dnT R R R R
     ·replace h:=Vh hc h
      clear hc
      refine dvg R R R (lo O0 R R R) ?_
      obtain ⟨v6,hv6,h⟩:=Ae h
      refine ddg R R R (Db Aue (Aa R Af) R (R5 hv6)) (dvg R R R (Ac Ro R) (dvg R R R (l1 ti3 R R R) (dvg R R R (C9 R R) (dv R (Mz R R) (Ad3 (Ab (ccI h R (fun h=>?_) (fun h=>?_))))))))
      ·refine csr (rm 1 R (Ak (Bs (A0 (Ag (Ag (A0 (Ag ?_))))))))
       obtain rfl:=SJ h
       obtain rfl:Sum.inl _=x3:=hk3
       replace ho3:some _=some _:=ho3
       obtain rfl:=zD ho3
       exact dnT R R R R
      ·refine Bf (Ao (Ab (Ap (sv R (Bm R R) (rm 1 R (Ak ?_))))))
       obtain rfl:=SJ h
       exact ⟨(n3,(wI (s3+1))),_,hk3,⟨R,R,R,R,trivial⟩,R,zH _⟩
   ·refine Dd (Ar (Ar (Bj (Ab ?_))))
    obtain rfl:=SJ h
    obtain rfl:_=x3:=hk3
    exact ⟨(),_,ho3,trivial,R⟩
 ·skip
  refine Ap (fl Ro ti3 R R R R R R (sv R (Bt R R) (rm 1 R (ssI 8 h R (fun h=>?_) (fun h=>?_)))))
  ·refine rm 25 R (Ak (Ck R (fun _=>?_) (fun hx=>Bool.noConfusion hx)))
   refine csr (rm 1 R (Ak (Bs (Ag ?_))))
   obtain rfl:=SJ h
   exact dnT R R R R
  ·refine son R R R (sv R (Ac Ro R) (son R R R (sv R (l1 ti3 R R R) (son R R R (sv R (C9 R R) (rm 2 R (ssI 13 h R (fun h=>?_) (fun h=>?_))))))))
   ·refine rm 20 R (Ak (Ck R (fun _=>?_) (fun hx=>Bool.noConfusion hx)))
    refine csr (rm 1 R (Ak (Bs (Ag ?_))))
    obtain rfl:=SJ h
    exact dnT R R R R
   ·refine son R R R (sv R (Ac Q8 R) (son R R R (sv R (l1 Ac0 R R R) (son R R R (sv R (Au S6 R) (son R R R (sv R (C9 R R) (rm 2 R (ssI 19 h R (fun h=>?_) (fun h=>?_))))))))))
    ·refine rm 14 R (Ak (Ck R (fun _=>?_) (fun hx=>Bool.noConfusion hx)))
     refine csr (rm 1 R (Ak (Bs (Ag ?_))))
     obtain rfl:=SJ h
     exact dnT R R R R
    ·refine son R R R (sv R (Ac Qt R) (son R R R (sv R (l1 Ajr R R R) (son R R R (sv R (Au Ap3 R) (son R R R (sv R (Ac Q8 R) (son R R R (sv R (l1 Ac0 R R R) (son R R R (sv R (Au S6 R) (son R R R (sv R (C6 R R) (rm 2 R (ssI 28 h R (fun h=>?_) (fun h=>?_))))))))))))))))
     ·refine rm 5 R (Ak (Ck R (fun _=>?_) (fun hx=>Bool.noConfusion hx)))
      refine csr (rm 1 R (Ak (Bs (Ag ?_))))
      obtain rfl:=SJ h
      exact dnT R R R R
     ·refine son R R R (sv R (Ac Q8 R) (son R R R (sv R (l1 Ac0 R R R) (son R R R ?_))))
      obtain ⟨v8,hv8,h⟩:=Ae h
      refine A8 R Aui (Aa R Af) (An R) (Pi hv8) (son R R R (sv R (B1 R) (rm 1 R (Ak (ccI h R (fun h=>?_) (fun h=>?_))))))
      ·refine csr (rm 1 R (Ak (Bs (Ag ?_))))
       obtain rfl:=SJ h
       exact dnT R R R R
      ·refine Bf (Ab ?_)
       exact ⟨(),_,h,⟨R,trivial⟩,R⟩
def D3 (a0:Bg):Option Bool :=
 if (decide ((a0.Lo.length:Int)≤17)) then (if (decide ((a0.Hi.length:Int)≤17)) then (if a0.Open then (some (!(decide (0<(a0.Hi.length:Int))))) else (some true)) else (some false)) else (some false)
theorem P6 {a0:Bg} {r:Bool} (h:D3 a0=some r):Br Tryz.prog 71 [.agg (EL.el a0)] (·=.s (.one (.b r))):=by
 unfold D3 at h
 refine A2 Tryz.func71 R (nt:=24) R (Nbl R) ?_
 intro w0 S0
 refine csr (F2 R R (rm 1 R (Ak (csr (fl Aa7 N2 R R R R R R (sv R (Au Xb R) (sv R (Dl R R) (rm 1 R (ssI 7 h R (fun h=>?_) (fun h=>?_))))))))))
 ·refine son R R R (sv R (Ac Ya R) (son R R R (sv R (l1 N2 R R R) (son R R R (sv R (Au Xb R) (son R R R (sv R (Dl R R) (rm 2 R (ssI 13 h R (fun h=>?_) (fun h=>?_))))))))))
  ·refine son R R R (sv R (Ac Ai7 R) (son R R R (sv R (l1 ti4 R R R) (rm 1 R (ssI 16 h R (fun h=>?_) (fun h=>?_))))))
   ·refine son R R R (sv R (Ac Ya R) (son R R R (sv R (l1 N2 R R R) (son R R R (sv R (Au Xb R) (son R R R (sv R (C9 R R) (rm 1 R (son R R R (sv R (B1 R) (rm 2 R (Ak (Bs ?_)))))))))))))
    obtain rfl:=SJ h
    exact dnT R R R R
   ·refine rm 5 R (son R R R (sv R (B1 R) (rm 2 R (Ak (Bs ?_)))))
    obtain rfl:=SJ h
    exact dnT R R R R
  ·refine rm 3 R (B8 R R R (B8 R R R (B8 R R R (B8 R R R (rm 4 R (Ak (Bs ?_)))))))
   obtain rfl:=SJ h
   exact dnT R R R R
 ·refine rm 9 R (B8 R R R (B8 R R R (B8 R R R (B8 R R R (rm 4 R (Ak (Bs ?_)))))))
  obtain rfl:=SJ h
  exact dnT R R R R
def Fl (a0:Bg) (b1:Bool):Option Bool :=
 if b1 then (some true) else ((I3 a0.Hi a0.Lo).bind fun v2=>some (decide (v2≤0)))
def G5 (a0:Bg):Option Bool :=
 if a0.Open then (some false) else (if (decide ((a0.Lo.length:Int)=0)) then (if (decide ((a0.Hi.length:Int)=1)) then ((idx a0.Hi 0).bind fun u3=>Fl a0 (decide ((u3.toBitVec.toNat:Int)=(0:Int)))) else (Fl a0 false)) else (Fl a0 false))
theorem Sw {a0:Bg} {r:Bool} (h:G5 a0=some r):Br Tryz.prog 72 [.agg (EL.el a0)] (·=.s (.one (.b r))):=by
 unfold G5 at h
 refine A2 Tryz.func72 R (nt:=32) R (Nbl R) ?_
 intro w0 S0
 refine csr (F2 R R (rm 1 R (Ak (Bn (csr (fl Ai7 ti4 R R R R R R (Ak (ccI h R (fun h=>?_) (fun h=>?_)))))))))
 ·refine csr (rm 1 R (Ak (Bs (Ag ?_))))
  obtain rfl:=SJ h
  exact dnT R R R R
 ·refine Bf (Ab (Bn (cj (Bool) (fun b1=>[(1,.s (.one (.lp 0 0))),(3,.s (.one (.b b1)))]) (fun b1=>[.box (EL.el a0)]) (fun b1=>Fl a0 b1=some r) (fun _=>R) (fun b1 h=>?_) ?_)))
  ·unfold Fl at h
   refine csr (rm 2 R (ssI 24 h R (fun h=>?_) (fun h=>?_)))
   ·refine rm 8 R (Ak (Bs ?_))
    obtain rfl:=SJ h
    exact dnT R R R R
   ·refine son R R R (sv R (Ac Ya R) (son R R R (sv R (l1 N2 R R R) (son R R R (sv R (Ac Aa7 R) (son R R R (sv R (l1 N2 R R R) (son R R R ?_))))))))
    obtain ⟨v2,hv2,h⟩:=Ae h
    refine A8 R Alo (Aa R (Aa R Af)) (An R) (Mj hv2) (son R R R (sv R (Dl R R) (rm 2 R (Ak (Bs ?_)))))
    obtain rfl:=SJ h
    exact dnT R R R R
  ·skip
   refine Ap (fl Aa7 N2 R R R R R R (sv R (Au Xb R) (sv R (B0 R R) (rm 1 R (ssI 10 h R (fun h=>?_) (fun h=>?_))))))
   ·refine son R R R (sv R (Ac Ya R) (son R R R (sv R (l1 N2 R R R) (son R R R (sv R (Au Xb R) (son R R R (sv R (B0 R R) (rm 2 R (ssI 16 h R (fun h=>?_) (fun h=>?_))))))))))
    ·refine son R R R (sv R (Ac Ya R) (son R R R (sv R (l1 N2 R R R) (son R R R ?_))))
     obtain ⟨u3,hu3,h⟩:=Ae h
     refine sv R (Cb (f:=eU8) Xb (fun _=>R) R R R R hu3) ?_
     refine son R R R (sv R (B6 ti5 R (.cp _) R) (son R R R (sv R (B0 R R) (rm 2 R (Ak ?_)))))
     exact ⟨(decide ((u3.toBitVec.toNat:Int)=(0:Int))),_,h,⟨R,R,trivial⟩,R⟩
    ·refine rm 7 R (Ak ?_)
     exact ⟨false,_,h,⟨R,R,trivial⟩,R⟩
   ·refine rm 13 R (Ak ?_)
    exact ⟨false,_,h,⟨R,R,trivial⟩,R⟩
def C4 (a0:Az):Option Bool :=
 if (decide (0≤a0.Tx)) then ((D3 a0.Rng).bind fun v1=>if v1 then ((G5 a0.Rng).bind fun v2=>some (!v2)) else (some false)) else (some false)
theorem Pk {a0:Az} {r:Bool} (h:C4 a0=some r):Br Tryz.prog 184 [.agg (EL.el a0)] (·=.s (.one (.b r))):=by
 unfold C4 at h
 refine A2 Tryz.func184 R (nt:=17) R (Nbl R) ?_
 intro w0 S0
 refine csr (F2 R R (rm 1 R (Ak (csr (fl Acj ti3 R R R R R R (sv R (Hn R R) (rm 1 R (ssI 6 h R (fun h=>?_) (fun h=>?_)))))))))
 ·refine son R R R (sv R (Ac Xf R) (son R R R (ld Acz R R R R (son R R R ?_))))
  obtain ⟨v1,hv1,h⟩:=Ae h
  refine A8 R Azr (Aa R Af) (An R) (P6 hv1) (rm 2 R (ssI 11 h R (fun h=>?_) (fun h=>?_)))
  ·refine son R R R (sv R (Ac Xf R) (son R R R (ld Acz R R R R (son R R R ?_))))
   obtain ⟨v2,hv2,h⟩:=Ae h
   refine A8 R Azx (Aa R Af) (An R) (Sw hv2) (son R R R (sv R (B1 R) (rm 2 R (Ak (Bs ?_)))))
   obtain rfl:=SJ h
   exact dnT R R R R
  ·refine rm 6 R (Ak (Bs ?_))
   obtain rfl:=SJ h
   exact dnT R R R R
 ·refine rm 11 R (Ak (Bs ?_))
  obtain rfl:=SJ h
  exact dnT R R R R
def Ji (a0:Az):Option Cj :=
 some (Cj.mk a0.Tx a0.Rng.Lo a0.Rng.Hi a0.Rng.Open)
theorem P3 {a0:Az} {r:Cj} (h:Ji a0=some r):Br Tryz.prog 236 [.agg (EL.el a0)] (·=.s (.agg (EL.el r))):=by
 unfold Ji at h
 refine A2 Tryz.func236 R (nt:=17) R (Nbl R) ?_
 intro w0 S0
 refine csr (F2 R R (Bo R Avc (Ak (csr (fl Acj ti3 R R R R R R (sv R (Ac Xf R) (fl Aa7 N2 R R R R R R (sv R (Wi (l:=a0.Rng.Lo) Tryz.underlying56 Tryz.underlying5 Tryz.underlying9 R R R) (sv R (Ac Xf R) (fl Ya N2 R R R R R R (sv R (Wi (l:=a0.Rng.Hi) Tryz.underlying56 Tryz.underlying5 Tryz.underlying9 R R R) (sv R (Ac Xf R) (fl Ai7 ti4 R R R R R R (sv R (A3 Avc Axy (Av R (Av R (Av R (Av R Ay)))) (.cons _ _ _ _ _ _ _ R R (Nbl R) (.cons _ _ _ _ _ _ _ R R (Nbl R) (.cons _ _ _ _ _ _ _ R R (Nbl R) (.cons _ _ _ _ _ _ _ R R (Nbl R) (.nil _)))))) (sst Ax8 R R R R R (Ak (Bs ?_)))))))))))))))))
 obtain rfl:=SJ h
 exact dnA R Aw9 R (.lp _ _ _ R) (Nbl R) R R
def Nb (b1:(List (Cj × Int))):Option (List (Cj × Int)) :=
 some b1
def E8 (a0:List Az) (s2:Int × (List (Cj × Int))):Option (LB (Int × (List (Cj × Int))) ((List (Cj × Int)))) :=
 if (decide (s2.1<(a0.length:Int))) then ((idx a0 s2.1).bind fun u3=>(Ji u3).bind fun v4=>some (.cont ((wI (s2.1+1)),(Vg s2.2 v4 s2.1)))) else (some (.brk s2.2))
def Hb (a0:List Az):Option (List (Cj × Int)) :=
 (Cw (E8 a0) fuel (0,([]:List (Cj × Int)))).bind fun e5=>Nb e5
theorem Qv {a0:List Az} {r:(List (Cj × Int))} (h:Hb a0=some r):Dn Tryz.prog 185 [] [.one (.sl a0.length (a0.flatMap Aq))] (fun y m'=>y=.s (.one (.mp 0 0))∧m'=[Uu D2 r]):=by
 unfold Hb at h
 refine Dk Tryz.func185 R (nt:=20) R (Nbl R) ?_
 intro w0 S0 X0 H0
 refine csr (rm 1 R (Ak (csr (Ap8 D2 R (rm 1 R (Ak (Bn (csr (rm 1 R (sv R (Au Aa6 R) (rm 1 R (Ak (cj ((List (Cj × Int))) (fun b1=>[(3,.s (.one (.mp 0 0)))]) (fun b1=>[Uu D2 b1]) (fun b1=>Nb b1=some r) (fun _=>R) (fun b1 h=>?_) ?_)))))))))))))
 ·unfold Nb at h
  refine csr (rm 2 R (Ak (Bs ?_)))
  obtain rfl:=SJ h
  exact ⟨Or.inr R,_,[0],[.one (.mp 0 0)],[Uu D2 b1],(Ad (rt R) Aj),R,R,⟨by decide,R⟩,R,R,⟨R,R⟩⟩
 ·skip
  refine Bq ?_
  obtain ⟨x2,hx2,ho2⟩:=Ae h
  refine lpo (G:=Nat × (Int × (List (Cj × Int)))) (fun g=>[(3,.s (.one (.mp 0 0))),(7,.s (.one (.sl a0.length (a0.flatMap Aq)))),(8,.s (.one (Ii6 (a0.length:Int)))),(9,.s (.one (Ii6 g.2.1)))]) (fun g=>[Uu D2 g.2.2]) (fun g=>Cw (E8 a0) g.1 g.2=some x2) (fun g=>g.1) (fuel,(0,([]:List (Cj × Int)))) hx2 ⟨R,R,R,R,trivial⟩ [] R (fun _=>R) ?_
  clear hx2 h
  rintro ⟨n2,s2⟩ h
  obtain ⟨n2,y2,rfl,h,hk2⟩:=Cy h
  unfold E8 at h
  refine csr (sv R (Bt R R) (Ak (Bn (ccI h R (fun h=>?_) (fun h=>?_)))))
  ·refine Bf (Ab (Bn (Bq (csr (sv R (A4 R) ?_)))))
   obtain ⟨u3,hu3,h⟩:=Ae h
   refine sv R (Cb (f:=Aq) Aa6 (fun _=>R) R R R R hu3) ?_
   refine sv R (Bz (ys:=[Ii6 u3.Tx,.sl u3.Rng.Lo.length (u3.Rng.Lo.flatMap eU8),.sl u3.Rng.Hi.length (u3.Rng.Hi.flatMap eU8),.b u3.Rng.Open]) Aa0 R (.cp _) R R) (Bo R Aka (rm 1 R (sst Ale R R R R R (Ak (Ap (rm 1 R (sv R (lo Aa0 R R R) ?_)))))))
   obtain ⟨v4,hv4,h⟩:=Ae h
   refine A8 R Awh (Aa R Af) (An R) (P3 hv4) (rm 1 R (Ar3 (M:=s2.2) (k:=v4) (i:=s2.1) Aua Tryz.underlying299 R R R R (Pq [Uu D2 (Vg s2.2 v4 s2.1),.box (EL.el u3)] R (Ki (Ao (Ab (Ap (sv R (Bm R R) (rm 1 R (Ak ?_))))))))))
   obtain rfl:=SJ h
   exact ⟨(n2,((wI (s2.1+1)),(Vg s2.2 v4 s2.1))),_,hk2,⟨R,R,R,R,trivial⟩,R,zH _⟩
  ·refine Dd (Ar (Ar (Bj (Ab ?_))))
   obtain rfl:=SJ h
   obtain rfl:_=x2:=hk2
   exact ⟨s2.2,_,ho2,⟨R,trivial⟩,R⟩
def I2 (a0:Bu) (b1:Unit):Option Bool :=
 if (decide ((a0.L.length:Int)≤128)) then ((Hb a0.L).bind fun v3=>some (decide ((v3.length:Int)=(a0.L.length:Int)))) else (some false)
def Gi (a0:Bu) (s4:Int):Option (LR (Int) (Unit) (Bool)) :=
 if (decide (s4<(a0.L.length:Int))) then ((idx a0.L s4).bind fun u5=>(C4 u5).bind fun v6=>if (!v6) then (some (.ret false)) else (some (.cont (wI (s4+1))))) else (some (.brk ()))
def Gb (a0:Bu):Option Bool :=
 (Lj (Gi a0) fuel 0).bind fun x=>match x with | .inl r=>some r | .inr e7=>I2 a0 e7
theorem Rr {a0:Bu} {r:Bool} (h:Gb a0=some r):Br Tryz.prog 110 [.agg [.sl a0.L.length (a0.L.flatMap Aq)]] (·=.s (.one (.b r))):=by
 unfold Gb at h
 refine A2 Tryz.func110 R (nt:=30) R (Nbl R) ?_
 intro w0 S0
 refine csr (F2 R R (rm 1 R (Ak (Bn (csr (fl U6 Aj2 R R R R R R (sv R (Au Aa6 R) (rm 1 R (Ak (cj (Unit) (fun b1=>[(1,.s (.one (.lp 0 0)))]) (fun b1=>[.box [.sl a0.L.length (a0.L.flatMap Aq)]]) (fun b1=>I2 a0 b1=some r) (fun _=>R) (fun b1 h=>?_) ?_))))))))))
 ·unfold I2 at h
  refine Bn (Ym ?_)
  rcases Bool.eq_false_or_eq_true (decide ((a0.L.length:Int)≤128)) with hg2 | hg2
  ·replace h:=Ve hg2 h
   obtain ⟨v3,hv3,h⟩:=Ae h
   refine Ku [7] [0,1,3,7,15,31,63,127,255,31,543,1567,4095,8191,16383] [[.box [.sl a0.L.length (a0.L.flatMap Aq)],.hole],[.box [.sl a0.L.length (a0.L.flatMap Aq)],Uu D2 v3]] (by kernel_rfl) mixed (by kernel_rfl) (by decide) R R R R ?_
   refine ev (A9 0 R R) R R (Ac U6 R) (ev (A9 0 R R) R R (l1 Aj2 R R R) (ev (A9 0 R R) R R (Au Aa6 R) (ev (A9 0 R R) R R (Dl R R) (ev (A9 0 R R) R R (A4 R) (Aq1 20 R (fun _=>?_) (fun hx=>Bool.noConfusion (hg2.symm.trans hx)))))))
   refine evg (A9 0 R R) R R R R (Ac U6 R) (evg (A9 0 R R) R R R R (l1 Aj2 R R R) (eeg (x:=.s (.one (.mp 0 1))) 0 R R R R R R R (fun ζ=>?_) ?_))
   ·refine Afi 1 R Av4 (.func _) (Aa R Af) (Qv hv3) R R R ?_
    exact Rk
   refine evg (A9 1 R R) R R R R (Akd (e:=D2) (M:=v3) Tryz.underlying299 R R) (evg (B9 (md:=[.box [.sl a0.L.length (a0.L.flatMap Aq)],.dead]) ⟨⟨R,⟨trivial,trivial⟩⟩,⟨⟨R,⟨trivial,trivial⟩⟩,trivial⟩⟩) R R R R (Ac U6 R) (evg (B9 (md:=[.box [.sl a0.L.length (a0.L.flatMap Aq)],.dead]) ⟨⟨R,⟨trivial,trivial⟩⟩,⟨⟨R,⟨trivial,trivial⟩⟩,trivial⟩⟩) R R R R (l1 Aj2 R R R) (evg (B9 (md:=[.box [.sl a0.L.length (a0.L.flatMap Aq)],.dead]) ⟨⟨R,⟨trivial,trivial⟩⟩,⟨⟨R,⟨trivial,trivial⟩⟩,trivial⟩⟩) R R R R (Au Aa6 R) (evg (A9 1 R R) R R R R (B0 R R) (ev (A9 1 R R) R R (H8 R R) (ev (A9 1 R R) R R (Lh R) (Abf (Ab (Bs ?_)))))))))
   obtain rfl:=SJ h
   exact dnT R R R R
  ·replace h:=Vh hg2 h
   refine Ku [] [0,1,3,7,15,31,63,127,255,31,543,1567,4095,8191,16383] [[.box [.sl a0.L.length (a0.L.flatMap Aq)],.hole]] (by kernel_rfl) mixed (by kernel_rfl) (by decide) R R R R ?_
   refine ev (A9 0 R R) R R (Ac U6 R) (ev (A9 0 R R) R R (l1 Aj2 R R R) (ev (A9 0 R R) R R (Au Aa6 R) (ev (A9 0 R R) R R (Dl R R) (ev (A9 0 R R) R R (A4 R) (Aq1 20 R (fun hx=>Bool.noConfusion (hg2.symm.trans hx)) (fun _=>?_))))))
   refine Ad1 R R R R R (Ad1 R R R R R (Ad1 R R R R R (Ad1 R R R R R (Ad1 R R R R R (Ad1 R R R R R (Ad1 R R R R R (Ad1 R R R R R (ev (A9 0 R R) R R (Mz R R) (ev (A9 0 R R) R R (Lh R) (Abf (Ab (Bs ?_))))))))))))
   obtain rfl:=SJ h
   exact dnT R R R R
 ·skip
  refine Bq ?_
  obtain ⟨x4,hx4,ho4⟩:=Ae h
  refine lpo (G:=Nat × (Int)) (fun g=>[(1,.s (.one (.lp 0 0))),(6,.s (.one (.sl a0.L.length (a0.L.flatMap Aq)))),(7,.s (.one (Ii6 (a0.L.length:Int)))),(8,.s (.one (Ii6 g.2)))]) (fun g=>[.box [.sl a0.L.length (a0.L.flatMap Aq)]]) (fun g=>Lj (Gi a0) g.1 g.2=some x4) (fun g=>g.1) (fuel,0) hx4 ⟨R,R,R,R,trivial⟩ [] R (fun _=>R) ?_
  clear hx4 h
  rintro ⟨n4,s4⟩ h
  obtain ⟨n4,y4,rfl,h,hk4⟩:=Fh h
  unfold Gi at h
  refine csr (sv R (Bt R R) (Ak (Bn (ccI h R (fun h=>?_) (fun h=>?_)))))
  ·refine Bf (Ab (Bn (Bq (Bn (Ap ?_)))))
   obtain ⟨u5,hu5,h⟩:=Ae h
   refine sv R (Cb (f:=Aq) Aa6 (fun _=>R) R R R R hu5) ?_
   refine sv R (Bz (ys:=[Ii6 u5.Tx,.sl u5.Rng.Lo.length (u5.Rng.Lo.flatMap eU8),.sl u5.Rng.Hi.length (u5.Rng.Hi.flatMap eU8),.b u5.Rng.Open]) Aa0 R (.cp _) R R) (Bo R Aka (sst Ale R R R R R (Ak (csr (sv R (lo Aa0 R R R) ?_)))))
   obtain ⟨v6,hv6,h⟩:=Ae h
   refine A8 R Avk (Aa R Af) (An R) (Pk hv6) (sv R (B1 R) (Ak (ccI h R (fun h=>?_) (fun h=>?_))))
   ·refine csr (rm 1 R (Ak (Bs (A0 (Ag (Ag (A0 (Ag ?_))))))))
    obtain rfl:=SJ h
    obtain rfl:Sum.inl _=x4:=hk4
    replace ho4:some _=some _:=ho4
    obtain rfl:=zD ho4
    exact dnT R R R R
   ·refine Bf (Ao (Ab (Ap (sv R (Bm R R) (rm 1 R (Ak ?_))))))
    obtain rfl:=SJ h
    exact ⟨(n4,(wI (s4+1))),_,hk4,⟨R,R,R,R,trivial⟩,R,zH _⟩
  ·refine Dd (Ar (Ar (Bj (Ab ?_))))
   obtain rfl:=SJ h
   obtain rfl:_=x4:=hk4
   exact ⟨(),_,ho4,⟨R,trivial⟩,R⟩
def Gy (a0:List (List UInt8)) (b1:Unit):Option Bool :=
 (Cm a0).bind fun v2=>some v2
def E9 (a0:List (List UInt8)) (s3:Int):Option (LR (Int) (Unit) (Bool)) :=
 if (decide (s3<(a0.length:Int))) then ((idx a0 s3).bind fun u4=>(Ez u4).bind fun v5=>if (!v5) then (some (.ret false)) else (some (.cont (wI (s3+1))))) else (some (.brk ()))
def Hg (a0:List (List UInt8)):Option Bool :=
 (Lj (E9 a0) fuel 0).bind fun x=>match x with | .inl r=>some r | .inr e6=>Gy a0 e6
theorem Qp {a0:List (List UInt8)} {r:Bool} (h:Hg a0=some r):Br Tryz.prog 186 [.one (.sl a0.length (a0.flatMap (eL eU8)))] (·=.s (.one (.b r))):=by
 unfold Hg at h
 refine A2 Tryz.func186 R (nt:=17) R (Nbl R) ?_
 intro w0 S0
 refine csr (rm 1 R (Ak (Bn (csr (rm 1 R (sv R (Au S6 R) (rm 1 R (Ak (cj (Unit) (fun b1=>[(0,.s (.one (.sl a0.length (a0.flatMap (eL eU8)))))]) (fun b1=>[]) (fun b1=>Gy a0 b1=some r) (fun _=>R) (fun b1 h=>?_) ?_)))))))))
 ·unfold Gy at h
  refine csr (sv R (A4 R) ?_)
  obtain ⟨v2,hv2,h⟩:=Ae h
  refine A8 R Apw (Aa R Af) (An R) (Lz hv2) (rm 1 R (Ak (Bs ?_)))
  obtain rfl:=SJ h
  exact dnT R R R R
 ·skip
  refine Bq ?_
  obtain ⟨x3,hx3,ho3⟩:=Ae h
  refine lpo (G:=Nat × (Int)) (fun g=>[(0,.s (.one (.sl a0.length (a0.flatMap (eL eU8))))),(5,.s (.one (.sl a0.length (a0.flatMap (eL eU8))))),(6,.s (.one (Ii6 (a0.length:Int)))),(7,.s (.one (Ii6 g.2)))]) (fun g=>[]) (fun g=>Lj (E9 a0) g.1 g.2=some x3) (fun g=>g.1) (fuel,0) hx3 ⟨R,R,R,R,trivial⟩ [] R (fun _=>R) ?_
  clear hx3 h
  rintro ⟨n3,s3⟩ h
  obtain ⟨n3,y3,rfl,h,hk3⟩:=Fh h
  unfold E9 at h
  refine csr (sv R (Bt R R) (Ak (Bn (ccI h R (fun h=>?_) (fun h=>?_)))))
  ·refine Bf (Ab (Bn (Bq (Bn (Ap ?_)))))
   obtain ⟨u4,hu4,h⟩:=Ae h
   refine sv R (Cb (f:=(eL eU8)) S6 (fun _=>R) R R R R hu4) ?_
   refine sv R (B6 N2 R (.cp _) R) (rm 1 R (Ak (csr (sv R (A4 R) ?_))))
   obtain ⟨v5,hv5,h⟩:=Ae h
   refine A8 R Awu (Aa R Af) (An R) (N8 hv5) (sv R (B1 R) (Ak (ccI h R (fun h=>?_) (fun h=>?_))))
   ·refine csr (rm 1 R (Ak (Bs (A0 (Ag (Ag (A0 (Ag ?_))))))))
    obtain rfl:=SJ h
    obtain rfl:Sum.inl _=x3:=hk3
    replace ho3:some _=some _:=ho3
    obtain rfl:=zD ho3
    exact dnT R R R R
   ·refine Bf (Ao (Ab (Ap (sv R (Bm R R) (rm 1 R (Ak ?_))))))
    obtain rfl:=SJ h
    exact ⟨(n3,(wI (s3+1))),_,hk3,⟨R,R,R,R,trivial⟩,R,zH _⟩
  ·refine Dd (Ar (Ar (Bj (Ab ?_))))
   obtain rfl:=SJ h
   obtain rfl:_=x3:=hk3
   exact ⟨(),_,ho3,⟨R,trivial⟩,R⟩
def Lx (a0:A1) (b1:Unit):Option Bool :=
 if (decide (a0.State=1)) then (if (decide (a0.End=0)) then (some (decide ((a0.Keys.length:Int)=0))) else (some false)) else (if (decide (a0.State=2)) then (if (decide (a0.Begin<a0.End)) then (if (decide (a0.End≤1099511627776)) then ((Hg a0.Keys).bind fun v2=>if v2 then (if a0.RO then (some (!(decide (0<(a0.Keys.length:Int))))) else (some true)) else (some false)) else (some false)) else (some false)) else (some false))
def Kf (a0:A1):Option Bool :=
 if (decide (a0.ID<0)) then (some false) else (if (decide (a0.Begin<0)) then (some false) else (if (decide (1099511627776<a0.Begin)) then (some false) else (Lx a0 ())))
theorem Rp {a0:A1} {r:Bool} (h:Kf a0=some r):Br Tryz.prog 111 [.agg (EL.el a0)] (·=.s (.one (.b r))):=by
 unfold Kf at h
 refine A2 Tryz.func111 R (nt:=57) R (Nbl R) ?_
 intro w0 S0
 refine csr (F2 R R (rm 1 R (Ak (Bn (Bn (cj3 (Unit) (fun b1=>[(1,.s (.one (.lp 0 0)))]) (fun b1=>[.box (EL.el a0)]) (fun b1=>Lx a0 b1=some r) (fun _=>R) (fun b1 h=>?_) ?_))))))
 ·unfold Lx at h
  refine Bn (csr (fl O6 ti3 R R R R R R (Ak (Bq (csr (sv R (B0 R R) (rm 1 R (Ak (ccI h R (fun h=>?_) (fun h=>?_))))))))))
  ·refine csr (fl Qo ti3 R R R R R R (sv R (B0 R R) (rm 1 R (ssI 23 h R (fun h=>?_) (fun h=>?_)))))
   ·refine son R R R (sv R (Ac T4 R) (son R R R (sv R (l1 Ac0 R R R) (son R R R (sv R (Au S6 R) (son R R R (sv R (B0 R R) (rm 2 R (Ak (Bs (A0 (Ag ?_))))))))))))
    obtain rfl:=SJ h
    exact dnT R R R R
   ·refine rm 6 R (Ak (Bs (A0 (Ag ?_))))
    obtain rfl:=SJ h
    exact dnT R R R R
  ·refine csr (sv R (B0 R R) (rm 1 R (Ak (ccI h R (fun h=>?_) (fun h=>?_)))))
   ·refine csr (fl Qo ti3 R R R R R R (fl Vp ti3 R R R R R R (sv R (C9 R R) (rm 1 R (ssI 36 h R (fun h=>?_) (fun h=>?_))))))
    ·refine son R R R (sv R (Ac Qo R) (son R R R (sv R (l1 ti3 R R R) (son R R R (sv R (Dl R R) (rm 2 R (ssI 41 h R (fun h=>?_) (fun h=>?_))))))))
     ·refine son R R R (sv R (Ac T4 R) (son R R R (sv R (l1 Ac0 R R R) (son R R R ?_))))
      obtain ⟨v2,hv2,h⟩:=Ae h
      refine A8 R Aws (Aa R Af) (An R) (Qp hv2) (rm 2 R (ssI 46 h R (fun h=>?_) (fun h=>?_)))
      ·refine son R R R (sv R (Ac Age R) (son R R R (sv R (l1 ti4 R R R) (rm 1 R (ssI 49 h R (fun h=>?_) (fun h=>?_))))))
       ·refine son R R R (sv R (Ac T4 R) (son R R R (sv R (l1 Ac0 R R R) (son R R R (sv R (Au S6 R) (son R R R (sv R (C9 R R) (rm 1 R (son R R R (sv R (B1 R) (rm 2 R (Ak (Bs (A0 (Ag ?_)))))))))))))))
        obtain rfl:=SJ h
        exact dnT R R R R
       ·refine rm 5 R (son R R R (sv R (B1 R) (rm 2 R (Ak (Bs (A0 (Ag ?_)))))))
        obtain rfl:=SJ h
        exact dnT R R R R
      ·refine rm 3 R (B8 R R R (B8 R R R (B8 R R R (B8 R R R (rm 4 R (Ak (Bs (A0 (Ag ?_)))))))))
       obtain rfl:=SJ h
       exact dnT R R R R
     ·refine rm 8 R (B8 R R R (B8 R R R (B8 R R R (B8 R R R (rm 4 R (Ak (Bs (A0 (Ag ?_)))))))))
      obtain rfl:=SJ h
      exact dnT R R R R
    ·refine rm 13 R (B8 R R R (B8 R R R (B8 R R R (B8 R R R (rm 4 R (Ak (Bs (A0 (Ag ?_)))))))))
     obtain rfl:=SJ h
     exact dnT R R R R
   ·refine Bf (Ao (Ab (csr (rm 1 R (Ak (Bs ?_))))))
    obtain rfl:=SJ h
    exact dnT R R R R
 ·skip
  refine Ap (fl Tm ti3 R R R R R R (sv R (Bt R R) (rm 1 R (ssI 6 h R (fun h=>?_) (fun h=>?_)))))
  ·refine rm 9 R (Ak (Ck R (fun _=>?_) (fun hx=>Bool.noConfusion hx)))
   refine csr (rm 1 R (Ak (Bs (Ag ?_))))
   obtain rfl:=SJ h
   exact dnT R R R R
  ·refine son R R R (sv R (Ac Vp R) (son R R R (sv R (l1 ti3 R R R) (son R R R (sv R (Bt R R) (rm 2 R (ssI 11 h R (fun h=>?_) (fun h=>?_))))))))
   ·refine rm 4 R (Ak (Ck R (fun _=>?_) (fun hx=>Bool.noConfusion hx)))
    refine csr (rm 1 R (Ak (Bs (Ag ?_))))
    obtain rfl:=SJ h
    exact dnT R R R R
   ·refine son R R R (sv R (Ac Vp R) (son R R R (sv R (l1 ti3 R R R) (son R R R (sv R (C9 R R) (rm 1 R (Ak (ccI h R (fun h=>?_) (fun h=>?_)))))))))
    ·refine csr (rm 1 R (Ak (Bs (Ag ?_))))
     obtain rfl:=SJ h
     exact dnT R R R R
    ·refine Bf (Ab ?_)
     exact ⟨(),_,h,⟨R,trivial⟩,R⟩
def He (a0:A1) (a1:A1) (b1:Bool):Option Bool :=
 if (decide (a0.ID=a1.ID)) then (some true) else (if (decide (a0.State=2)) then (if (decide (a1.State=2)) then (if (decide (a0.End=a1.End)) then (some b1) else (some false)) else (some false)) else (some false))
def Nh (a0:A1) (a1:A1):Option Bool :=
 if (decide (0<(a0.Keys.length:Int))) then (He a0 a1 true) else (He a0 a1 (decide (0<(a1.Keys.length:Int))))
theorem Yw {a0:A1} {a1:A1} {r:Bool} (h:Nh a0 a1=some r):Br Tryz.prog 112 [.agg (EL.el a0),.agg (EL.el a1)] (·=.s (.one (.b r))):=by
 unfold Nh at h
 refine A2 Tryz.func112 R (nt:=41) R (Nbl R) ?_
 intro w0 S0
 refine csr (F2 R R (F2 R R (rm 1 R (Ak (Bn (cj (Bool) (fun b1=>[(2,.s (.one (.lp 0 0))),(3,.s (.one (.lp 1 0))),(5,.s (.one (.b b1)))]) (fun b1=>[.box (EL.el a0),.box (EL.el a1)]) (fun b1=>He a0 a1 b1=some r) (fun _=>R) (fun b1 h=>?_) ?_))))))
 ·unfold He at h
  refine csr (fl Tm ti3 R R R R R R (fl Tm ti3 R R R R R R (sv R (B0 R R) (rm 1 R (ssI 21 h R (fun h=>?_) (fun h=>?_))))))
  ·refine rm 4 R (B8 R R R (B8 R R R (B8 R R R (rm 2 R (B8 R R R (B8 R R R (B8 R R R (B8 R R R (B8 R R R (rm 2 R (B8 R R R (rm 3 R (Ak (Bs ?_))))))))))))))
   obtain rfl:=SJ h
   exact dnT R R R R
  ·refine son R R R (sv R (Ac O6 R) (son R R R (sv R (l1 ti3 R R R) (son R R R (sv R (B0 R R) (rm 1 R (ssI 25 h R (fun h=>?_) (fun h=>?_))))))))
   ·refine son R R R (sv R (Ac O6 R) (son R R R (sv R (l1 ti3 R R R) (son R R R (sv R (B0 R R) (rm 2 R (ssI 30 h R (fun h=>?_) (fun h=>?_))))))))
    ·refine son R R R (sv R (Ac Qo R) (son R R R (sv R (l1 ti3 R R R) (son R R R (sv R (Ac Qo R) (son R R R (sv R (l1 ti3 R R R) (son R R R (sv R (B0 R R) (rm 2 R (ssI 37 h R (fun h=>?_) (fun h=>?_))))))))))))
     ·refine rm 4 R (Ak (Bs ?_))
      obtain rfl:=SJ h
      exact dnT R R R R
     ·refine rm 4 R (Ak (Bs ?_))
      obtain rfl:=SJ h
      exact dnT R R R R
    ·refine rm 11 R (Ak (Bs ?_))
     obtain rfl:=SJ h
     exact dnT R R R R
   ·refine rm 16 R (Ak (Bs ?_))
    obtain rfl:=SJ h
    exact dnT R R R R
 ·skip
  refine Ap (fl T4 Ac0 R R R R R R (sv R (Au S6 R) (sv R (C9 R R) (rm 1 R (ssI 10 h R (fun h=>?_) (fun h=>?_))))))
  ·refine rm 6 R (Ak ?_)
   exact ⟨true,_,h,⟨R,R,R,trivial⟩,R⟩
  ·refine son R R R (sv R (Ac T4 R) (son R R R (sv R (l1 Ac0 R R R) (son R R R (sv R (Au S6 R) (son R R R (sv R (C9 R R) (rm 2 R (Ak ?_)))))))))
   exact ⟨(decide (0<(a1.Keys.length:Int))),_,h,⟨R,R,R,trivial⟩,R⟩
def Ql (b1:(List Int)):Option (List Int) :=
 some b1
def Kt (a0:List A1) (s2:Int × (List Int)):Option (LB (Int × (List Int)) ((List Int))) :=
 if (decide (s2.1<(a0.length:Int))) then ((idx a0 s2.1).bind fun u3=>if (s2.2.length+[u3.ID].length)*8≤140737488355328 then (some (.cont ((wI (s2.1+1)),(s2.2++[u3.ID])))) else none) else (some (.brk s2.2))
def N1 (a0:List A1):Option (List Int) :=
 (Cw (Kt a0) fuel (0,([]:List Int))).bind fun e5=>Ql e5
theorem U5 {a0:List A1} {r:(List Int)} (h:N1 a0=some r):Br Tryz.prog 114 [.one (.sl a0.length (a0.flatMap Bb))] (·=.s (.one (.sl r.length (r.flatMap eI)))):=by
 unfold N1 at h
 refine A2 Tryz.func114 R (nt:=19) R (Nbl R) ?_
 intro w0 S0
 refine csr (rm 1 R (Ak (csr (rm 1 R (Ak (Bn (csr (rm 1 R (sv R (Au Qd R) (rm 1 R (Ak ?_)))))))))))
 refine Dh 3 1 3 (by decide) R ?_
 refine cj ((List Int)) (fun b1=>[(3,.s (.one (.ls 0 b1.length)))]) (fun b1=>[.arr 3 1 0 (b1.flatMap eI)]) (fun b1=>Ql b1=some r) (fun _=>R) (fun b1 h=>?_) ?_
 ·unfold Ql at h
  refine csr (rm 2 R (Ak (Bs ?_)))
  obtain rfl:=SJ h
  refine ⟨Or.inr R,_,_,_,(Ad (rt R) Aj),(by (repeat' first | exact H6.nil _ | apply H6.cons | apply Hy.one | apply Hy.agg | exact C7.nil | exact C7.ls _ _ _ _ _ _ R (Aw (f:=eI) (fun _=>R) _).symm | exact C7.id _ R | exact Cs.nil _ | apply Cs.cons)),?_⟩
  rfl
 ·skip
  refine Bq ?_
  obtain ⟨x2,hx2,ho2⟩:=Ae h
  refine lpo (G:=Nat × (Int × (List Int))) (fun g=>[(3,.s (.one (.ls 0 g.2.2.length))),(6,.s (.one (.sl a0.length (a0.flatMap Bb)))),(7,.s (.one (Ii6 (a0.length:Int)))),(8,.s (.one (Ii6 g.2.1)))]) (fun g=>[.arr 3 1 0 (g.2.2.flatMap eI)]) (fun g=>Cw (Kt a0) g.1 g.2=some x2) (fun g=>g.1) (fuel,(0,([]:List Int))) hx2 ⟨R,R,R,R,trivial⟩ [] R (fun _=>R) ?_
  clear hx2 h
  rintro ⟨n2,s2⟩ h
  obtain ⟨n2,y2,rfl,h,hk2⟩:=Cy h
  unfold Kt at h
  refine csr (sv R (Bt R R) (Ak (Bn (ccI h R (fun h=>?_) (fun h=>?_)))))
  ·refine Bf (Ab (Bn (Bq (Bn (Ap ?_)))))
   obtain ⟨u3,hu3,h⟩:=Ae h
   refine sv R (Cb (f:=Bb) Qd (fun _=>R) R R R R hu3) ?_
   refine sv R (Bz (ys:=[Ii6 u3.ID,Ii6 u3.Begin,Ii6 u3.End,Ii6 u3.State,.b u3.In,.b u3.Out,.b u3.RO,.sl u3.Keys.length (u3.Keys.flatMap (eL eU8))]) Jr R (.cp _) R R) (Bo R S8 (sst Si R R R R R (Ak (Ap (rm 1 R (sv R (Ac Tm R) (sv R (l1 ti3 R R R) ?_)))))))
   refine Fo R Tryz.underlying225 ei3 R R (zJ.1 R) (by decide) ?_
   refine Pq [.arr 3 1 0 (s2.2.flatMap eI),.box (EL.el u3),.arr 3 1 0 ([u3.ID].flatMap eI)] R ?_
   obtain ⟨hb4,h⟩:=Cr h
   refine Ub (f:=eI) (xs:=s2.2) (us:=[u3.ID]) R Tryz.underlying225 ei3 Alw (fun _=>R) R R (.one _ _ _ _ (.ls _ _ _ _ _ _ R (Aw (f:=eI) (fun _=>R) [u3.ID]).symm)) R R R (.sl _ _ _ (Aw (f:=eI) (fun _=>R) _)) R R hb4 (by decide) ?_
   refine rm 1 R (Ki (Ao (Ab (Ap (sv R (Bm R R) (rm 1 R (Ak ?_)))))))
   obtain rfl:=SJ h
   exact ⟨(n2,((wI (s2.1+1)),(s2.2++[u3.ID]))),_,hk2,⟨R,R,R,R,trivial⟩,R,zH _⟩
  ·refine Dd (Ar (Ar (Bj (Ab ?_))))
   obtain rfl:=SJ h
   obtain rfl:_=x2:=hk2
   exact ⟨s2.2,_,ho2,⟨R,trivial⟩,R⟩
def M8 (b1:Unit):Option Int :=
 some (-1)
def Dy (a0:List Int) (a1:Int) (s2:Int):Option (LR (Int) (Unit) (Int)) :=
 if (decide (s2<(a0.length:Int))) then ((idx a0 s2).bind fun u3=>if (decide (a1=u3)) then (some (.ret s2)) else (some (.cont (wI (s2+1))))) else (some (.brk ()))
def Es (a0:List Int) (a1:Int):Option Int :=
 (Lj (Dy a0 a1) fuel 0).bind fun x=>match x with | .inl r=>some r | .inr e4=>M8 e4
theorem Qw {a0:List Int} {a1:Int} {r:Int} (h:Es a0 a1=some r):Br Tryz.prog 197 [.one (.sl a0.length (a0.flatMap eI)),.one (Ii6 a1)] (·=.s (.one (Ii6 r))):=by
 unfold Es at h
 refine A2 Tryz.func197 R (nt:=19) R (Nbl R) ?_
 intro w0 S0
 refine csr (rm 1 R (Ak (Bn (csr (rm 1 R (sv R (Au Asv R) (rm 1 R (Ak (cj (Unit) (fun b1=>[]) (fun b1=>[]) (fun b1=>M8 b1=some r) (fun _=>R) (fun b1 h=>?_) ?_)))))))))
 ·unfold M8 at h
  refine csr (rm 1 R (Ak (Bs ?_)))
  obtain rfl:=SJ h
  exact dnT R R R R
 ·skip
  refine Bq ?_
  obtain ⟨x2,hx2,ho2⟩:=Ae h
  refine lpo (G:=Nat × (Int)) (fun g=>[(0,.s (.one (.sl a0.length (a0.flatMap eI)))),(1,.s (.one (Ii6 a1))),(7,.s (.one (Ii6 (a0.length:Int)))),(8,.s (.one (Ii6 g.2)))]) (fun g=>[]) (fun g=>Lj (Dy a0 a1) g.1 g.2=some x2) (fun g=>g.1) (fuel,0) hx2 ⟨R,R,R,R,trivial⟩ [] R (fun _=>R) ?_
  clear hx2 h
  rintro ⟨n2,s2⟩ h
  obtain ⟨n2,y2,rfl,h,hk2⟩:=Fh h
  unfold Dy at h
  refine csr (sv R (Bt R R) (Ak (Bn (ccI h R (fun h=>?_) (fun h=>?_)))))
  ·refine Bf (Ab (Bn (Bq (csr (rm 2 R (Ak (csr (rm 2 R (sv R (A4 R) ?_)))))))))
   obtain ⟨u3,hu3,h⟩:=Ae h
   refine sv R (Cb (f:=eI) Asv (fun _=>R) R R R R hu3) ?_
   refine sv R (B6 ti3 R (.cp _) R) (sv R (B0 R R) (Ak (ccI h R (fun h=>?_) (fun h=>?_))))
   ·refine csr (rm 2 R (Ak (Bs (A0 (Ag (Ag (A0 (Ag ?_))))))))
    obtain rfl:=SJ h
    obtain rfl:Sum.inl _=x2:=hk2
    replace ho2:some _=some _:=ho2
    obtain rfl:=zD ho2
    exact dnT R R R R
   ·refine Bf (Ao (Ab (Ap (sv R (Bm R R) (rm 1 R (Ak ?_))))))
    obtain rfl:=SJ h
    exact ⟨(n2,(wI (s2+1))),_,hk2,⟨R,R,R,R,trivial⟩,R,zH _⟩
  ·refine Dd (Ar (Ar (Bj (Ab ?_))))
   obtain rfl:=SJ h
   obtain rfl:_=x2:=hk2
   exact ⟨(),_,ho2,trivial,R⟩
def Dz (a0:List Int) (a1:Int):Option Bool :=
 (Es a0 a1).bind fun v1=>some (decide (0≤v1))
theorem Lr {a0:List Int} {a1:Int} {r:Bool} (h:Dz a0 a1=some r):Br Tryz.prog 237 [.one (.sl a0.length (a0.flatMap eI)),.one (Ii6 a1)] (·=.s (.one (.b r))):=by
 unfold Dz at h
 refine A2 Tryz.func237 R (nt:=9) R (Nbl R) ?_
 intro w0 S0
 refine csr (rm 1 R (Ak (csr (rm 1 R (sv R (A4 R) ?_)))))
 obtain ⟨v1,hv1,h⟩:=Ae h
 refine A8 R Avg (Aa R (Aa R Af)) (An R) (Qw hv1) (sv R (Hn R R) (rm 1 R (Ak (Bs ?_))))
 obtain rfl:=SJ h
 exact dnT R R R R
def N9 (b1:(List Az)):Option Bu :=
 some (Bu.mk b1)
def Gl (a0:Bu) (a1:List Int) (a2:Bool) (s2:Int × (List Az)):Option (LB (Int × (List Az)) ((List Az))) :=
 if (decide (s2.1<(a0.L.length:Int))) then ((idx a0.L s2.1).bind fun u3=>(Dz a1 u3.Tx).bind fun v4=>if (v4 == a2) then (if (s2.2.length+[u3].length)*64≤140737488355328 then (some (.cont ((wI (s2.1+1)),(s2.2++[u3])))) else none) else (some (.cont ((wI (s2.1+1)),s2.2)))) else (some (.brk s2.2))
def Mq (a0:Bu) (a1:List Int) (a2:Bool):Option Bu :=
 (Cw (Gl a0 a1 a2) fuel (0,([]:List Az))).bind fun e6=>N9 e6
theorem Xk {a0:Bu} {a1:List Int} {a2:Bool} {r:Bu} (h:Mq a0 a1 a2=some r):Br Tryz.prog 187 [.agg [.sl a0.L.length (a0.L.flatMap Aq)],.one (.sl a1.length (a1.flatMap eI)),.one (.b a2)] (·=.s (.agg [.sl r.L.length (r.L.flatMap Aq)])):=by
 unfold Mq at h
 refine A2 Tryz.func187 R (nt:=30) R (Nbl R) ?_
 intro w0 S0
 refine csr (F2 R R (Bo R Aor (Ak (csr (rm 1 R (Ak (Bn (csr (fl U6 Aj2 R R R R R R (sv R (Au Aa6 R) (rm 1 R (Ak ?_))))))))))))
 refine Dh 142 4 7 (by decide) R ?_
 refine cj ((List Az)) (fun b1=>[(6,.s (.one (.lp 1 0))),(7,.s (.one (.ls 2 b1.length)))]) (fun b1=>[.box [.sl a0.L.length (a0.L.flatMap Aq)],.box [Znl],.arr 142 4 0 (b1.flatMap Aq)]) (fun b1=>N9 b1=some r) (fun _=>R) (fun b1 h=>?_) ?_
 ·unfold N9 at h
  refine csr (rm 1 R (sv R (A3 Aor Avy (Av R Ay) (.cons _ _ _ _ _ _ _ R R (Nbl R) (.nil _))) (sst Arb R R R R R (Ak (Bs ?_)))))
  obtain rfl:=SJ h
  refine ⟨Or.inr R,_,_,_,(Ad (ra Ab5 R R R) Aj),(by (repeat' first | exact H6.nil _ | apply H6.cons | apply Hy.one | apply Hy.agg | exact C7.nil | exact C7.ls _ _ _ _ _ _ R (Aw (f:=Aq) (fun _=>R) _).symm | exact C7.id _ R | exact Cs.nil _ | apply Cs.cons)),?_⟩
  rfl
 ·skip
  refine Bq ?_
  obtain ⟨x2,hx2,ho2⟩:=Ae h
  refine lpo (G:=Nat × (Int × (List Az))) (fun g=>[(1,.s (.one (.sl a1.length (a1.flatMap eI)))),(2,.s (.one (.b a2))),(6,.s (.one (.lp 1 0))),(7,.s (.one (.ls 2 g.2.2.length))),(11,.s (.one (.sl a0.L.length (a0.L.flatMap Aq)))),(12,.s (.one (Ii6 (a0.L.length:Int)))),(13,.s (.one (Ii6 g.2.1)))]) (fun g=>[.box [.sl a0.L.length (a0.L.flatMap Aq)],.box [Znl],.arr 142 4 0 (g.2.2.flatMap Aq)]) (fun g=>Cw (Gl a0 a1 a2) g.1 g.2=some x2) (fun g=>g.1) (fuel,(0,([]:List Az))) hx2 ⟨R,R,R,R,R,R,R,trivial⟩ [] R (fun _=>R) ?_
  clear hx2 h
  rintro ⟨n2,s2⟩ h
  obtain ⟨n2,y2,rfl,h,hk2⟩:=Cy h
  unfold Gl at h
  refine csr (sv R (Bt R R) (Ak (Bn (ccI h R (fun h=>?_) (fun h=>?_)))))
  ·refine Bf (Ab (Bn (Bq (Bn (Ap ?_)))))
   obtain ⟨u3,hu3,h⟩:=Ae h
   refine sv R (Cb (f:=Aq) Aa6 (fun _=>R) R R R R hu3) ?_
   refine sv R (Bz (ys:=[Ii6 u3.Tx,.sl u3.Rng.Lo.length (u3.Rng.Lo.flatMap eU8),.sl u3.Rng.Hi.length (u3.Rng.Hi.flatMap eU8),.b u3.Rng.Open]) Aa0 R (.cp _) R R) (Bo R Aka (sst Ale R R R R R (Ak (csr (rm 1 R (sv R (Ac Acj R) (sv R (l1 ti3 R R R) ?_)))))))
   obtain ⟨v4,hv4,h⟩:=Ae h
   refine A8 R Atk (Aa R (Aa R Af)) (An R) (Lr hv4) (rm 1 R (sv R (Acs Tryz.underlying4 R R) (Ak (ccI h R (fun h=>?_) (fun h=>?_)))))
   ·refine Ap (rm 1 R (sv R (lo Aa0 R R R) ?_))
    refine Fo R Tryz.underlying30 Anj R R (zJ.1 R) (by decide) ?_
    refine Pq [.box [.sl a0.L.length (a0.L.flatMap Aq)],.box [Znl],.arr 142 4 0 (s2.2.flatMap Aq),.box (EL.el u3),.arr 142 4 0 ([u3].flatMap Aq)] R ?_
    obtain ⟨hb5,h⟩:=Cr h
    refine Ub (f:=Aq) (xs:=s2.2) (us:=[u3]) R Tryz.underlying30 Anj Az1 (fun _=>R) R R (.one _ _ _ _ (.ls _ _ _ _ _ _ R (Aw (f:=Aq) (fun _=>R) [u3]).symm)) R R R (.sl _ _ _ (Aw (f:=Aq) (fun _=>R) _)) R R hb5 (by decide) ?_
    refine rm 1 R (Ki (Ao (Ab (Ap (sv R (Bm R R) (rm 1 R (Ak ?_)))))))
    obtain rfl:=SJ h
    exact ⟨(n2,((wI (s2.1+1)),(s2.2++[u3]))),_,hk2,⟨R,R,R,R,R,R,R,trivial⟩,R,zH _⟩
   ·refine Bf (Ao (Ab (Ap (sv R (Bm R R) (rm 1 R (Ak ?_))))))
    obtain rfl:=SJ h
    exact ⟨(n2,((wI (s2.1+1)),s2.2)),_,hk2,⟨R,R,R,R,R,R,R,trivial⟩,R,zH _⟩
  ·refine Dd (Ar (Ar (Bj (Ab ?_))))
   obtain rfl:=SJ h
   obtain rfl:_=x2:=hk2
   exact ⟨s2.2,_,ho2,⟨R,R,trivial⟩,R⟩
def Kj (a0:Bu) (a1:List Int):Option Bu :=
 (Mq a0 a1 false).bind fun v1=>some v1
theorem R0 {a0:Bu} {a1:List Int} {r:Bu} (h:Kj a0 a1=some r):Br Tryz.prog 113 [.agg [.sl a0.L.length (a0.L.flatMap Aq)],.one (.sl a1.length (a1.flatMap eI))] (·=.s (.agg [.sl r.L.length (r.L.flatMap Aq)])):=by
 unfold Kj at h
 refine A2 Tryz.func113 R (nt:=8) R (Nbl R) ?_
 intro w0 S0
 refine csr (F2 R R (Bo R Aor (Ak (csr (ld Ab5 R R R R (sv R (A4 R) ?_))))))
 obtain ⟨v1,hv1,h⟩:=Ae h
 refine A8 R Aye (Aa R (Aa R (Aa R Af))) (An R) (Xk hv1) (sst Arb R R R R R (Ak (Bs ?_)))
 obtain rfl:=SJ h
 exact dnA R Ab5 R (.lp _ _ _ R) (Nbl R) R R
def Mc (a0:Be) (b2:Unit):Option Bool :=
 (N1 a0.Txs).bind fun v3=>(Kj a0.Reads v3).bind fun v4=>some (decide ((v4.L.length:Int)=0))
def Mh (s5:Int) (b9:Unit):Option (LR (Int) (Unit) (Bool)) :=
 some (.cont (wI (s5+1)))
def H9 (u6:A1) (c8:List A1) (s10:Int):Option (LR (Int) (Unit) (Bool)) :=
 if (decide (s10<(c8.length:Int))) then ((idx c8 s10).bind fun u11=>(Nh u6 u11).bind fun v12=>if v12 then (some (.ret false)) else (some (.cont (wI (s10+1))))) else (some (.brk ()))
def Kk (a0:Be) (s5:Int):Option (LR (Int) (Unit) (Bool)) :=
 if (decide (s5<(a0.Txs.length:Int))) then ((idx a0.Txs s5).bind fun u6=>(Kf u6).bind fun v7=>if (!v7) then (some (.ret false)) else ((cut a0.Txs 0 s5).bind fun c8=>(Lj (H9 u6 c8) fuel 0).bind fun x=>match x with | .inl r=>some (.ret r) | .inr e13=>Mh s5 e13)) else (some (.brk ()))
def N7 (a0:Be) (b1:Unit):Option Bool :=
 (Lj (Kk a0) fuel 0).bind fun x=>match x with | .inl r=>some r | .inr e14=>Mc a0 e14
def Kw (a0:Be):Option Bool :=
 if (decide (64<(a0.Txs.length:Int))) then (some false) else ((Gb a0.Reads).bind fun v15=>if (!v15) then (some false) else (N7 a0 ()))
theorem Pg {a0:Be} {r:Bool} (h:Kw a0=some r):Br Tryz.prog 46 [.agg (EL.el a0)] (·=.s (.one (.b r))):=by
 unfold Kw at h
 refine A2 Tryz.func46 R (nt:=51) R (Nbl R) ?_
 intro w0 S0
 refine csr (F2 R R (rm 1 R (Ak (Bn (Bn (cj3 (Unit) (fun b1=>[(1,.s (.one (.lp 0 0)))]) (fun b1=>[.box (EL.el a0)]) (fun b1=>N7 a0 b1=some r) (fun _=>R) (fun b1 h=>?_) ?_))))))
 ·unfold N7 at h
  refine Bn (csr (fl N0 Aaj R R R R R R (sv R (Au Qd R) (rm 1 R (Ak (cj (Unit) (fun b2=>[(1,.s (.one (.lp 0 0)))]) (fun b2=>[.box (EL.el a0)]) (fun b2=>Mc a0 b2=some r) (fun _=>R) (fun b2 h=>?_) ?_))))))
  ·unfold Mc at h
   refine Bn ?_
   refine Aav mixed (by kernel_rfl) ?_
   refine dv R (Ac X6 R) (dv R (lo Ab5 R R R) (dv R (Ac N0 R) (dv R (l1 Aaj R R R) ?_)))
   obtain ⟨v3,hv3,h⟩:=Ae h
   refine dd R (Db Awo (Aa R Af) R (U5 hv3)) ?_
   obtain ⟨v4,hv4,h⟩:=Ae h
   refine dd R (Db Av3 (Aa R (Aa R Af)) R (R0 hv4)) (dv R (Akb Au5 Aj2 R R) (dv R (Au Aa6 R) (dv R (B0 R R) (dv R (Lh R) (Ad3 (Ab (Bs ?_)))))))
   obtain rfl:=SJ h
   exact dnT R R R R
  ·skip
   refine Bq ?_
   obtain ⟨x5,hx5,ho5⟩:=Ae h
   refine lpo (G:=Nat × (Int)) (fun g=>[(1,.s (.one (.lp 0 0))),(18,.s (.one (.sl a0.Txs.length (a0.Txs.flatMap Bb)))),(19,.s (.one (Ii6 (a0.Txs.length:Int)))),(20,.s (.one (Ii6 g.2)))]) (fun g=>[.box (EL.el a0)]) (fun g=>Lj (Kk a0) g.1 g.2=some x5) (fun g=>g.1) (fuel,0) hx5 ⟨R,R,R,R,trivial⟩ [] R (fun _=>R) ?_
   clear hx5 h
   rintro ⟨n5,s5⟩ h
   obtain ⟨n5,y5,rfl,h,hk5⟩:=Fh h
   unfold Kk at h
   refine csr (sv R (Bt R R) (Ak (Bn (ccI h R (fun h=>?_) (fun h=>?_)))))
   ·refine Bf (Ab (Bn (Bq (csr (sv R (A4 R) ?_)))))
    obtain ⟨u6,hu6,h⟩:=Ae h
    refine sv R (Cb (f:=Bb) Qd (fun _=>R) R R R R hu6) ?_
    refine sv R (Bz (ys:=[Ii6 u6.ID,Ii6 u6.Begin,Ii6 u6.End,Ii6 u6.State,.b u6.In,.b u6.Out,.b u6.RO,.sl u6.Keys.length (u6.Keys.flatMap (eL eU8))]) Jr R (.cp _) R R) (Bo R S8 (rm 1 R (sst Si R R R R R (Ak (Bn (csr (sv R (lo Jr R R R) ?_)))))))
    obtain ⟨v7,hv7,h⟩:=Ae h
    refine A8 R Av1 (Aa R Af) (An R) (Rp hv7) (sv R (B1 R) (Ak (ccI h R (fun h=>?_) (fun h=>?_))))
    ·refine csr (rm 1 R (Ak (Bs (Ag (A0 (Ag (Ag (A0 (Ag ?_)))))))))
     obtain rfl:=SJ h
     obtain rfl:Sum.inl _=x5:=hk5
     replace ho5:some _=some _:=ho5
     obtain rfl:=zD ho5
     exact dnT R R R R
    ·refine Bf (Ab (csr (fl N0 Aaj R R R R R R (sv R (A4 R) ?_))))
     obtain ⟨c8,hc8,h⟩:=Ae h
     refine sv R (Xl (f:=Bb) (lo:=0) (hi:=s5) Qd (fun _=>R) R R R T9 (Qh R (Int.le_trans (T1 hc8).1.1 (T1 hc8).1.2.1)) hc8) ?_
     refine sv R (Au Qd R) (rm 1 R (Ak (Arh (Unit) (fun b9=>[(1,.s (.one (.lp 0 0))),(18,.s (.one (.sl a0.Txs.length (a0.Txs.flatMap Bb)))),(19,.s (.one (Ii6 (a0.Txs.length:Int)))),(20,.s (.one (Ii6 s5)))]) (fun b9=>[.box (EL.el a0),.box (EL.el u6)]) (fun b9=>Mh s5 b9=some y5) (fun _ _=>Zp R) (fun _ _=>Rn R) (fun _ _=>Nbl R) (fun b9 h=>?_) ?_)))
     ·unfold Mh at h
      refine Ap (sv R (Bm R R) (rm 1 R (Ak ?_)))
      obtain rfl:=SJ h
      exact ⟨(n5,(wI (s5+1))),_,hk5,⟨R,R,R,R,trivial⟩,R,zH _⟩
     ·skip
      refine Bq ?_
      obtain ⟨x10,hx10,ho10⟩:=Ae h
      refine lpo (G:=Nat × (Int)) (fun g=>[(1,.s (.one (.lp 0 0))),(4,.s (.one (.lp 1 0))),(18,.s (.one (.sl a0.Txs.length (a0.Txs.flatMap Bb)))),(19,.s (.one (Ii6 (a0.Txs.length:Int)))),(20,.s (.one (Ii6 s5))),(31,.s (.one (.sl c8.length (c8.flatMap Bb)))),(32,.s (.one (Ii6 (c8.length:Int)))),(33,.s (.one (Ii6 g.2)))]) (fun g=>[.box (EL.el a0),.box (EL.el u6)]) (fun g=>Lj (H9 u6 c8) g.1 g.2=some x10) (fun g=>g.1) (fuel,0) hx10 ⟨R,R,R,R,R,R,R,R,trivial⟩ [] R (fun _=>R) ?_
      clear hx10 h
      rintro ⟨n10,s10⟩ h
      obtain ⟨n10,y10,rfl,h,hk10⟩:=Fh h
      unfold H9 at h
      refine csr (sv R (Bt R R) (Ak (Bn (ccI h R (fun h=>?_) (fun h=>?_)))))
      ·refine Bf (Ab (Bn (Bq (Bn (Ap ?_)))))
       obtain ⟨u11,hu11,h⟩:=Ae h
       refine sv R (Cb (f:=Bb) Qd (fun _=>R) R R R R hu11) ?_
       refine sv R (Bz (ys:=[Ii6 u11.ID,Ii6 u11.Begin,Ii6 u11.End,Ii6 u11.State,.b u11.In,.b u11.Out,.b u11.RO,.sl u11.Keys.length (u11.Keys.flatMap (eL eU8))]) Jr R (.cp _) R R) (Bo R S8 (sst Si R R R R R (Ak (csr (ld Jr R R R R (sv R (lo Jr R R R) ?_))))))
       obtain ⟨v12,hv12,h⟩:=Ae h
       refine A8 R Azf (Aa R (Aa R Af)) (An R) (Yw hv12) (Ak (ccI h R (fun h=>?_) (fun h=>?_)))
       ·refine csr (rm 1 R (Ak (Bs (A0 (Ag (Ag (A0 (A0 (Ag (Ag (A0 (Ag ?_))))))))))))
        obtain rfl:=SJ h
        obtain rfl:Sum.inl _=x10:=hk10
        replace ho10:some _=some _:=ho10
        obtain rfl:=zD ho10
        obtain rfl:Sum.inl _=x5:=hk5
        replace ho5:some _=some _:=ho5
        obtain rfl:=zD ho5
        exact dnT R R R R
       ·refine Bf (Ao (Ab (Ap (sv R (Bm R R) (rm 1 R (Ak ?_))))))
        obtain rfl:=SJ h
        exact ⟨(n10,(wI (s10+1))),_,hk10,⟨R,R,R,R,R,R,R,R,trivial⟩,R,zH _⟩
      ·refine Dd (Ar (Ar (Bj (Ao (Ab ?_)))))
       obtain rfl:=SJ h
       obtain rfl:_=x10:=hk10
       exact ⟨(),_,ho10,⟨R,R,R,R,trivial⟩,R⟩
   ·refine Dd (Ar (Ar (Bj (Ab ?_))))
    obtain rfl:=SJ h
    obtain rfl:_=x5:=hk5
    exact ⟨(),_,ho5,⟨R,trivial⟩,R⟩
 ·skip
  refine Ap (fl N0 Aaj R R R R R R (sv R (Au Qd R) (sv R (C9 R R) (rm 1 R (ssI 11 h R (fun h=>?_) (fun h=>?_))))))
  ·refine rm 5 R (Ak (Ck R (fun _=>?_) (fun hx=>Bool.noConfusion hx)))
   refine csr (rm 1 R (Ak (Bs (Ag ?_))))
   obtain rfl:=SJ h
   exact dnT R R R R
  ·refine son R R R (sv R (Ac X6 R) (son R R R (ld Ab5 R R R R (son R R R ?_))))
   obtain ⟨v15,hv15,h⟩:=Ae h
   refine A8 R Av7 (Aa R Af) (An R) (Rr hv15) (son R R R (sv R (B1 R) (rm 1 R (Ak (ccI h R (fun h=>?_) (fun h=>?_))))))
   ·refine csr (rm 1 R (Ak (Bs (Ag ?_))))
    obtain rfl:=SJ h
    exact dnT R R R R
   ·refine Bf (Ab ?_)
    exact ⟨(),_,h,⟨R,trivial⟩,R⟩
def Cq (a0:Int) (a1:Int):Option Bool :=
 if (decide (0≤a0)) then (if (decide (a0≤1099511627776)) then (if (decide (0≤a1)) then (some (decide (a1≤65535))) else (some false)) else (some false)) else (some false)
theorem Ed {a0:Int} {a1:Int} {r:Bool} (h:Cq a0 a1=some r):Br Tryz.prog 130 [.one (Ii6 a0),.one (Ii6 a1)] (·=.s (.one (.b r))):=by
 unfold Cq at h
 refine A2 Tryz.func130 R (nt:=19) R (Nbl R) ?_
 intro w0 S0
 refine csr (rm 1 R (Ak (csr (rm 1 R (sv R (Hn R R) (rm 1 R (ssI 7 h R (fun h=>?_) (fun h=>?_))))))))
 ·refine rm 1 R (son R R R (sv R (Dl R R) (rm 2 R (ssI 11 h R (fun h=>?_) (fun h=>?_)))))
  ·refine rm 1 R (son R R R (sv R (Hn R R) (rm 2 R (ssI 15 h R (fun h=>?_) (fun h=>?_)))))
   ·refine rm 1 R (son R R R (sv R (Dl R R) (rm 2 R (Ak (Bs ?_)))))
    obtain rfl:=SJ h
    exact dnT R R R R
   ·refine rm 4 R (Ak (Bs ?_))
    obtain rfl:=SJ h
    exact dnT R R R R
  ·refine rm 8 R (Ak (Bs ?_))
   obtain rfl:=SJ h
   exact dnT R R R R
 ·refine rm 12 R (Ak (Bs ?_))
  obtain rfl:=SJ h
  exact dnT R R R R
def Gg (a0:Int):Option Bool :=
 if (decide (1≤a0)) then (some (decide (a0≤1099511627776))) else (some false)
theorem Qa {a0:Int} {r:Bool} (h:Gg a0=some r):Br Tryz.prog 188 [.one (Ii6 a0)] (·=.s (.one (.b r))):=by
 unfold Gg at h
 refine A2 Tryz.func188 R (nt:=9) R (Nbl R) ?_
 intro w0 S0
 refine csr (rm 1 R (Ak (csr (rm 1 R (sv R (Hn R R) (rm 1 R (ssI 5 h R (fun h=>?_) (fun h=>?_))))))))
 ·refine rm 1 R (son R R R (sv R (Dl R R) (rm 2 R (Ak (Bs ?_)))))
  obtain rfl:=SJ h
  exact dnT R R R R
 ·refine rm 4 R (Ak (Bs ?_))
  obtain rfl:=SJ h
  exact dnT R R R R
def En (a0:A5) (b1:Bool):Option Bool :=
 if b1 then ((Cq a0.Tok a0.Attempt).bind fun v2=>if v2 then (some (decide (a0.Ts=0))) else (some false)) else (if (decide (a0.State=2)) then ((Cq a0.Tok a0.Attempt).bind fun v3=>if v3 then ((Gg a0.Ts).bind fun v4=>some v4) else (some false)) else (some false))
def F8 (a0:A5):Option Bool :=
 if (decide (a0.State=1)) then (En a0 (decide (a0.State=1))) else (En a0 (decide (a0.State=3)))
theorem Sj {a0:A5} {r:Bool} (h:F8 a0=some r):Br Tryz.prog 115 [.agg (EL.el a0)] (·=.s (.one (.b r))):=by
 unfold F8 at h
 refine A2 Tryz.func115 R (nt:=30) R (Nbl R) ?_
 intro w0 S0
 refine csr (F2 R R (rm 1 R (Ak (Bn (csr (fl Vv ti3 R R R R R R (Ak (Bq (Bn (csr (sv R (B0 R R) (rm 1 R (Ak (cj (Bool) (fun b1=>[(1,.s (.one (.lp 0 0))),(4,.s (.one (Ii6 a0.State))),(5,.s (.one (.b b1)))]) (fun b1=>[.box (EL.el a0)]) (fun b1=>En a0 b1=some r) (fun _=>R) (fun b1 h=>?_) ?_))))))))))))))
 ·unfold En at h
  refine ccI h R (fun h=>?_) (fun h=>?_)
  ·refine csr (fl Zz ti3 R R R R R R (sv R (Ac Va R) (sv R (l1 ti3 R R R) ?_)))
   obtain ⟨v2,hv2,h⟩:=Ae h
   refine A8 R Ajg (Aa R (Aa R Af)) (An R) (Ed hv2) (rm 1 R (ssI 13 h R (fun h=>?_) (fun h=>?_)))
   ·refine son R R R (sv R (Ac Agu R) (son R R R (sv R (l1 ti3 R R R) (son R R R (sv R (B0 R R) (rm 2 R (Ak (Bs (A0 (Ag ?_))))))))))
    obtain rfl:=SJ h
    exact dnT R R R R
   ·refine rm 5 R (Ak (Bs (A0 (Ag ?_))))
    obtain rfl:=SJ h
    exact dnT R R R R
  ·refine csr (sv R (B0 R R) (rm 1 R (Ak (ccI h R (fun h=>?_) (fun h=>?_)))))
   ·refine csr (fl Zz ti3 R R R R R R (sv R (Ac Va R) (sv R (l1 ti3 R R R) ?_)))
    obtain ⟨v3,hv3,h⟩:=Ae h
    refine A8 R Ajg (Aa R (Aa R Af)) (An R) (Ed hv3) (rm 1 R (ssI 25 h R (fun h=>?_) (fun h=>?_)))
    ·refine son R R R (sv R (Ac Agu R) (son R R R (sv R (l1 ti3 R R R) (son R R R ?_))))
     obtain ⟨v4,hv4,h⟩:=Ae h
     refine A8 R Awm (Aa R Af) (An R) (Qa hv4) (rm 2 R (Ak (Bs (A0 (Ag ?_)))))
     obtain rfl:=SJ h
     exact dnT R R R R
    ·refine rm 5 R (Ak (Bs (A0 (Ag ?_))))
     obtain rfl:=SJ h
     exact dnT R R R R
   ·refine Bf (Ao (Ab (csr (rm 1 R (Ak (Bs ?_))))))
    obtain rfl:=SJ h
    exact dnT R R R R
 ·skip
  refine ccI h R (fun h=>?_) (fun h=>?_)
  ·refine Bf (Ab ?_)
   exact ⟨(decide (a0.State=1)),_,h,⟨R,R,R,trivial⟩,R⟩
  ·refine Ap (sv R (B0 R R) (rm 1 R (Ak ?_)))
   exact ⟨(decide (a0.State=3)),_,h,⟨R,R,R,trivial⟩,R⟩
def Nc (a0:Bi) (b1:Unit):Option Int :=
 some (a0.L.length:Int)
def G2 (a0:Bi) (a1:Int) (s2:Int):Option (LR (Int) (Unit) (Int)) :=
 if (decide (s2<(a0.L.length:Int))) then ((idx a0.L s2).bind fun u3=>if (decide (u3.Tok=a1)) then (some (.ret s2)) else (some (.cont (wI (s2+1))))) else (some (.brk ()))
def Et (a0:Bi) (a1:Int):Option Int :=
 (Lj (G2 a0 a1) fuel 0).bind fun x=>match x with | .inl r=>some r | .inr e4=>Nc a0 e4
theorem La {a0:Bi} {a1:Int} {r:Int} (h:Et a0 a1=some r):Br Tryz.prog 116 [.agg [.sl a0.L.length (a0.L.flatMap Am)],.one (Ii6 a1)] (·=.s (.one (Ii6 r))):=by
 unfold Et at h
 refine A2 Tryz.func116 R (nt:=24) R (Nbl R) ?_
 intro w0 S0
 refine csr (F2 R R (rm 1 R (Ak (Bn (csr (fl U4 Akv R R R R R R (sv R (Au Abp R) (rm 1 R (Ak (cj (Unit) (fun b1=>[(2,.s (.one (.lp 0 0)))]) (fun b1=>[.box [.sl a0.L.length (a0.L.flatMap Am)]]) (fun b1=>Nc a0 b1=some r) (fun _=>R) (fun b1 h=>?_) ?_))))))))))
 ·unfold Nc at h
  refine csr (fl U4 Akv R R R R R R (sv R (Au Abp R) (rm 1 R (Ak (Bs ?_)))))
  obtain rfl:=SJ h
  exact dnT R R R R
 ·skip
  refine Bq ?_
  obtain ⟨x2,hx2,ho2⟩:=Ae h
  refine lpo (G:=Nat × (Int)) (fun g=>[(1,.s (.one (Ii6 a1))),(2,.s (.one (.lp 0 0))),(8,.s (.one (.sl a0.L.length (a0.L.flatMap Am)))),(9,.s (.one (Ii6 (a0.L.length:Int)))),(10,.s (.one (Ii6 g.2)))]) (fun g=>[.box [.sl a0.L.length (a0.L.flatMap Am)]]) (fun g=>Lj (G2 a0 a1) g.1 g.2=some x2) (fun g=>g.1) (fuel,0) hx2 ⟨R,R,R,R,R,trivial⟩ [] R (fun _=>R) ?_
  clear hx2 h
  rintro ⟨n2,s2⟩ h
  obtain ⟨n2,y2,rfl,h,hk2⟩:=Fh h
  unfold G2 at h
  refine csr (sv R (Bt R R) (Ak (Bn (ccI h R (fun h=>?_) (fun h=>?_)))))
  ·refine Bf (Ab (Bn (Bq (csr (sv R (A4 R) ?_)))))
   obtain ⟨u3,hu3,h⟩:=Ae h
   refine sv R (Cb (f:=Am) Abp (fun _=>R) R R R R hu3) ?_
   refine sv R (Bz (ys:=[Ii6 u3.Tok,Ii6 u3.Attempt,Ii6 u3.State,Ii6 u3.Ts]) Abx R (.cp _) R R) (Bo R Vz (rm 1 R (sst Aao R R R R R (Ak (csr (fl Zz ti3 R R R R R R (rm 1 R (sv R (B0 R R) (Ak (ccI h R (fun h=>?_) (fun h=>?_)))))))))))
   ·refine csr (rm 2 R (Ak (Bs (A0 (Ag (Ag (A0 (Ag ?_))))))))
    obtain rfl:=SJ h
    obtain rfl:Sum.inl _=x2:=hk2
    replace ho2:some _=some _:=ho2
    obtain rfl:=zD ho2
    exact dnT R R R R
   ·refine Bf (Ao (Ab (Ap (sv R (Bm R R) (rm 1 R (Ak ?_))))))
    obtain rfl:=SJ h
    exact ⟨(n2,(wI (s2+1))),_,hk2,⟨R,R,R,R,R,trivial⟩,R,zH _⟩
  ·refine Dd (Ar (Ar (Bj (Ab ?_))))
   obtain rfl:=SJ h
   obtain rfl:_=x2:=hk2
   exact ⟨(),_,ho2,⟨R,trivial⟩,R⟩
def Ot (a0:Bi) (b1:Unit):Option Bool :=
 some (decide ((a0.L.length:Int)≤32))
def Jc (a0:Bi) (s2:Int):Option (LR (Int) (Unit) (Bool)) :=
 if (decide (s2<(a0.L.length:Int))) then ((idx a0.L s2).bind fun u3=>(F8 u3).bind fun v4=>if (!v4) then (some (.ret false)) else ((Et a0 u3.Tok).bind fun v5=>if (!decide (v5=s2)) then (some (.ret false)) else (some (.cont (wI (s2+1)))))) else (some (.brk ()))
def Da (a0:Bi):Option Bool :=
 (Lj (Jc a0) fuel 0).bind fun x=>match x with | .inl r=>some r | .inr e6=>Ot a0 e6
theorem Kb {a0:Bi} {r:Bool} (h:Da a0=some r):Br Tryz.prog 47 [.agg [.sl a0.L.length (a0.L.flatMap Am)]] (·=.s (.one (.b r))):=by
 unfold Da at h
 refine A2 Tryz.func47 R (nt:=29) R (Nbl R) ?_
 intro w0 S0
 refine csr (F2 R R (rm 1 R (Ak (Bn (csr (fl U4 Akv R R R R R R (sv R (Au Abp R) (rm 1 R (Ak (cj (Unit) (fun b1=>[(1,.s (.one (.lp 0 0)))]) (fun b1=>[.box [.sl a0.L.length (a0.L.flatMap Am)]]) (fun b1=>Ot a0 b1=some r) (fun _=>R) (fun b1 h=>?_) ?_))))))))))
 ·unfold Ot at h
  refine csr (fl U4 Akv R R R R R R (sv R (Au Abp R) (sv R (Dl R R) (rm 1 R (Ak (Bs ?_))))))
  obtain rfl:=SJ h
  exact dnT R R R R
 ·skip
  refine Bq ?_
  obtain ⟨x2,hx2,ho2⟩:=Ae h
  refine lpo (G:=Nat × (Int)) (fun g=>[(1,.s (.one (.lp 0 0))),(6,.s (.one (.sl a0.L.length (a0.L.flatMap Am)))),(7,.s (.one (Ii6 (a0.L.length:Int)))),(8,.s (.one (Ii6 g.2)))]) (fun g=>[.box [.sl a0.L.length (a0.L.flatMap Am)]]) (fun g=>Lj (Jc a0) g.1 g.2=some x2) (fun g=>g.1) (fuel,0) hx2 ⟨R,R,R,R,trivial⟩ [] R (fun _=>R) ?_
  clear hx2 h
  rintro ⟨n2,s2⟩ h
  obtain ⟨n2,y2,rfl,h,hk2⟩:=Fh h
  unfold Jc at h
  refine csr (sv R (Bt R R) (Ak (Bn (ccI h R (fun h=>?_) (fun h=>?_)))))
  ·refine Bf (Ab (Bn (Bq (csr (sv R (A4 R) ?_)))))
   obtain ⟨u3,hu3,h⟩:=Ae h
   refine sv R (Cb (f:=Am) Abp (fun _=>R) R R R R hu3) ?_
   refine sv R (Bz (ys:=[Ii6 u3.Tok,Ii6 u3.Attempt,Ii6 u3.State,Ii6 u3.Ts]) Abx R (.cp _) R R) (Bo R Vz (rm 1 R (sst Aao R R R R R (Ak (csr (sv R (lo Abx R R R) ?_))))))
   obtain ⟨v4,hv4,h⟩:=Ae h
   refine A8 R Ayt (Aa R Af) (An R) (Sj hv4) (sv R (B1 R) (rm 1 R (ssI 16 h R (fun h=>?_) (fun h=>?_))))
   ·refine rm 7 R (Ak (Ck R (fun _=>?_) (fun hx=>Bool.noConfusion hx)))
    refine csr (rm 1 R (Ak (Bs (A0 (Ag (Ag (A0 (Ag ?_))))))))
    obtain rfl:=SJ h
    obtain rfl:Sum.inl _=x2:=hk2
    replace ho2:some _=some _:=ho2
    obtain rfl:=zD ho2
    exact dnT R R R R
   ·refine son R R R (ld Oj R R R R (son R R R (sv R (Ac Zz R) (son R R R (sv R (l1 ti3 R R R) (son R R R ?_))))))
    obtain ⟨v5,hv5,h⟩:=Ae h
    refine A8 R Aqc (Aa R (Aa R Af)) (An R) (La hv5) (rm 1 R (son R R R (sv R (C6 R R) (rm 1 R (Ak (ccI h R (fun h=>?_) (fun h=>?_)))))))
    ·refine csr (rm 1 R (Ak (Bs (A0 (Ag (Ag (A0 (Ag ?_))))))))
     obtain rfl:=SJ h
     obtain rfl:Sum.inl _=x2:=hk2
     replace ho2:some _=some _:=ho2
     obtain rfl:=zD ho2
     exact dnT R R R R
    ·refine Bf (Ao (Ab (Ap (sv R (Bm R R) (rm 1 R (Ak ?_))))))
     obtain rfl:=SJ h
     exact ⟨(n2,(wI (s2+1))),_,hk2,⟨R,R,R,R,trivial⟩,R,zH _⟩
  ·refine Dd (Ar (Ar (Bj (Ab ?_))))
   obtain rfl:=SJ h
   obtain rfl:_=x2:=hk2
   exact ⟨(),_,ho2,⟨R,trivial⟩,R⟩
def Pw (b1:Unit):Option Int :=
 some (-1)
def Gu (a0:Ah) (a1:Int) (s2:Int):Option (LR (Int) (Unit) (Int)) :=
 if (decide (s2<(a0.Open.length:Int))) then ((idx a0.Open s2).bind fun u3=>if (decide (u3.ID=a1)) then (some (.ret s2)) else (some (.cont (wI (s2+1))))) else (some (.brk ()))
def Ei (a0:Ah) (a1:Int):Option Int :=
 (Lj (Gu a0 a1) fuel 0).bind fun x=>match x with | .inl r=>some r | .inr e4=>Pw e4
theorem Qy {a0:Ah} {a1:Int} {r:Int} (h:Ei a0 a1=some r):Br Tryz.prog 48 [.agg (EL.el a0),.one (Ii6 a1)] (·=.s (.one (Ii6 r))):=by
 unfold Ei at h
 refine A2 Tryz.func48 R (nt:=21) R (Nbl R) ?_
 intro w0 S0
 refine csr (F2 R R (rm 1 R (Ak (Bn (csr (fl Rc Ail R R R R R R (sv R (Au Y4 R) (rm 1 R (Ak (cj (Unit) (fun b1=>[]) (fun b1=>[.box (EL.el a0)]) (fun b1=>Pw b1=some r) (fun _=>R) (fun b1 h=>?_) ?_))))))))))
 ·unfold Pw at h
  refine csr (rm 1 R (Ak (Bs ?_)))
  obtain rfl:=SJ h
  exact dnT R R R R
 ·skip
  refine Bq ?_
  obtain ⟨x2,hx2,ho2⟩:=Ae h
  refine lpo (G:=Nat × (Int)) (fun g=>[(1,.s (.one (Ii6 a1))),(8,.s (.one (.sl a0.Open.length (a0.Open.flatMap Bl)))),(9,.s (.one (Ii6 (a0.Open.length:Int)))),(10,.s (.one (Ii6 g.2)))]) (fun g=>[.box (EL.el a0)]) (fun g=>Lj (Gu a0 a1) g.1 g.2=some x2) (fun g=>g.1) (fuel,0) hx2 ⟨R,R,R,R,trivial⟩ [] R (fun _=>R) ?_
  clear hx2 h
  rintro ⟨n2,s2⟩ h
  obtain ⟨n2,y2,rfl,h,hk2⟩:=Fh h
  unfold Gu at h
  refine csr (sv R (Bt R R) (Ak (Bn (ccI h R (fun h=>?_) (fun h=>?_)))))
  ·refine Bf (Ab (Bn (Bq (csr (sv R (A4 R) ?_)))))
   obtain ⟨u3,hu3,h⟩:=Ae h
   refine sv R (Cb (f:=Bl) Y4 (fun _=>R) R R R R hu3) ?_
   refine sv R (Bz (ys:=[Ii6 u3.ID,Ii6 u3.Token,Ii6 u3.Attempt,Ii6 u3.Snap,.b u3.RO,.sl u3.Buf.L.length (u3.Buf.L.flatMap Ba)]) Wc R (.cp _) R R) (Bo R Aag (rm 1 R (sst Aah R R R R R (Ak (csr (fl Ry ti3 R R R R R R (rm 1 R (sv R (B0 R R) (Ak (ccI h R (fun h=>?_) (fun h=>?_)))))))))))
   ·refine csr (rm 2 R (Ak (Bs (A0 (Ag (Ag (A0 (Ag ?_))))))))
    obtain rfl:=SJ h
    obtain rfl:Sum.inl _=x2:=hk2
    replace ho2:some _=some _:=ho2
    obtain rfl:=zD ho2
    exact dnT R R R R
   ·refine Bf (Ao (Ab (Ap (sv R (Bm R R) (rm 1 R (Ak ?_))))))
    obtain rfl:=SJ h
    exact ⟨(n2,(wI (s2+1))),_,hk2,⟨R,R,R,R,trivial⟩,R,zH _⟩
  ·refine Dd (Ar (Ar (Bj (Ab ?_))))
   obtain rfl:=SJ h
   obtain rfl:_=x2:=hk2
   exact ⟨(),_,ho2,trivial,R⟩
def G8 (a0:Be) (a1:Int):Option Int :=
 (N1 a0.Txs).bind fun v1=>(Es v1 a1).bind fun v2=>some v2
theorem P0 {a0:Be} {a1:Int} {r:Int} (h:G8 a0 a1=some r):Br Tryz.prog 132 [.agg (EL.el a0),.one (Ii6 a1)] (·=.s (.one (Ii6 r))):=by
 unfold G8 at h
 refine A2 Tryz.func132 R (nt:=10) R (Nbl R) ?_
 intro w0 S0
 refine csr (F2 R R (rm 1 R (Ak (csr (sv R (Ac N0 R) (sv R (l1 Aaj R R R) ?_))))))
 obtain ⟨v1,hv1,h⟩:=Ae h
 refine A8 R Awo (Aa R Af) (An R) (U5 hv1) (sv R (A4 R) ?_)
 obtain ⟨v2,hv2,h⟩:=Ae h
 refine A8 R Avg (Aa R (Aa R Af)) (An R) (Qw hv2) (rm 1 R (Ak (Bs ?_)))
 obtain rfl:=SJ h
 exact dnT R R R R
def M2 (a0:Be) (a1:Int):Option (A1 × Bool) :=
 (G8 a0 a1).bind fun v1=>if (decide (v1<0)) then (some (Xv,false)) else ((idx a0.Txs v1).bind fun u2=>some (u2,true))
theorem Y9 {a0:Be} {a1:Int} {r:A1 × Bool} (h:M2 a0 a1=some r):Br Tryz.prog 189 [.agg (EL.el a0),.one (Ii6 a1)] (·=.tup [.agg (EL.el r.1),.one (.b r.2)]):=by
 unfold M2 at h
 refine A2 Tryz.func189 R (nt:=18) R (Nbl R) ?_
 intro w0 S0
 refine csr (F2 R R (Bo R S8 (rm 1 R (Ak (csr (ld Qq R R R R (sv R (A4 R) ?_)))))))
 obtain ⟨v1,hv1,h⟩:=Ae h
 refine A8 R Atd (Aa R (Aa R Af)) (An R) (P0 hv1) (rm 1 R (Ak (Bn (csr (rm 1 R (sv R (Bt R R) (Ak (ccI h R (fun h=>?_) (fun h=>?_)))))))))
 ·refine csr (sv R (A3 S8 Awc Ay (.nil _)) (sst Si R R R R R (rm 1 R (Ak (Bs (Ag ?_))))))
  obtain rfl:=SJ h
  exact dn (Ad (ra Jr R R R) (Ad (rt R) Aj)) (I8 R) R
 ·refine Bf (Ab (csr (fl N0 Aaj R R R R R R (sv R (A4 R) ?_))))
  obtain ⟨u2,hu2,h⟩:=Ae h
  refine sv R (Cb (f:=Bb) Qd (fun _=>R) R R R R hu2) ?_
  refine sv R (Bz (ys:=[Ii6 u2.ID,Ii6 u2.Begin,Ii6 u2.End,Ii6 u2.State,.b u2.In,.b u2.Out,.b u2.RO,.sl u2.Keys.length (u2.Keys.flatMap (eL eU8))]) Jr R (.cp _) R R) (sst Si R R R R R (rm 1 R (Ak (Bs ?_))))
  obtain rfl:=SJ h
  exact dn (Ad (ra Jr R R R) (Ad (rt R) Aj)) (An R) R
def Ks (a0:Ah) (a1:Bc):Option Bool :=
 (M2 a0.Cert a1.ID).bind fun v1=>if (decide (v1.1.State=1)) then (if (decide (v1.1.Begin=a1.Snap)) then (if (v1.1.RO == a1.RO) then (if (decide (a1.Snap≤a0.Store.Ts)) then ((Fg a1.Buf).bind fun v2=>if v2 then (if a1.RO then (some (!(decide (0<(a1.Buf.L.length:Int))))) else (some true)) else (some false)) else (some false)) else (some false)) else (some false)) else (some false)
theorem Vk {a0:Ah} {a1:Bc} {r:Bool} (h:Ks a0 a1=some r):Br Tryz.prog 117 [.agg (EL.el a0),.agg (EL.el a1)] (·=.s (.one (.b r))):=by
 unfold Ks at h
 refine A2 Tryz.func117 R (nt:=57) R (Nbl R) ?_
 intro w0 S0
 refine csr (F2 R R (F2 R R (rm 1 R (Ak (csr (sv R (Ac Sy R) (ld Qq R R R R (sv R (Ac Ry R) (sv R (l1 ti3 R R R) ?_)))))))))
 obtain ⟨v1,hv1,h⟩:=Ae h
 refine A8 R Ayw (Aa R (Aa R Af)) (An R) (Y9 hv1) (sv R (Cc R) (sv R (Ai R R) (sv R (Ai R R) (Bo R S8 (sst Si R R R R R (rm 1 R (Ak (csr (fl O6 ti3 R R R R R R (sv R (B0 R R) (rm 1 R (ssI 18 h R (fun h=>?_) (fun h=>?_)))))))))))))
 ·refine son R R R (sv R (Ac Vp R) (son R R R (sv R (l1 ti3 R R R) (son R R R (sv R (Ac Ahw R) (son R R R (sv R (l1 ti3 R R R) (son R R R (sv R (B0 R R) (rm 2 R (ssI 25 h R (fun h=>?_) (fun h=>?_))))))))))))
  ·refine son R R R (sv R (Ac Age R) (son R R R (sv R (l1 ti4 R R R) (son R R R (sv R (Ac Ane R) (son R R R (sv R (l1 ti4 R R R) (son R R R (sv R (Acs Tryz.underlying4 R R) (rm 2 R (ssI 32 h R (fun h=>?_) (fun h=>?_))))))))))))
   ·refine son R R R (sv R (Ac Ahw R) (son R R R (sv R (l1 ti3 R R R) (son R R R (sv R (Ac Sz R) (son R R R (sv R (Ac Ro R) (son R R R (sv R (l1 ti3 R R R) (son R R R (sv R (Dl R R) (rm 2 R (ssI 40 h R (fun h=>?_) (fun h=>?_))))))))))))))
    ·refine son R R R (sv R (Ac Ye R) (son R R R (ld Ag2 R R R R (son R R R ?_))))
     obtain ⟨v2,hv2,h⟩:=Ae h
     refine A8 R As7 (Aa R Af) (An R) (Oe hv2) (rm 2 R (ssI 45 h R (fun h=>?_) (fun h=>?_)))
     ·refine son R R R (sv R (Ac Ane R) (son R R R (sv R (l1 ti4 R R R) (rm 1 R (ssI 48 h R (fun h=>?_) (fun h=>?_))))))
      ·refine son R R R (sv R (Ac Ye R) (son R R R (sv R (Ac Wo R) (son R R R (sv R (l1 Ao4 R R R) (son R R R (sv R (Au Ac4 R) (son R R R (sv R (C9 R R) (rm 1 R (son R R R (sv R (B1 R) (rm 2 R (Ak (Bs ?_)))))))))))))))
       obtain rfl:=SJ h
       exact dnT R R R R
      ·refine rm 6 R (son R R R (sv R (B1 R) (rm 2 R (Ak (Bs ?_)))))
       obtain rfl:=SJ h
       exact dnT R R R R
     ·refine rm 3 R (B8 R R R (B8 R R R (B8 R R R (B8 R R R (B8 R R R (rm 4 R (Ak (Bs ?_))))))))
      obtain rfl:=SJ h
      exact dnT R R R R
    ·refine rm 8 R (B8 R R R (B8 R R R (B8 R R R (B8 R R R (B8 R R R (rm 4 R (Ak (Bs ?_))))))))
     obtain rfl:=SJ h
     exact dnT R R R R
   ·refine rm 16 R (B8 R R R (B8 R R R (B8 R R R (B8 R R R (B8 R R R (rm 4 R (Ak (Bs ?_))))))))
    obtain rfl:=SJ h
    exact dnT R R R R
  ·refine rm 23 R (B8 R R R (B8 R R R (B8 R R R (B8 R R R (B8 R R R (rm 4 R (Ak (Bs ?_))))))))
   obtain rfl:=SJ h
   exact dnT R R R R
 ·refine rm 30 R (B8 R R R (B8 R R R (B8 R R R (B8 R R R (B8 R R R (rm 4 R (Ak (Bs ?_))))))))
  obtain rfl:=SJ h
  exact dnT R R R R
def Gz (a0:Ah) (b1:Unit):Option Bool :=
 some (decide ((a0.Open.length:Int)≤16))
def Gx (s2:Int × Int) (u3:Bc) (b6:Unit):Option (LR (Int × Int) (Unit) (Bool)) :=
 some (.cont (u3.ID,(wI (s2.2+1))))
def Gw (u3:Bc) (c5:List Bc) (s7:Int):Option (LR (Int) (Unit) (Bool)) :=
 if (decide (s7<(c5.length:Int))) then ((idx c5 s7).bind fun u8=>if (decide (u8.Token=u3.Token)) then (some (.ret false)) else (some (.cont (wI (s7+1))))) else (some (.brk ()))
def Js (a0:Ah) (s2:Int × Int) (u3:Bc) (b4:Unit):Option (LR (Int × Int) (Unit) (Bool)) :=
 (cut a0.Open 0 s2.2).bind fun c5=>(Lj (Gw u3 c5) fuel 0).bind fun x=>match x with | .inl r=>some (.ret r) | .inr e9=>Gx s2 u3 e9
def G1 (a0:Ah) (s2:Int × Int):Option (LR (Int × Int) (Unit) (Bool)) :=
 if (decide (s2.2<(a0.Open.length:Int))) then ((idx a0.Open s2.2).bind fun u3=>if (decide (u3.ID≤s2.1)) then (some (.ret false)) else (if (decide (a0.Next≤u3.ID)) then (some (.ret false)) else ((Ks a0 u3).bind fun v10=>if (!v10) then (some (.ret false)) else (Js a0 s2 u3 ())))) else (some (.brk ()))
def Kc (a0:Ah):Option Bool :=
 (Lj (G1 a0) fuel ((-1),0)).bind fun x=>match x with | .inl r=>some r | .inr e11=>Gz a0 e11
theorem V7 {a0:Ah} {r:Bool} (h:Kc a0=some r):Br Tryz.prog 49 [.agg (EL.el a0)] (·=.s (.one (.b r))):=by
 unfold Kc at h
 refine A2 Tryz.func49 R (nt:=55) R (Nbl R) ?_
 intro w0 S0
 refine csr (F2 R R (rm 1 R (Ak (csr (rm 1 R (Ak (Bn (csr (fl Rc Ail R R R R R R (sv R (Au Y4 R) (rm 1 R (Ak (cj (Unit) (fun b1=>[(1,.s (.one (.lp 0 0)))]) (fun b1=>[.box (EL.el a0)]) (fun b1=>Gz a0 b1=some r) (fun _=>R) (fun b1 h=>?_) ?_)))))))))))))
 ·unfold Gz at h
  refine csr (fl Rc Ail R R R R R R (sv R (Au Y4 R) (sv R (Dl R R) (rm 1 R (Ak (Bs ?_))))))
  obtain rfl:=SJ h
  exact dnT R R R R
 ·skip
  refine Bq ?_
  obtain ⟨x2,hx2,ho2⟩:=Ae h
  refine lpo (G:=Nat × (Int × Int)) (fun g=>[(1,.s (.one (.lp 0 0))),(3,.s (.one (Ii6 g.2.1))),(9,.s (.one (.sl a0.Open.length (a0.Open.flatMap Bl)))),(10,.s (.one (Ii6 (a0.Open.length:Int)))),(11,.s (.one (Ii6 g.2.2)))]) (fun g=>[.box (EL.el a0)]) (fun g=>Lj (G1 a0) g.1 g.2=some x2) (fun g=>g.1) (fuel,((-1),0)) hx2 ⟨R,R,R,R,R,trivial⟩ [] R (fun _=>R) ?_
  clear hx2 h
  rintro ⟨n2,s2⟩ h
  obtain ⟨n2,y2,rfl,h,hk2⟩:=Fh h
  unfold G1 at h
  refine csr (sv R (Bt R R) (Ak (Bn (ccI h R (fun h=>?_) (fun h=>?_)))))
  ·refine Bf (Ab (Bn (Bq (csr (sv R (A4 R) ?_)))))
   obtain ⟨u3,hu3,h⟩:=Ae h
   refine sv R (Cb (f:=Bl) Y4 (fun _=>R) R R R R hu3) ?_
   refine sv R (Bz (ys:=[Ii6 u3.ID,Ii6 u3.Token,Ii6 u3.Attempt,Ii6 u3.Snap,.b u3.RO,.sl u3.Buf.L.length (u3.Buf.L.flatMap Ba)]) Wc R (.cp _) R R) (Bo R Aag (rm 1 R (sst Aah R R R R R (Ak (Bn (Bn (cj3 (Unit) (fun b4=>[(1,.s (.one (.lp 0 0))),(4,.s (.one (Ii6 s2.2))),(5,.s (.one (.lp 1 0))),(9,.s (.one (.sl a0.Open.length (a0.Open.flatMap Bl)))),(10,.s (.one (Ii6 (a0.Open.length:Int)))),(11,.s (.one (Ii6 s2.2)))]) (fun b4=>[.box (EL.el a0),.box (EL.el u3)]) (fun b4=>Js a0 s2 u3 b4=some y2) (fun _=>R) (fun b4 h=>?_) ?_)))))))
   ·unfold Js at h
    refine Bn (csr (fl Rc Ail R R R R R R (sv R (A4 R) ?_)))
    obtain ⟨c5,hc5,h⟩:=Ae h
    refine sv R (Xl (f:=Bl) (lo:=0) (hi:=s2.2) Y4 (fun _=>R) R R R T9 (Qh R (Int.le_trans (T1 hc5).1.1 (T1 hc5).1.2.1)) hc5) ?_
    refine sv R (Au Y4 R) (rm 1 R (Ak (cj (Unit) (fun b6=>[(1,.s (.one (.lp 0 0))),(5,.s (.one (.lp 1 0))),(9,.s (.one (.sl a0.Open.length (a0.Open.flatMap Bl)))),(10,.s (.one (Ii6 (a0.Open.length:Int)))),(11,.s (.one (Ii6 s2.2)))]) (fun b6=>[.box (EL.el a0),.box (EL.el u3)]) (fun b6=>Gx s2 u3 b6=some y2) (fun _=>R) (fun b6 h=>?_) ?_)))
    ·unfold Gx at h
     refine Ap (fl Ry ti3 R R R R R R (rm 1 R (Ki (Ao (Ab (Ap (sv R (Bm R R) (rm 1 R (Ak ?_)))))))))
     obtain rfl:=SJ h
     exact ⟨(n2,(u3.ID,(wI (s2.2+1)))),_,hk2,⟨R,R,R,R,R,trivial⟩,R,zH _⟩
    ·skip
     refine Bq ?_
     obtain ⟨x7,hx7,ho7⟩:=Ae h
     refine lpo (G:=Nat × (Int)) (fun g=>[(1,.s (.one (.lp 0 0))),(5,.s (.one (.lp 1 0))),(9,.s (.one (.sl a0.Open.length (a0.Open.flatMap Bl)))),(10,.s (.one (Ii6 (a0.Open.length:Int)))),(11,.s (.one (Ii6 s2.2))),(36,.s (.one (.sl c5.length (c5.flatMap Bl)))),(37,.s (.one (Ii6 (c5.length:Int)))),(38,.s (.one (Ii6 g.2)))]) (fun g=>[.box (EL.el a0),.box (EL.el u3)]) (fun g=>Lj (Gw u3 c5) g.1 g.2=some x7) (fun g=>g.1) (fuel,0) hx7 ⟨R,R,R,R,R,R,R,R,trivial⟩ [] R (fun _=>R) ?_
     clear hx7 h
     rintro ⟨n7,s7⟩ h
     obtain ⟨n7,y7,rfl,h,hk7⟩:=Fh h
     unfold Gw at h
     refine csr (sv R (Bt R R) (Ak (Bn (ccI h R (fun h=>?_) (fun h=>?_)))))
     ·refine Bf (Ab (Bn (Bq (Bn (Ap ?_)))))
      obtain ⟨u8,hu8,h⟩:=Ae h
      refine sv R (Cb (f:=Bl) Y4 (fun _=>R) R R R R hu8) ?_
      refine sv R (Bz (ys:=[Ii6 u8.ID,Ii6 u8.Token,Ii6 u8.Attempt,Ii6 u8.Snap,.b u8.RO,.sl u8.Buf.L.length (u8.Buf.L.flatMap Ba)]) Wc R (.cp _) R R) (Bo R Aag (sst Aah R R R R R (Ak (csr (fl Afd ti3 R R R R R R (fl Afd ti3 R R R R R R (sv R (B0 R R) (Ak (ccI h R (fun h=>?_) (fun h=>?_))))))))))
      ·refine csr (rm 1 R (Ak (Bs (A0 (Ag (Ag (A0 (Ag (A0 (Ag (Ag (A0 (Ag ?_)))))))))))))
       obtain rfl:=SJ h
       obtain rfl:Sum.inl _=x7:=hk7
       replace ho7:some _=some _:=ho7
       obtain rfl:=zD ho7
       obtain rfl:Sum.inl _=x2:=hk2
       replace ho2:some _=some _:=ho2
       obtain rfl:=zD ho2
       exact dnT R R R R
      ·refine Bf (Ao (Ab (Ap (sv R (Bm R R) (rm 1 R (Ak ?_))))))
       obtain rfl:=SJ h
       exact ⟨(n7,(wI (s7+1))),_,hk7,⟨R,R,R,R,R,R,R,R,trivial⟩,R,zH _⟩
     ·refine Dd (Ar (Ar (Bj (Ab ?_))))
      obtain rfl:=SJ h
      obtain rfl:_=x7:=hk7
      exact ⟨(),_,ho7,⟨R,R,R,R,R,trivial⟩,R⟩
   ·skip
    refine Ap (fl Ry ti3 R R R R R R (rm 1 R (sv R (Dl R R) (rm 1 R (ssI 20 h R (fun h=>?_) (fun h=>?_))))))
    ·refine rm 12 R (Ak (Ck R (fun _=>?_) (fun hx=>Bool.noConfusion hx)))
     refine csr (rm 1 R (Ak (Bs (Ag (A0 (Ag (Ag (A0 (Ag ?_)))))))))
     obtain rfl:=SJ h
     obtain rfl:Sum.inl _=x2:=hk2
     replace ho2:some _=some _:=ho2
     obtain rfl:=zD ho2
     exact dnT R R R R
    ·refine son R R R (sv R (Ac Ry R) (son R R R (sv R (l1 ti3 R R R) (son R R R (sv R (Ac Ti R) (son R R R (sv R (l1 ti3 R R R) (son R R R (sv R (Hn R R) (rm 2 R (ssI 27 h R (fun h=>?_) (fun h=>?_))))))))))))
     ·refine rm 5 R (Ak (Ck R (fun _=>?_) (fun hx=>Bool.noConfusion hx)))
      refine csr (rm 1 R (Ak (Bs (Ag (A0 (Ag (Ag (A0 (Ag ?_)))))))))
      obtain rfl:=SJ h
      obtain rfl:Sum.inl _=x2:=hk2
      replace ho2:some _=some _:=ho2
      obtain rfl:=zD ho2
      exact dnT R R R R
     ·refine son R R R (ld De R R R R (son R R R (ld Wc R R R R (son R R R ?_))))
      obtain ⟨v10,hv10,h⟩:=Ae h
      refine A8 R Axq (Aa R (Aa R Af)) (An R) (Vk hv10) (son R R R (sv R (B1 R) (rm 1 R (Ak (ccI h R (fun h=>?_) (fun h=>?_))))))
      ·refine csr (rm 1 R (Ak (Bs (Ag (A0 (Ag (Ag (A0 (Ag ?_)))))))))
       obtain rfl:=SJ h
       obtain rfl:Sum.inl _=x2:=hk2
       replace ho2:some _=some _:=ho2
       obtain rfl:=zD ho2
       exact dnT R R R R
      ·refine Bf (Ab ?_)
       exact ⟨(),_,h,⟨R,R,R,R,R,R,trivial⟩,R⟩
  ·refine Dd (Ar (Ar (Bj (Ab ?_))))
   obtain rfl:=SJ h
   obtain rfl:_=x2:=hk2
   exact ⟨(),_,ho2,⟨R,trivial⟩,R⟩
def Mt (a0:Ah) (b2:Unit):Option Bool :=
 (Kc a0).bind fun v3=>some v3
def L6 (a0:Ah) (s4:Int):Option (LR (Int) (Unit) (Bool)) :=
 if (decide (s4<(a0.Cert.Txs.length:Int))) then ((idx a0.Cert.Txs s4).bind fun u5=>if (decide (a0.Store.Ts<u5.End)) then (some (.ret false)) else (if (decide (u5.State=1)) then ((Ei a0 u5.ID).bind fun v6=>if (decide (v6<0)) then (some (.ret false)) else (some (.cont (wI (s4+1))))) else (some (.cont (wI (s4+1)))))) else (some (.brk ()))
def Ob (a0:Ah) (b1:Unit):Option Bool :=
 (Lj (L6 a0) fuel 0).bind fun x=>match x with | .inl r=>some r | .inr e7=>Mt a0 e7
def Il (a0:Ah):Option Bool :=
 (Dc a0.Store).bind fun v8=>if (!v8) then (some false) else ((Kw a0.Cert).bind fun v9=>if (!v9) then (some false) else ((Da a0.Toks).bind fun v10=>if (!v10) then (some false) else (if (decide (a0.Next<0)) then (some false) else (if (decide (1099511627776<a0.Next)) then (some false) else (Ob a0 ())))))
theorem Nk {a0:Ah} {r:Bool} (h:Il a0=some r):Br Tryz.prog 16 [.agg (EL.el a0)] (·=.s (.one (.b r))):=by
 unfold Il at h
 refine A2 Tryz.func16 R (nt:=60) R (Nbl R) ?_
 intro w0 S0
 refine csr (F2 R R (rm 1 R (Ak (Bn (Bn (cj3 (Unit) (fun b1=>[(1,.s (.one (.lp 0 0)))]) (fun b1=>[.box (EL.el a0)]) (fun b1=>Ob a0 b1=some r) (fun _=>R) (fun b1 h=>?_) ?_))))))
 ·unfold Ob at h
  refine Bn (csr (sv R (Ac Sy R) (fl N0 Aaj R R R R R R (sv R (Au Qd R) (rm 1 R (Ak (cj (Unit) (fun b2=>[(1,.s (.one (.lp 0 0)))]) (fun b2=>[.box (EL.el a0)]) (fun b2=>Mt a0 b2=some r) (fun _=>R) (fun b2 h=>?_) ?_)))))))
  ·unfold Mt at h
   refine csr (sv R (lo De R R R) ?_)
   obtain ⟨v3,hv3,h⟩:=Ae h
   refine A8 R A04 (Aa R Af) (An R) (V7 hv3) (rm 1 R (Ak (Bs ?_)))
   obtain rfl:=SJ h
   exact dnT R R R R
  ·skip
   refine Bq ?_
   obtain ⟨x4,hx4,ho4⟩:=Ae h
   refine lpo (G:=Nat × (Int)) (fun g=>[(1,.s (.one (.lp 0 0))),(33,.s (.one (.sl a0.Cert.Txs.length (a0.Cert.Txs.flatMap Bb)))),(34,.s (.one (Ii6 (a0.Cert.Txs.length:Int)))),(35,.s (.one (Ii6 g.2)))]) (fun g=>[.box (EL.el a0)]) (fun g=>Lj (L6 a0) g.1 g.2=some x4) (fun g=>g.1) (fuel,0) hx4 ⟨R,R,R,R,trivial⟩ [] R (fun _=>R) ?_
   clear hx4 h
   rintro ⟨n4,s4⟩ h
   obtain ⟨n4,y4,rfl,h,hk4⟩:=Fh h
   unfold L6 at h
   refine csr (sv R (Bt R R) (Ak (Bn (ccI h R (fun h=>?_) (fun h=>?_)))))
   ·refine Bf (Ab (Bn (Bq (Bn (Ap ?_)))))
    obtain ⟨u5,hu5,h⟩:=Ae h
    refine sv R (Cb (f:=Bb) Qd (fun _=>R) R R R R hu5) ?_
    refine sv R (Bz (ys:=[Ii6 u5.ID,Ii6 u5.Begin,Ii6 u5.End,Ii6 u5.State,.b u5.In,.b u5.Out,.b u5.RO,.sl u5.Keys.length (u5.Keys.flatMap (eL eU8))]) Jr R (.cp _) R R) (Bo R S8 (sst Si R R R R R (Ak (csr (fl Qo ti3 R R R R R R (sv R (Ac Sz R) (fl Ro ti3 R R R R R R (sv R (C9 R R) (rm 1 R (ssI 45 h R (fun h=>?_) (fun h=>?_)))))))))))
    ·refine rm 4 R (B8 R R R (B8 R R R (B8 R R R (B8 R R R (B8 R R R (rm 2 R (Ak (Ck R (fun _=>?_) (fun hx=>Bool.noConfusion hx)))))))))
     refine csr (rm 1 R (Ak (Bs (A0 (Ag (Ag (A0 (Ag ?_))))))))
     obtain rfl:=SJ h
     obtain rfl:Sum.inl _=x4:=hk4
     replace ho4:some _=some _:=ho4
     obtain rfl:=zD ho4
     exact dnT R R R R
    ·refine son R R R (sv R (Ac O6 R) (son R R R (sv R (l1 ti3 R R R) (son R R R (sv R (B0 R R) (rm 1 R (ssI 49 h R (fun h=>?_) (fun h=>?_))))))))
     ·refine son R R R (ld De R R R R (son R R R (sv R (Ac Tm R) (son R R R (sv R (l1 ti3 R R R) (son R R R ?_))))))
      obtain ⟨v6,hv6,h⟩:=Ae h
      refine A8 R Axf (Aa R (Aa R Af)) (An R) (Qy hv6) (son R R R (sv R (Bt R R) (rm 2 R (Ak (ccI h R (fun h=>?_) (fun h=>?_))))))
      ·refine csr (rm 1 R (Ak (Bs (A0 (Ag (Ag (A0 (Ag ?_))))))))
       obtain rfl:=SJ h
       obtain rfl:Sum.inl _=x4:=hk4
       replace ho4:some _=some _:=ho4
       obtain rfl:=zD ho4
       exact dnT R R R R
      ·refine Bf (Ao (Ab (Ap (sv R (Bm R R) (rm 1 R (Ak ?_))))))
       obtain rfl:=SJ h
       exact ⟨(n4,(wI (s4+1))),_,hk4,⟨R,R,R,R,trivial⟩,R,zH _⟩
     ·refine rm 7 R (Ak (Ck R (fun hx=>Bool.noConfusion hx) (fun _=>?_)))
      refine Bf (Ao (Ab (Ap (sv R (Bm R R) (rm 1 R (Ak ?_))))))
      obtain rfl:=SJ h
      exact ⟨(n4,(wI (s4+1))),_,hk4,⟨R,R,R,R,trivial⟩,R,zH _⟩
   ·refine Dd (Ar (Ar (Bj (Ab ?_))))
    obtain rfl:=SJ h
    obtain rfl:_=x4:=hk4
    exact ⟨(),_,ho4,⟨R,trivial⟩,R⟩
 ·skip
  refine Ap (sv R (Ac Sz R) (sv R (lo Yb R R R) ?_))
  obtain ⟨v8,hv8,h⟩:=Ae h
  refine A8 R Auh (Aa R Af) (An R) (Lg hv8) (sv R (B1 R) (rm 1 R (ssI 9 h R (fun h=>?_) (fun h=>?_))))
  ·refine rm 21 R (Ak (Ck R (fun _=>?_) (fun hx=>Bool.noConfusion hx)))
   refine csr (rm 1 R (Ak (Bs (Ag ?_))))
   obtain rfl:=SJ h
   exact dnT R R R R
  ·refine son R R R (sv R (Ac Sy R) (son R R R (ld Qq R R R R (son R R R ?_))))
   obtain ⟨v9,hv9,h⟩:=Ae h
   refine A8 R Awz (Aa R Af) (An R) (Pg hv9) (son R R R (sv R (B1 R) (rm 2 R (ssI 15 h R (fun h=>?_) (fun h=>?_)))))
   ·refine rm 15 R (Ak (Ck R (fun _=>?_) (fun hx=>Bool.noConfusion hx)))
    refine csr (rm 1 R (Ak (Bs (Ag ?_))))
    obtain rfl:=SJ h
    exact dnT R R R R
   ·refine son R R R (sv R (Ac Ty R) (son R R R (ld Oj R R R R (son R R R ?_))))
    obtain ⟨v10,hv10,h⟩:=Ae h
    refine A8 R Avj (Aa R Af) (An R) (Kb hv10) (son R R R (sv R (B1 R) (rm 2 R (ssI 21 h R (fun h=>?_) (fun h=>?_)))))
    ·refine rm 9 R (Ak (Ck R (fun _=>?_) (fun hx=>Bool.noConfusion hx)))
     refine csr (rm 1 R (Ak (Bs (Ag ?_))))
     obtain rfl:=SJ h
     exact dnT R R R R
    ·refine son R R R (sv R (Ac Ti R) (son R R R (sv R (l1 ti3 R R R) (son R R R (sv R (Bt R R) (rm 2 R (ssI 26 h R (fun h=>?_) (fun h=>?_))))))))
     ·refine rm 4 R (Ak (Ck R (fun _=>?_) (fun hx=>Bool.noConfusion hx)))
      refine csr (rm 1 R (Ak (Bs (Ag ?_))))
      obtain rfl:=SJ h
      exact dnT R R R R
     ·refine son R R R (sv R (Ac Ti R) (son R R R (sv R (l1 ti3 R R R) (son R R R (sv R (C9 R R) (rm 1 R (Ak (ccI h R (fun h=>?_) (fun h=>?_)))))))))
      ·refine csr (rm 1 R (Ak (Bs (Ag ?_))))
       obtain rfl:=SJ h
       exact dnT R R R R
      ·refine Bf (Ab ?_)
       exact ⟨(),_,h,⟨R,trivial⟩,R⟩
def Ox (b1:Unit):Option (Bc × Bool) :=
 some (Ps,false)
def Ii (a0:Ah) (a1:Int) (s2:Int):Option (LR (Int) (Unit) (Bc × Bool)) :=
 if (decide (s2<(a0.Open.length:Int))) then ((idx a0.Open s2).bind fun u3=>if (decide (u3.Token=a1)) then (some (.ret (u3,true))) else (some (.cont (wI (s2+1))))) else (some (.brk ()))
def Kg (a0:Ah) (a1:Int):Option (Bc × Bool) :=
 (Lj (Ii a0 a1) fuel 0).bind fun x=>match x with | .inl r=>some r | .inr e4=>Ox e4
theorem Sd {a0:Ah} {a1:Int} {r:Bc × Bool} (h:Kg a0 a1=some r):Br Tryz.prog 56 [.agg (EL.el a0),.one (Ii6 a1)] (·=.tup [.agg (EL.el r.1),.one (.b r.2)]):=by
 unfold Kg at h
 refine A2 Tryz.func56 R (nt:=22) R (Nbl R) ?_
 intro w0 S0
 refine csr (F2 R R (Bo R Aag (rm 1 R (Ak (Bn (csr (fl Rc Ail R R R R R R (sv R (Au Y4 R) (rm 1 R (Ak (cj (Unit) (fun b1=>[(4,.s (.one (.lp 1 0)))]) (fun b1=>[.box (EL.el a0),.box [Ii6 0,Ii6 0,Ii6 0,Ii6 0,.b false,Znl]]) (fun b1=>Ox b1=some r) (fun _=>R) (fun b1 h=>?_) ?_)))))))))))
 ·unfold Ox at h
  refine csr (sv R (A3 Aag Aw2 Ay (.nil _)) (sst Aah R R R R R (rm 1 R (Ak (Bs ?_)))))
  obtain rfl:=SJ h
  exact dn (Ad (ra Wc R R R) (Ad (rt R) Aj)) (I8 R) R
 ·skip
  refine Bq ?_
  obtain ⟨x2,hx2,ho2⟩:=Ae h
  refine lpo (G:=Nat × (Int)) (fun g=>[(1,.s (.one (Ii6 a1))),(4,.s (.one (.lp 1 0))),(9,.s (.one (.sl a0.Open.length (a0.Open.flatMap Bl)))),(10,.s (.one (Ii6 (a0.Open.length:Int)))),(11,.s (.one (Ii6 g.2)))]) (fun g=>[.box (EL.el a0),.box [Ii6 0,Ii6 0,Ii6 0,Ii6 0,.b false,Znl]]) (fun g=>Lj (Ii a0 a1) g.1 g.2=some x2) (fun g=>g.1) (fuel,0) hx2 ⟨R,R,R,R,R,trivial⟩ [] R (fun _=>R) ?_
  clear hx2 h
  rintro ⟨n2,s2⟩ h
  obtain ⟨n2,y2,rfl,h,hk2⟩:=Fh h
  unfold Ii at h
  refine csr (sv R (Bt R R) (Ak (Bn (ccI h R (fun h=>?_) (fun h=>?_)))))
  ·refine Bf (Ab (Bn (Bq (Bn (Ap ?_)))))
   obtain ⟨u3,hu3,h⟩:=Ae h
   refine sv R (Cb (f:=Bl) Y4 (fun _=>R) R R R R hu3) ?_
   refine sv R (Bz (ys:=[Ii6 u3.ID,Ii6 u3.Token,Ii6 u3.Attempt,Ii6 u3.Snap,.b u3.RO,.sl u3.Buf.L.length (u3.Buf.L.flatMap Ba)]) Wc R (.cp _) R R) (Bo R Aag (sst Aah R R R R R (Ak (csr (fl Afd ti3 R R R R R R (rm 1 R (sv R (B0 R R) (Ak (ccI h R (fun h=>?_) (fun h=>?_))))))))))
   ·refine csr (ld Wc R R R R (sst Aah R R R R R (rm 1 R (Ak (Bs (A0 (Ag (Ag (A0 (Ag ?_))))))))))
    obtain rfl:=SJ h
    obtain rfl:Sum.inl _=x2:=hk2
    replace ho2:some _=some _:=ho2
    obtain rfl:=zD ho2
    exact dn (Ad (ra Wc R R R) (Ad (rt R) Aj)) (An R) R
   ·refine Bf (Ao (Ab (Ap (sv R (Bm R R) (rm 1 R (Ak ?_))))))
    obtain rfl:=SJ h
    exact ⟨(n2,(wI (s2+1))),_,hk2,⟨R,R,R,R,R,trivial⟩,R,zH _⟩
  ·refine Dd (Ar (Ar (Bj (Ab ?_))))
   obtain rfl:=SJ h
   obtain rfl:_=x2:=hk2
   exact ⟨(),_,ho2,⟨R,trivial⟩,R⟩
def Og (a0:Ah) (b1:(List Bc)):Option Ah :=
 some ({a0 with Open:=b1})
def Iw (a0:Ah) (a1:Int) (s2:Int × (List Bc)):Option (LB (Int × (List Bc)) ((List Bc))) :=
 if (decide (s2.1<(a0.Open.length:Int))) then ((idx a0.Open s2.1).bind fun u3=>if (!decide (u3.ID=a1)) then (if (s2.2.length+[u3].length)*64≤140737488355328 then (some (.cont ((wI (s2.1+1)),(s2.2++[u3])))) else none) else (some (.cont ((wI (s2.1+1)),s2.2)))) else (some (.brk s2.2))
def Ko (a0:Ah) (a1:Int):Option Ah :=
 (Cw (Iw a0 a1) fuel (0,([]:List Bc))).bind fun e5=>Og a0 e5
theorem R6 {a0:Ah} {a1:Int} {r:Ah} (h:Ko a0 a1=some r):Br Tryz.prog 128 [.agg (EL.el a0),.one (Ii6 a1)] (·=.s (.agg (EL.el r))):=by
 unfold Ko at h
 refine A2 Tryz.func128 R (nt:=27) R (Nbl R) ?_
 intro w0 S0
 refine csr (F2 R R (Bo R Qs (Ak (csr (rm 1 R (Ak (Bn (csr (fl Rc Ail R R R R R R (sv R (Au Y4 R) (rm 1 R (Ak ?_))))))))))))
 refine Dh 88 6 5 (by decide) R ?_
 refine cj ((List Bc)) (fun b1=>[(2,.s (.one (.lp 0 0))),(4,.s (.one (.lp 1 0))),(5,.s (.one (.ls 2 b1.length)))]) (fun b1=>[.box (EL.el a0),.box Zba,.arr 88 6 0 (b1.flatMap Bl)]) (fun b1=>Og a0 b1=some r) (fun _=>R) (fun b1 h=>?_) ?_
 ·unfold Og at h
  refine csr (rm 1 R (sv R (Ac Rc R) (sst Az5 R R R R R (Ak (csr (ld De R R R R (sst Iq R R R R R (Ak (Bs ?_)))))))))
  obtain rfl:=SJ h
  refine ⟨Or.inr R,_,_,_,(Ad (ra De R R R) Aj),(by (repeat' first | exact H6.nil _ | apply H6.cons | apply Hy.one | apply Hy.agg | exact C7.nil | exact C7.ls _ _ _ _ _ _ R (Aw (f:=Bl) (fun _=>R) _).symm | exact C7.id _ R | exact Cs.nil _ | apply Cs.cons)),?_⟩
  rfl
 ·skip
  refine Bq ?_
  obtain ⟨x2,hx2,ho2⟩:=Ae h
  refine lpo (G:=Nat × (Int × (List Bc))) (fun g=>[(1,.s (.one (Ii6 a1))),(2,.s (.one (.lp 0 0))),(4,.s (.one (.lp 1 0))),(5,.s (.one (.ls 2 g.2.2.length))),(9,.s (.one (.sl a0.Open.length (a0.Open.flatMap Bl)))),(10,.s (.one (Ii6 (a0.Open.length:Int)))),(11,.s (.one (Ii6 g.2.1)))]) (fun g=>[.box (EL.el a0),.box Zba,.arr 88 6 0 (g.2.2.flatMap Bl)]) (fun g=>Cw (Iw a0 a1) g.1 g.2=some x2) (fun g=>g.1) (fuel,(0,([]:List Bc))) hx2 ⟨R,R,R,R,R,R,R,trivial⟩ [] R (fun _=>R) ?_
  clear hx2 h
  rintro ⟨n2,s2⟩ h
  obtain ⟨n2,y2,rfl,h,hk2⟩:=Cy h
  unfold Iw at h
  refine csr (sv R (Bt R R) (Ak (Bn (ccI h R (fun h=>?_) (fun h=>?_)))))
  ·refine Bf (Ab (Bn (Bq (Bn (Ap ?_)))))
   obtain ⟨u3,hu3,h⟩:=Ae h
   refine sv R (Cb (f:=Bl) Y4 (fun _=>R) R R R R hu3) ?_
   refine sv R (Bz (ys:=[Ii6 u3.ID,Ii6 u3.Token,Ii6 u3.Attempt,Ii6 u3.Snap,.b u3.RO,.sl u3.Buf.L.length (u3.Buf.L.flatMap Ba)]) Wc R (.cp _) R R) (Bo R Aag (sst Aah R R R R R (Ak (csr (fl Ry ti3 R R R R R R (rm 1 R (sv R (C6 R R) (Ak (ccI h R (fun h=>?_) (fun h=>?_))))))))))
   ·refine Ap (rm 1 R (sv R (lo Wc R R R) ?_))
    refine Fo R Tryz.underlying38 As3 R R (zJ.1 R) (by decide) ?_
    refine Pq [.box (EL.el a0),.box Zba,.arr 88 6 0 (s2.2.flatMap Bl),.box (EL.el u3),.arr 88 6 0 ([u3].flatMap Bl)] R ?_
    obtain ⟨hb4,h⟩:=Cr h
    refine Ub (f:=Bl) (xs:=s2.2) (us:=[u3]) R Tryz.underlying38 As3 Azh (fun _=>R) R R (.one _ _ _ _ (.ls _ _ _ _ _ _ R (Aw (f:=Bl) (fun _=>R) [u3]).symm)) R R R (.sl _ _ _ (Aw (f:=Bl) (fun _=>R) _)) R R hb4 (by decide) ?_
    refine rm 1 R (Ki (Ao (Ab (Ap (sv R (Bm R R) (rm 1 R (Ak ?_)))))))
    obtain rfl:=SJ h
    exact ⟨(n2,((wI (s2.1+1)),(s2.2++[u3]))),_,hk2,⟨R,R,R,R,R,R,R,trivial⟩,R,zH _⟩
   ·refine Bf (Ao (Ab (Ap (sv R (Bm R R) (rm 1 R (Ak ?_))))))
    obtain rfl:=SJ h
    exact ⟨(n2,((wI (s2.1+1)),s2.2)),_,hk2,⟨R,R,R,R,R,R,R,trivial⟩,R,zH _⟩
  ·refine Dd (Ar (Ar (Bj (Ab ?_))))
   obtain rfl:=SJ h
   obtain rfl:_=x2:=hk2
   exact ⟨s2.2,_,ho2,⟨R,R,R,trivial⟩,R⟩
def F5 (a0:Be) (a1:Int):Option Int :=
 (G8 a0 a1).bind fun v1=>if (decide (v1<0)) then (some (-1)) else ((idx a0.Txs v1).bind fun u2=>if (!decide (u2.State=1)) then (some (-1)) else (some v1))
theorem Pe {a0:Be} {a1:Int} {r:Int} (h:F5 a0 a1=some r):Br Tryz.prog 194 [.agg (EL.el a0),.one (Ii6 a1)] (·=.s (.one (Ii6 r))):=by
 unfold F5 at h
 refine A2 Tryz.func194 R (nt:=21) R (Nbl R) ?_
 intro w0 S0
 refine csr (F2 R R (rm 1 R (Ak (csr (ld Qq R R R R (sv R (A4 R) ?_))))))
 obtain ⟨v1,hv1,h⟩:=Ae h
 refine A8 R Atd (Aa R (Aa R Af)) (An R) (P0 hv1) (rm 1 R (Ak (Bn (csr (rm 1 R (sv R (Bt R R) (rm 1 R (ssI 11 h R (fun h=>?_) (fun h=>?_)))))))))
 ·refine rm 8 R (Ak (Ck R (fun _=>?_) (fun hx=>Bool.noConfusion hx)))
  refine csr (rm 1 R (Ak (Bs (Ag ?_))))
  obtain rfl:=SJ h
  exact dnT R R R R
 ·refine son R R R (sv R (Ac N0 R) (son R R R (sv R (l1 Aaj R R R) (rm 1 R (son R R R ?_)))))
  obtain ⟨u2,hu2,h⟩:=Ae h
  refine sv R (Cb (f:=Bb) Qd (fun _=>R) R R R R hu2) ?_
  refine son R R R (sv R (Ce O6 R) (son R R R (sv R (B6 ti3 R (.cp _) R) (son R R R (sv R (C6 R R) (rm 1 R (Ak (ccI h R (fun h=>?_) (fun h=>?_)))))))))
  ·refine csr (rm 1 R (Ak (Bs (Ag ?_))))
   obtain rfl:=SJ h
   exact dnT R R R R
  ·refine Bf (Ab (csr (rm 2 R (Ak (Bs ?_)))))
   obtain rfl:=SJ h
   exact dnT R R R R
def Kx (a0:Be) (a1:List Int) (b1:(List A1)):Option Be :=
 (Kj a0.Reads a1).bind fun v2=>some (Be.mk b1 v2)
def Fj (a0:Be) (a1:List Int) (s3:Int × (List A1)):Option (LB (Int × (List A1)) ((List A1))) :=
 if (decide (s3.1<(a0.Txs.length:Int))) then ((idx a0.Txs s3.1).bind fun u4=>(Dz a1 u4.ID).bind fun v5=>if (!v5) then (if (s3.2.length+[u4].length)*64≤140737488355328 then (some (.cont ((wI (s3.1+1)),(s3.2++[u4])))) else none) else (some (.cont ((wI (s3.1+1)),s3.2)))) else (some (.brk s3.2))
def Ia (a0:Be) (a1:List Int):Option Be :=
 (Cw (Fj a0 a1) fuel (0,([]:List A1))).bind fun e7=>Kx a0 a1 e7
theorem Rb {a0:Be} {a1:List Int} {r:Be} (h:Ia a0 a1=some r):Br Tryz.prog 195 [.agg (EL.el a0),.one (.sl a1.length (a1.flatMap eI))] (·=.s (.agg (EL.el r))):=by
 unfold Ia at h
 refine A2 Tryz.func195 R (nt:=31) R (Nbl R) ?_
 intro w0 S0
 refine csr (F2 R R (Bo R Wy (Ak (csr (rm 1 R (Ak (Bn (csr (fl N0 Aaj R R R R R R (sv R (Au Qd R) (rm 1 R (Ak ?_))))))))))))
 refine Dh 139 8 5 (by decide) R ?_
 refine cj ((List A1)) (fun b1=>[(1,.s (.one (.sl a1.length (a1.flatMap eI)))),(2,.s (.one (.lp 0 0))),(4,.s (.one (.lp 1 0))),(5,.s (.one (.ls 2 b1.length)))]) (fun b1=>[.box (EL.el a0),.box [Znl,Znl],.arr 139 8 0 (b1.flatMap Bb)]) (fun b1=>Kx a0 a1 b1=some r) (fun _=>R) (fun b1 h=>?_) ?_
 ·unfold Kx at h
  refine csr (rm 1 R (sv R (Ac X6 R) (ld Ab5 R R R R (sv R (A4 R) ?_))))
  obtain ⟨v2,hv2,h⟩:=Ae h
  refine A8 R Av3 (Aa R (Aa R Af)) (An R) (R0 hv2) (sv R (A3 Wy Ac2 (Av R (Av R Ay)) (.cons _ _ _ _ _ _ _ R R (Nbl R) (.cons _ _ _ _ _ _ _ R R (Nbl R) (.nil _)))) (sst Xw R R R R R (Ak (Bs ?_))))
  obtain rfl:=SJ h
  refine ⟨Or.inr R,_,_,_,(Ad (ra Qq R R R) Aj),(by (repeat' first | exact H6.nil _ | apply H6.cons | apply Hy.one | apply Hy.agg | exact C7.nil | exact C7.ls _ _ _ _ _ _ R (Aw (f:=Bb) (fun _=>R) _).symm | exact C7.id _ R | exact Cs.nil _ | apply Cs.cons)),?_⟩
  rfl
 ·skip
  refine Bq ?_
  obtain ⟨x3,hx3,ho3⟩:=Ae h
  refine lpo (G:=Nat × (Int × (List A1))) (fun g=>[(1,.s (.one (.sl a1.length (a1.flatMap eI)))),(2,.s (.one (.lp 0 0))),(4,.s (.one (.lp 1 0))),(5,.s (.one (.ls 2 g.2.2.length))),(9,.s (.one (.sl a0.Txs.length (a0.Txs.flatMap Bb)))),(10,.s (.one (Ii6 (a0.Txs.length:Int)))),(11,.s (.one (Ii6 g.2.1)))]) (fun g=>[.box (EL.el a0),.box [Znl,Znl],.arr 139 8 0 (g.2.2.flatMap Bb)]) (fun g=>Cw (Fj a0 a1) g.1 g.2=some x3) (fun g=>g.1) (fuel,(0,([]:List A1))) hx3 ⟨R,R,R,R,R,R,R,trivial⟩ [] R (fun _=>R) ?_
  clear hx3 h
  rintro ⟨n3,s3⟩ h
  obtain ⟨n3,y3,rfl,h,hk3⟩:=Cy h
  unfold Fj at h
  refine csr (sv R (Bt R R) (Ak (Bn (ccI h R (fun h=>?_) (fun h=>?_)))))
  ·refine Bf (Ab (Bn (Bq (Bn (Ap ?_)))))
   obtain ⟨u4,hu4,h⟩:=Ae h
   refine sv R (Cb (f:=Bb) Qd (fun _=>R) R R R R hu4) ?_
   refine sv R (Bz (ys:=[Ii6 u4.ID,Ii6 u4.Begin,Ii6 u4.End,Ii6 u4.State,.b u4.In,.b u4.Out,.b u4.RO,.sl u4.Keys.length (u4.Keys.flatMap (eL eU8))]) Jr R (.cp _) R R) (Bo R S8 (sst Si R R R R R (Ak (csr (rm 1 R (sv R (Ac Tm R) (sv R (l1 ti3 R R R) ?_)))))))
   obtain ⟨v5,hv5,h⟩:=Ae h
   refine A8 R Atk (Aa R (Aa R Af)) (An R) (Lr hv5) (sv R (B1 R) (Ak (ccI h R (fun h=>?_) (fun h=>?_))))
   ·refine Ap (rm 1 R (sv R (lo Jr R R R) ?_))
    refine Fo R Tryz.underlying29 Ahh R R (zJ.1 R) (by decide) ?_
    refine Pq [.box (EL.el a0),.box [Znl,Znl],.arr 139 8 0 (s3.2.flatMap Bb),.box (EL.el u4),.arr 139 8 0 ([u4].flatMap Bb)] R ?_
    obtain ⟨hb6,h⟩:=Cr h
    refine Ub (f:=Bb) (xs:=s3.2) (us:=[u4]) R Tryz.underlying29 Ahh Azk (fun _=>R) R R (.one _ _ _ _ (.ls _ _ _ _ _ _ R (Aw (f:=Bb) (fun _=>R) [u4]).symm)) R R R (.sl _ _ _ (Aw (f:=Bb) (fun _=>R) _)) R R hb6 (by decide) ?_
    refine rm 1 R (Ki (Ao (Ab (Ap (sv R (Bm R R) (rm 1 R (Ak ?_)))))))
    obtain rfl:=SJ h
    exact ⟨(n3,((wI (s3.1+1)),(s3.2++[u4]))),_,hk3,⟨R,R,R,R,R,R,R,trivial⟩,R,zH _⟩
   ·refine Bf (Ao (Ab (Ap (sv R (Bm R R) (rm 1 R (Ak ?_))))))
    obtain rfl:=SJ h
    exact ⟨(n3,((wI (s3.1+1)),s3.2)),_,hk3,⟨R,R,R,R,R,R,R,trivial⟩,R,zH _⟩
  ·refine Dd (Ar (Ar (Bj (Ab ?_))))
   obtain rfl:=SJ h
   obtain rfl:_=x3:=hk3
   exact ⟨s3.2,_,ho3,⟨R,R,R,R,trivial⟩,R⟩
def Ef (a0:Be) (a1:Int):Option Be :=
 (F5 a0 a1).bind fun v1=>if (decide (v1<0)) then (some a0) else ((Ia a0 [a1]).bind fun v2=>some v2)
theorem Yv {a0:Be} {a1:Int} {r:Be} (h:Ef a0 a1=some r):Br Tryz.prog 129 [.agg (EL.el a0),.one (Ii6 a1)] (·=.s (.agg (EL.el r))):=by
 unfold Ef at h
 refine A2 Tryz.func129 R (nt:=14) R (Nbl R) ?_
 intro w0 S0
 refine csr (F2 R R (Bo R Wy (Ak (Bn (csr (ld Qq R R R R (sv R (A4 R) ?_)))))))
 obtain ⟨v1,hv1,h⟩:=Ae h
 refine A8 R Asq (Aa R (Aa R Af)) (An R) (Pe hv1) (sv R (Bt R R) (Ak (ccI h R (fun h=>?_) (fun h=>?_))))
 ·refine csr (ld Qq R R R R (sst Xw R R R R R (Ak (Bs (Ag ?_)))))
  obtain rfl:=SJ h
  exact dnA R Qq R (.lp _ _ _ R) (Nbl R) R R
 ·refine Bf (Ab (csr (ld Qq R R R R (sv R (A4 R) ?_))))
  refine Fo R Tryz.underlying225 ei3 R R (zJ.1 R) (by decide) ?_
  refine Pq [.box (EL.el a0),.box [Znl,Znl],.arr 3 1 0 ([a1].flatMap eI)] R ?_
  refine Ahv 12 R (by (repeat' first | exact H6.nil _ | apply H6.cons | apply Hy.one | apply Hy.agg | exact C7.nil | exact C7.ls _ _ _ _ _ _ R (Aw (f:=eI) (fun _=>R) ([a1]:List Int)).symm | exact C7.ls _ _ _ _ _ _ R (Aw (f:=eI) (fun _=>R) _).symm | exact C7.id _ R | exact Cs.nil _ | apply Cs.cons)) ?_
  obtain ⟨v2,hv2,h⟩:=Ae h
  refine A8 R Auu (Aa R (Aa R Af)) (An R) (Rb hv2) (sst Xw R R R R R (Ak (Bs ?_)))
  obtain rfl:=SJ h
  exact dnA R Qq R (.lp _ _ _ R) (Nbl R) R R
def Ex (a0:Bi) (a1:Int):Option (A5 × Bool) :=
 (Et a0 a1).bind fun v1=>if (decide (v1=(a0.L.length:Int))) then (some ((A5.mk 0 0 0 0),false)) else ((idx a0.L v1).bind fun u2=>some (u2,true))
theorem Kp {a0:Bi} {a1:Int} {r:A5 × Bool} (h:Ex a0 a1=some r):Br Tryz.prog 74 [.agg [.sl a0.L.length (a0.L.flatMap Am)],.one (Ii6 a1)] (·=.tup [.agg (EL.el r.1),.one (.b r.2)]):=by
 unfold Ex at h
 refine A2 Tryz.func74 R (nt:=21) R (Nbl R) ?_
 intro w0 S0
 refine csr (F2 R R (Bo R Vz (rm 1 R (Ak (csr (ld Oj R R R R (sv R (A4 R) ?_)))))))
 obtain ⟨v1,hv1,h⟩:=Ae h
 refine A8 R Aqc (Aa R (Aa R Af)) (An R) (La hv1) (rm 1 R (Ak (Bn (csr (rm 1 R (fl U4 Akv R R R R R R (sv R (Au Abp R) (sv R (B0 R R) (Ak (ccI h R (fun h=>?_) (fun h=>?_)))))))))))
 ·refine csr (sv R (A3 Vz Agv Ay (.nil _)) (sst Aao R R R R R (rm 1 R (Ak (Bs (Ag ?_))))))
  obtain rfl:=SJ h
  exact dn (Ad (ra Abx R R R) (Ad (rt R) Aj)) (An R) R
 ·refine Bf (Ab (csr (fl U4 Akv R R R R R R (sv R (A4 R) ?_))))
  obtain ⟨u2,hu2,h⟩:=Ae h
  refine sv R (Cb (f:=Am) Abp (fun _=>R) R R R R hu2) ?_
  refine sv R (Bz (ys:=[Ii6 u2.Tok,Ii6 u2.Attempt,Ii6 u2.State,Ii6 u2.Ts]) Abx R (.cp _) R R) (sst Aao R R R R R (rm 1 R (Ak (Bs ?_))))
  obtain rfl:=SJ h
  exact dn (Ad (ra Abx R R R) (Ad (rt R) Aj)) (An R) R
def Im (a0:List A5):Option (List A5) :=
 if (([]:List A5).length+a0.length)*32≤140737488355328 then (some (([]:List A5)++a0)) else none
theorem Ui {a0:List A5} {r:(List A5)} (h:Im a0=some r):Dn Tryz.prog 249 [] [.one (.sl a0.length (a0.flatMap Am))] (fun y m'=>y=.s (.one (.ls 0 r.length))∧m'=[.arr 145 4 0 (r.flatMap Am)]):=by
 unfold Im at h
 refine Dk Tryz.func249 R (nt:=8) R (Nbl R) ?_
 intro w0 S0 X0 H0
 refine csr (rm 1 R (Ak (Bn (csr (rm 1 R (Ab2 R Tryz.underlying35 R (fun nq hnq=>?_)))))))
 cases nq
 ·skip
  refine Ak (Ck R (fun hx=>Bool.noConfusion hx) (fun _=>?_))
  refine Bf (Ab (csr (Ss R Tryz.underlying35 Aks (sv R (A4 R) ?_))))
  obtain ⟨hb1,h⟩:=Cr h
  refine Ub (f:=Am) (xs:=([]:List A5)) (us:=a0) R Tryz.underlying35 Aks Ayk (fun _=>R) R R (.one _ _ _ _ (.id _ R)) R R R (.sl _ _ _ (Aw (f:=Am) (fun _=>R) _)) R R hb1 (by decide) ?_
  refine rm 1 R (Ak (Bs ?_))
  obtain rfl:=SJ h
  exact ⟨Or.inr R,_,[0],[.one (.ls 0 (([]:List A5)++a0).length)],[.arr 145 4 0 ((([]:List A5)++a0).flatMap Am)],(Ad (rt R) Aj),R,R,⟨by decide,R⟩,R,R,⟨R,R⟩⟩
 ·obtain rfl:=zZ (hnq rfl)
  replace h:(some ([]:List A5))=some r:=by first | exact h | (rw [if_pos (by decide)] at h;exact h)
  refine Ak (Ck R (fun _=>?_) (fun hx=>Bool.noConfusion hx))
  refine csr (rm 1 R (Ak ?_))
  refine Dh 145 4 2 (by decide) R ?_
  refine Bs (Ag ?_)
  obtain rfl:=SJ h
  exact ⟨Or.inr R,_,[0],[.one (.ls 0 ([]:List A5).length)],[.arr 145 4 0 (([]:List A5).flatMap Am)],(Ad (rt R) Aj),R,R,⟨by decide,R⟩,R,R,⟨R,R⟩⟩
def Mk (a0:List A5) (a1:Int) (a2:A5):Option (List A5) :=
 (Im a0).bind fun v1=>if (decide ((v1.length:Int)≤a1)) then (if (v1.length+[a2].length)*32≤140737488355328 then (some (v1++[a2])) else none) else ((idx v1 a1).bind fun u3=>some (v1.set a1.toNat a2))
theorem W4 {a0:List A5} {a1:Int} {a2:A5} {r:(List A5)} (h:Mk a0 a1 a2=some r):Br Tryz.prog 196 [.one (.sl a0.length (a0.flatMap Am)),.one (Ii6 a1),.agg (EL.el a2)] (·=.s (.one (.sl r.length (r.flatMap Am)))):=by
 unfold Mk at h
 refine A2 Tryz.func196 R (nt:=23) R (Nbl R) ?_
 intro w0 S0
 refine csr (F2 R R (rm 1 R (Ak (csr (sv R (A4 R) ?_)))))
 obtain ⟨v1,hv1,h⟩:=Ae h
 refine H7 (x':=.s (.one (.ls 1 v1.length))) (M':=[.box (EL.el a2),.arr 145 4 0 (v1.flatMap Am)]) [] R Axi (.func _) (Aa R Af) (Ui hv1) R R (by decide) R R R ?_
 refine rm 1 R (Ak (Bn (csr (rm 2 R (sv R (Hj Abp R R (Aw (f:=Am) (fun _=>R) _).symm) ?_)))))
 refine sv R (Hn R R) (Ak (ccI h R (fun h=>?_) (fun h=>?_)))
 ·refine csr (rm 1 R (sv R (lo Abx R R R) ?_))
  refine Fo R Tryz.underlying35 Aks R R (zJ.1 R) (by decide) ?_
  refine Pq [.box (EL.el a2),.arr 145 4 0 (v1.flatMap Am),.arr 145 4 0 ([a2].flatMap Am)] R ?_
  obtain ⟨hb2,h⟩:=Cr h
  refine Ub (f:=Am) (xs:=v1) (us:=[a2]) R Tryz.underlying35 Aks Ayk (fun _=>R) R R (.one _ _ _ _ (.ls _ _ _ _ _ _ R (Aw (f:=Am) (fun _=>R) [a2]).symm)) R R R (.sl _ _ _ (Aw (f:=Am) (fun _=>R) _)) R R hb2 (by decide) ?_
  refine rm 1 R (Ak (Bs (Ag ?_)))
  obtain rfl:=SJ h
  refine ⟨Or.inr R,_,_,_,(Ad (rt R) Aj),(by (repeat' first | exact H6.nil _ | apply H6.cons | apply Hy.one | apply Hy.agg | exact C7.nil | exact C7.ls _ _ _ _ _ _ R (Aw (f:=Am) (fun _=>R) _).symm | exact C7.id _ R | exact Cs.nil _ | apply Cs.cons)),?_⟩
  rfl
 ·refine Bf (Ab (csr (rm 2 R (sv R (lo Abx R R R) ?_))))
  obtain ⟨u3,hu3,h⟩:=Ae h
  refine sv R (Gq (f:=Am) Abp (fun _=>R) R R R R R hu3) ?_
  refine Zf (f:=Am) (u':=a2) (sz:=4) 0 Aao (fun _=>R) R R R R R R R (zJ.1 R) (Iv hu3).2 (Nbl R) R ?_
  refine Mf 9 (y:=.s (.one (.ls 1 v1.length))) (.s (.one (.ls 1 (v1.set a1.toNat a2).length))) R (congrArg (fun n=>AV.s (.one (.ls 1 n))) List.length_set.symm) ?_
  refine Mf 7 (y:=.s (.one (.ls 1 v1.length))) (.s (.one (.ls 1 (v1.set a1.toNat a2).length))) R (congrArg (fun n=>AV.s (.one (.ls 1 n))) List.length_set.symm) ?_
  refine Mf 11 (y:=.s (.one (.ls 1 v1.length))) (.s (.one (.ls 1 (v1.set a1.toNat a2).length))) R (congrArg (fun n=>AV.s (.one (.ls 1 n))) List.length_set.symm) ?_
  refine Mf 18 (y:=.s (.one (.ls 1 v1.length))) (.s (.one (.ls 1 (v1.set a1.toNat a2).length))) R (congrArg (fun n=>AV.s (.one (.ls 1 n))) List.length_set.symm) ?_
  refine Ak (csr (rm 2 R (Ak (Bs ?_))))
  obtain rfl:=SJ h
  refine ⟨Or.inr R,_,_,_,(Ad (rt R) Aj),(by (repeat' first | exact H6.nil _ | apply H6.cons | apply Hy.one | apply Hy.agg | exact C7.nil | exact C7.ls _ _ _ _ _ _ R (Aw (f:=Am) (fun _=>R) _).symm | exact C7.id _ R | exact Cs.nil _ | apply Cs.cons)),?_⟩
  rfl
def C8 (a0:Bi) (a1:A5):Option (Bi × Int) :=
 (Et a0 a1.Tok).bind fun v1=>if (decide (32≤v1)) then (some (Cp,8)) else ((Mk a0.L v1 a1).bind fun v2=>some ((Bi.mk v2),0))
theorem Hl {a0:Bi} {a1:A5} {r:Bi × Int} (h:C8 a0 a1=some r):Br Tryz.prog 131 [.agg [.sl a0.L.length (a0.L.flatMap Am)],.agg (EL.el a1)] (·=.tup [.agg [.sl r.1.L.length (r.1.L.flatMap Am)],.one (Ii6 r.2)]):=by
 unfold C8 at h
 refine A2 Tryz.func131 R (nt:=20) R (Nbl R) ?_
 intro w0 S0
 refine csr (F2 R R (F2 R R (Bo R V2 (rm 1 R (Ak (csr (ld Oj R R R R (sv R (Ac Zz R) (sv R (l1 ti3 R R R) ?_)))))))))
 obtain ⟨v1,hv1,h⟩:=Ae h
 refine A8 R Aqc (Aa R (Aa R Af)) (An R) (La hv1) (rm 1 R (Ak (Bn (csr (rm 1 R (sv R (Hn R R) (Ak (ccI h R (fun h=>?_) (fun h=>?_)))))))))
 ·refine csr (sv R (A3 V2 Abr Ay (.nil _)) (sst S9 R R R R R (rm 1 R (Ak (Bs (Ag ?_))))))
  obtain rfl:=SJ h
  exact dn (Ad (ra Oj R R R) (Ad (rt R) Aj)) (I8 R) R
 ·refine Bf (Ab (csr (fl U4 Akv R R R R R R (rm 1 R (sv R (lo Abx R R R) ?_)))))
  obtain ⟨v2,hv2,h⟩:=Ae h
  refine A8 R Ayu (Aa R (Aa R (Aa R Af))) (An R) (W4 hv2) (sv R (A3 V2 Abr (Av R Ay) (.cons _ _ _ _ _ _ _ R R (Nbl R) (.nil _))) (sst S9 R R R R R (rm 1 R (Ak (Bs ?_)))))
  obtain rfl:=SJ h
  exact dn (Ad (ra Oj R R R) (Ad (rt R) Aj)) (An R) R
def K5 (a0:Bi) (a1:Int) (a2:Int) (b1:Unit):Option (Bi × Int × Int) :=
 (Ex a0 a1).bind fun v2=>if (decide (v2.1.State=2)) then (some (a0,v2.1.Ts,0)) else ((C8 a0 (A5.mk a1 (if a2 > v2.1.Attempt then a2 else v2.1.Attempt) 3 0)).bind fun v3=>some (v3.1,0,v3.2))
def Ct (a0:Bi) (a1:Int) (a2:Int):Option (Bi × Int × Int) :=
 (Da a0).bind fun v4=>if (!v4) then (some (Cp,0,1)) else ((Cq a1 a2).bind fun v5=>if (!v5) then (some (Cp,0,1)) else (K5 a0 a1 a2 ()))
theorem Q6 {a0:Bi} {a1:Int} {a2:Int} {r:Bi × Int × Int} (h:Ct a0 a1 a2=some r):Br Tryz.prog 73 [.agg [.sl a0.L.length (a0.L.flatMap Am)],.one (Ii6 a1),.one (Ii6 a2)] (·=.tup [.agg [.sl r.1.L.length (r.1.L.flatMap Am)],.one (Ii6 r.2.1),.one (Ii6 r.2.2)]):=by
 unfold Ct at h
 refine A2 Tryz.func73 R (nt:=48) R (Nbl R) ?_
 intro w0 S0
 refine csr (F2 R R (Bo R V2 (rm 2 R (Ak (Bn (Bn (cj3 (Unit) (fun b1=>[(1,.s (.one (Ii6 a1))),(2,.s (.one (Ii6 a2))),(3,.s (.one (.lp 0 0))),(6,.s (.one (.lp 1 0)))]) (fun b1=>[.box [.sl a0.L.length (a0.L.flatMap Am)],.box [Znl]]) (fun b1=>K5 a0 a1 a2 b1=some r) (fun _=>R) (fun b1 h=>?_) ?_)))))))
 ·unfold K5 at h
  refine csr (ld Oj R R R R (sv R (A4 R) ?_))
  obtain ⟨v2,hv2,h⟩:=Ae h
  refine A8 R Awg (Aa R (Aa R Af)) (An R) (Kp hv2) (sv R (Cc R) (sv R (Ai R R) (sv R (Ai R R) (Bo R Vz (sst Aao R R R R R (rm 1 R (Ak (Bn (csr (fl Vv ti3 R R R R R R (sv R (B0 R R) (Ak (ccI h R (fun h=>?_) (fun h=>?_))))))))))))))
  ·refine Bn ?_
   refine Ku [3] [0,0,2,1,15,31] [[.box [.sl a0.L.length (a0.L.flatMap Am)],.box [Znl],.box (EL.el v2.1)],[.box [.sl a0.L.length (a0.L.flatMap Am)],.box [.sl a0.L.length (a0.L.flatMap Am)],.box (EL.el v2.1)]] (by kernel_rfl) mixed (by kernel_rfl) (by decide) R R R R ?_
   refine evs (md:=[.box [.sl a0.L.length (a0.L.flatMap Am)],.dead,.box (EL.el v2.1)]) (fun hS=>ev (A9 0 R R) R R (lo Oj R R R) (ev (B9 hS) R R (Ac Agu R) (ev (B9 hS) R R (l1 ti3 R R R) (ee0 0 R R R R (fun ζ=>?_) ?_)))) ⟨⟨R,⟨trivial,⟨R,trivial⟩⟩⟩,⟨⟨R,⟨trivial,⟨R,trivial⟩⟩⟩,trivial⟩⟩
   ·refine sst S9 R R R R R (Pq [.box [.sl a0.L.length (a0.L.flatMap Am)],.box [.sl a0.L.length (a0.L.flatMap Am)],.box (EL.el v2.1)] R ?_)
    exact Rk
   refine ev (A9 1 R R) R R (Lh R) (ev (A9 1 R R) R R (Lh R) (Abf (Ab (Bs (Ag ?_)))))
   obtain rfl:=SJ h
   exact dn (Ad (ra Oj R R R) (Ad (rt R) (Ad (rt R) Aj))) (An R) R
  ·refine Bf (Ab (csr (ld Oj R R R R (rm 1 R (fl Va ti3 R R R R R R (rm 1 R (sv R (Aly R R) (sv R (A3 Vz Agv (Av R (Av R (Av R Ay))) (.cons _ _ _ _ _ _ _ R R (Nbl R) (.cons _ _ _ _ _ _ _ R R (Nbl R) (.cons _ _ _ _ _ _ _ R R (Nbl R) (.nil _))))) ?_))))))))
   obtain ⟨v3,hv3,h⟩:=Ae h
   refine A8 R Aj1 (Aa R (Aa R Af)) (An R) (Hl hv3) (sv R (Cc R) (sv R (Ai R R) (sv R (Ai R R) (Bo R V2 (sst S9 R R R R R (rm 1 R (Ak (csr (ld Oj R R R R (rm 1 R (sst S9 R R R R R (rm 2 R (Ak (Bs ?_))))))))))))))
   obtain rfl:=SJ h
   exact dn (Ad (ra Oj R R R) (Ad (rt R) (Ad (rt R) Aj))) (An R) R
 ·skip
  refine Ap (sv R (lo Oj R R R) ?_)
  obtain ⟨v4,hv4,h⟩:=Ae h
  refine A8 R Avj (Aa R Af) (An R) (Kb hv4) (sv R (B1 R) (rm 1 R (ssI 16 h R (fun h=>?_) (fun h=>?_))))
  ·refine rm 5 R (Ak (Ck R (fun _=>?_) (fun hx=>Bool.noConfusion hx)))
   refine csr (sv R (A3 V2 Abr Ay (.nil _)) (sst S9 R R R R R (rm 2 R (Ak (Bs (Ag ?_))))))
   obtain rfl:=SJ h
   exact dn (Ad (ra Oj R R R) (Ad (rt R) (Ad (rt R) Aj))) (I8 R) R
  ·refine rm 2 R (son R R R ?_)
   obtain ⟨v5,hv5,h⟩:=Ae h
   refine A8 R Ajg (Aa R (Aa R Af)) (An R) (Ed hv5) (son R R R (sv R (B1 R) (rm 1 R (Ak (ccI h R (fun h=>?_) (fun h=>?_))))))
   ·refine csr (sv R (A3 V2 Abr Ay (.nil _)) (sst S9 R R R R R (rm 2 R (Ak (Bs (Ag ?_))))))
    obtain rfl:=SJ h
    exact dn (Ad (ra Oj R R R) (Ad (rt R) (Ad (rt R) Aj))) (I8 R) R
   ·refine Bf (Ab ?_)
    exact ⟨(),_,h,⟨R,R,R,R,trivial⟩,R⟩
def Cx (a0:Ah) (a1:Bc):Option Ah :=
 (Ko a0 a1.ID).bind fun v1=>(Ef v1.Cert a1.ID).bind fun v2=>(Ct v1.Toks a1.Token a1.Attempt).bind fun v3=>if (decide (v3.2.2=0)) then (some ({v1 with Cert:=v2,Toks:=v3.1})) else (some ({v1 with Cert:=v2}))
theorem Ib {a0:Ah} {a1:Bc} {r:Ah} (h:Cx a0 a1=some r):Br Tryz.prog 57 [.agg (EL.el a0),.agg (EL.el a1)] (·=.s (.agg (EL.el r))):=by
 unfold Cx at h
 refine A2 Tryz.func57 R (nt:=34) R (Nbl R) ?_
 intro w0 S0
 refine csr (F2 R R (F2 R R (Bo R Qs (Ak (csr (ld De R R R R (sv R (Ac Ry R) (sv R (l1 ti3 R R R) ?_))))))))
 obtain ⟨v1,hv1,h⟩:=Ae h
 refine A8 R Auv (Aa R (Aa R Af)) (An R) (R6 hv1) (sst Iq R R R R R (Ak (csr (sv R (Ac Sy R) (ld Qq R R R R (sv R (Ac Ry R) (sv R (l1 ti3 R R R) ?_)))))))
 obtain ⟨v2,hv2,h⟩:=Ae h
 refine A8 R Ay1 (Aa R (Aa R Af)) (An R) (Yv hv2) (sv R (Ac Sy R) (sst Xw R R R R R (Ak (Bn (csr (sv R (Ac Ty R) (ld Oj R R R R (fl Afd ti3 R R R R R R (sv R (Ac Aip R) (sv R (l1 ti3 R R R) ?_))))))))))
 obtain ⟨v3,hv3,h⟩:=Ae h
 refine A8 R Az0 (Aa R (Aa R (Aa R Af))) (An R) (Q6 hv3) (sv R (Cc R) (sv R (Ai R R) (sv R (Ai R R) (sv R (Ai R R) (Bo R V2 (sst S9 R R R R R (rm 2 R (Ak (csr (rm 1 R (sv R (B0 R R) (Ak (ccI h R (fun h=>?_) (fun h=>?_))))))))))))))
 ·refine Ap (ld Oj R R R R (sv R (Ac Ty R) (sst S9 R R R R R (Ak (csr (ld De R R R R (sst Iq R R R R R (Ak (Bs ?_)))))))))
  obtain rfl:=SJ h
  exact dnA R De R (.lp _ _ _ R) (Nbl R) R R
 ·refine Bf (Ab (csr (ld De R R R R (sst Iq R R R R R (Ak (Bs ?_))))))
  obtain rfl:=SJ h
  exact dnA R De R (.lp _ _ _ R) (Nbl R) R R
def K7 (a0:Bi) (a1:Int) (a2:Int) (b1:Unit):Option (Bi × Int) :=
 (Ex a0 a1).bind fun v2=>if v2.2 then (if (decide (v2.1.State=2)) then (some (Cp,7)) else (if v2.2 then (if (decide (a2≤v2.1.Attempt)) then (some (Cp,14)) else ((C8 a0 (A5.mk a1 a2 1 0)).bind fun v3=>some (v3.1,v3.2))) else ((C8 a0 (A5.mk a1 a2 1 0)).bind fun v4=>some (v4.1,v4.2)))) else (if v2.2 then (if (decide (a2≤v2.1.Attempt)) then (some (Cp,14)) else ((C8 a0 (A5.mk a1 a2 1 0)).bind fun v5=>some (v5.1,v5.2))) else ((C8 a0 (A5.mk a1 a2 1 0)).bind fun v6=>some (v6.1,v6.2)))
def Ih (a0:Bi) (a1:Int) (a2:Int):Option (Bi × Int) :=
 (Da a0).bind fun v7=>if (!v7) then (some (Cp,1)) else ((Cq a1 a2).bind fun v8=>if (!v8) then (some (Cp,1)) else (K7 a0 a1 a2 ()))
theorem V9 {a0:Bi} {a1:Int} {a2:Int} {r:Bi × Int} (h:Ih a0 a1 a2=some r):Br Tryz.prog 58 [.agg [.sl a0.L.length (a0.L.flatMap Am)],.one (Ii6 a1),.one (Ii6 a2)] (·=.tup [.agg [.sl r.1.L.length (r.1.L.flatMap Am)],.one (Ii6 r.2)]):=by
 unfold Ih at h
 refine A2 Tryz.func58 R (nt:=50) R (Nbl R) ?_
 intro w0 S0
 refine csr (F2 R R (Bo R V2 (rm 1 R (Ak (Bn (Bn (cj3 (Unit) (fun b1=>[(1,.s (.one (Ii6 a1))),(2,.s (.one (Ii6 a2))),(3,.s (.one (.lp 0 0))),(6,.s (.one (.lp 1 0)))]) (fun b1=>[.box [.sl a0.L.length (a0.L.flatMap Am)],.box [Znl]]) (fun b1=>K7 a0 a1 a2 b1=some r) (fun _=>R) (fun b1 h=>?_) ?_)))))))
 ·unfold K7 at h
  refine csr (ld Oj R R R R (sv R (A4 R) ?_))
  obtain ⟨v2,hv2,h⟩:=Ae h
  refine A8 R Awg (Aa R (Aa R Af)) (An R) (Kp hv2) (sv R (Cc R) (sv R (Ai R R) (sv R (Ai R R) (Bo R Vz (sst Aao R R R R R (rm 1 R (Ak (Bn (Bq (csr (rm 2 R (ssI 28 h R (fun h=>?_) (fun h=>?_)))))))))))))
  ·refine son R R R (sv R (Ac Vv R) (son R R R (sv R (l1 ti3 R R R) (son R R R (sv R (B0 R R) (rm 2 R (Ak (ccI h R (fun h=>?_) (fun h=>?_)))))))))
   ·refine csr (sv R (A3 V2 Abr Ay (.nil _)) (sst S9 R R R R R (rm 1 R (Ak (Bs (A0 (Ag ?_)))))))
    obtain rfl:=SJ h
    exact dn (Ad (ra Oj R R R) (Ad (rt R) Aj)) (I8 R) R
   ·refine csr (rm 2 R (ssI 36 h R (fun h=>?_) (fun h=>?_)))
    ·refine rm 1 R (son R R R (sv R (Ac Va R) (son R R R (sv R (l1 ti3 R R R) (son R R R (sv R (Dl R R) (rm 2 R (Ak (ccI h R (fun h=>?_) (fun h=>?_))))))))))
     ·refine csr (sv R (A3 V2 Abr Ay (.nil _)) (sst S9 R R R R R (rm 1 R (Ak (Bs (A0 (Ag ?_)))))))
      obtain rfl:=SJ h
      exact dn (Ad (ra Oj R R R) (Ad (rt R) Aj)) (I8 R) R
     ·refine Bf (Ao (Ab (csr (ld Oj R R R R (rm 2 R (sv R (A3 Vz Agv (Av R (Av R (Av R Ay))) (.cons _ _ _ _ _ _ _ R R (Nbl R) (.cons _ _ _ _ _ _ _ R R (Nbl R) (.cons _ _ _ _ _ _ _ R R (Nbl R) (.nil _))))) ?_))))))
      obtain ⟨v3,hv3,h⟩:=Ae h
      refine A8 R Aj1 (Aa R (Aa R Af)) (An R) (Hl hv3) (sv R (Ai R R) (sv R (Ai R R) (sst S9 R R R R R (rm 1 R (Ak (Bs ?_))))))
      obtain rfl:=SJ h
      exact dn (Ad (ra Oj R R R) (Ad (rt R) Aj)) (An R) R
    ·refine rm 6 R (Ak (Ck R (fun hx=>Bool.noConfusion hx) (fun _=>?_)))
     refine Bf (Ao (Ab (csr (ld Oj R R R R (rm 2 R (sv R (A3 Vz Agv (Av R (Av R (Av R Ay))) (.cons _ _ _ _ _ _ _ R R (Nbl R) (.cons _ _ _ _ _ _ _ R R (Nbl R) (.cons _ _ _ _ _ _ _ R R (Nbl R) (.nil _))))) ?_))))))
     obtain ⟨v4,hv4,h⟩:=Ae h
     refine A8 R Aj1 (Aa R (Aa R Af)) (An R) (Hl hv4) (sv R (Ai R R) (sv R (Ai R R) (sst S9 R R R R R (rm 1 R (Ak (Bs ?_))))))
     obtain rfl:=SJ h
     exact dn (Ad (ra Oj R R R) (Ad (rt R) Aj)) (An R) R
  ·refine rm 5 R (Ak (Ck R (fun hx=>Bool.noConfusion hx) (fun _=>?_)))
   refine csr (rm 2 R (ssI 36 h R (fun h=>?_) (fun h=>?_)))
   ·refine rm 1 R (son R R R (sv R (Ac Va R) (son R R R (sv R (l1 ti3 R R R) (son R R R (sv R (Dl R R) (rm 2 R (Ak (ccI h R (fun h=>?_) (fun h=>?_))))))))))
    ·refine csr (sv R (A3 V2 Abr Ay (.nil _)) (sst S9 R R R R R (rm 1 R (Ak (Bs (A0 (Ag ?_)))))))
     obtain rfl:=SJ h
     exact dn (Ad (ra Oj R R R) (Ad (rt R) Aj)) (I8 R) R
    ·refine Bf (Ao (Ab (csr (ld Oj R R R R (rm 2 R (sv R (A3 Vz Agv (Av R (Av R (Av R Ay))) (.cons _ _ _ _ _ _ _ R R (Nbl R) (.cons _ _ _ _ _ _ _ R R (Nbl R) (.cons _ _ _ _ _ _ _ R R (Nbl R) (.nil _))))) ?_))))))
     obtain ⟨v5,hv5,h⟩:=Ae h
     refine A8 R Aj1 (Aa R (Aa R Af)) (An R) (Hl hv5) (sv R (Ai R R) (sv R (Ai R R) (sst S9 R R R R R (rm 1 R (Ak (Bs ?_))))))
     obtain rfl:=SJ h
     exact dn (Ad (ra Oj R R R) (Ad (rt R) Aj)) (An R) R
   ·refine rm 6 R (Ak (Ck R (fun hx=>Bool.noConfusion hx) (fun _=>?_)))
    refine Bf (Ao (Ab (csr (ld Oj R R R R (rm 2 R (sv R (A3 Vz Agv (Av R (Av R (Av R Ay))) (.cons _ _ _ _ _ _ _ R R (Nbl R) (.cons _ _ _ _ _ _ _ R R (Nbl R) (.cons _ _ _ _ _ _ _ R R (Nbl R) (.nil _))))) ?_))))))
    obtain ⟨v6,hv6,h⟩:=Ae h
    refine A8 R Aj1 (Aa R (Aa R Af)) (An R) (Hl hv6) (sv R (Ai R R) (sv R (Ai R R) (sst S9 R R R R R (rm 1 R (Ak (Bs ?_))))))
    obtain rfl:=SJ h
    exact dn (Ad (ra Oj R R R) (Ad (rt R) Aj)) (An R) R
 ·skip
  refine Ap (sv R (lo Oj R R R) ?_)
  obtain ⟨v7,hv7,h⟩:=Ae h
  refine A8 R Avj (Aa R Af) (An R) (Kb hv7) (sv R (B1 R) (rm 1 R (ssI 13 h R (fun h=>?_) (fun h=>?_))))
  ·refine rm 5 R (Ak (Ck R (fun _=>?_) (fun hx=>Bool.noConfusion hx)))
   refine csr (sv R (A3 V2 Abr Ay (.nil _)) (sst S9 R R R R R (rm 1 R (Ak (Bs (Ag ?_))))))
   obtain rfl:=SJ h
   exact dn (Ad (ra Oj R R R) (Ad (rt R) Aj)) (I8 R) R
  ·refine rm 2 R (son R R R ?_)
   obtain ⟨v8,hv8,h⟩:=Ae h
   refine A8 R Ajg (Aa R (Aa R Af)) (An R) (Ed hv8) (son R R R (sv R (B1 R) (rm 1 R (Ak (ccI h R (fun h=>?_) (fun h=>?_))))))
   ·refine csr (sv R (A3 V2 Abr Ay (.nil _)) (sst S9 R R R R R (rm 1 R (Ak (Bs (Ag ?_))))))
    obtain rfl:=SJ h
    exact dn (Ad (ra Oj R R R) (Ad (rt R) Aj)) (I8 R) R
   ·refine Bf (Ab ?_)
    exact ⟨(),_,h,⟨R,R,R,R,trivial⟩,R⟩
def Jy (a0:Int) (b1:Unit):Option (List A1) :=
 if (decide (0<(wI (a0-(wI (0-0)))))) then (if 0<(wI (a0-(wI (0-0))))∧(wI (a0-(wI (0-0))))*((64:Nat):Int)≤281474976710656 then (if (0:Int)≤0∧0≤((List.replicate (wI (a0-(wI (0-0)))).toNat Xv).length:Int) then (some ((List.replicate (wI (a0-(wI (0-0)))).toNat Xv).take (0:Int).toNat)) else none) else none) else (some ([]:List A1))
def Kn (a0:Int):Option (List A1) :=
 if (decide (a0<0)) then none else (Jy a0 ())
theorem Vu {a0:Int} {r:(List A1)} (h:Kn a0=some r):Dn Tryz.prog 198 [] [.one (Znl),.one (Ii6 a0)] (fun y m'=>y=.s (.one (.ls 0 r.length))∧m'=[.arr 139 8 0 (r.flatMap Bb)]):=by
 unfold Kn at h
 refine Dk Tryz.func198 R (nt:=27) R (Nbl R) ?_
 intro w0 S0 X0 H0
 refine csr (rm 1 R (Ak (Bn (csr (rm 1 R (sv R (Bt R R) (Ak (cj (Unit) (fun b1=>[(0,.s (.one (Znl))),(1,.s (.one (Ii6 a0)))]) (fun b1=>[]) (fun b1=>Jy a0 b1=some r) (fun _=>R) (fun b1 h=>?_) ?_))))))))
 ·unfold Jy at h
  refine Bn (csr (rm 2 R (sv R (Gs Qd R) (rm 1 R (sv R (Fu Qd R) (sv R (Nt R R) (sv R (Nt R R) (rm 1 R (Ak (csr (rm 1 R (sv R (C9 R R) (Ak (ccI h R (fun h=>?_) (fun h=>?_)))))))))))))))
  ·refine Ap (rm 2 R (sv R (Gs Qd R) (sv R (M0 Qd R R) (sv R (A4 R) ?_))))
   obtain ⟨hm2,h⟩:=Cr h
   refine Ai1 (f:=Bb) (z:=Xv) R Tryz.underlying29 Ahh Tryz.underlying3 (fun _=>R) R R R hm2 (by decide) ?_
   refine rm 1 R (sv R (Fu Qd R) ?_)
   obtain ⟨hs3,h⟩:=Cr h
   refine Aa4 (f:=Bb) R Qd (fun _=>R) R R R R R hs3 ?_
   refine rm 1 R (Ak (csr (rm 2 R (Ak (Bs ?_)))))
   obtain rfl:=SJ h
   exact ⟨Or.inr R,_,[1],[.one (.ls 0 ((List.replicate (wI (a0-(wI (0-0)))).toNat Xv).take (0:Int).toNat).length)],[.arr 139 8 0 (((List.replicate (wI (a0-(wI (0-0)))).toNat Xv).take (0:Int).toNat).flatMap Bb)],(Ad (rt R) Aj),R,R,⟨by decide,R⟩,R,R,⟨R,R⟩⟩
  ·refine Bf (Ab (csr (rm 2 R (Ak ?_))))
   refine Dh 139 8 4 (by decide) R ?_
   refine Bs ?_
   obtain rfl:=SJ h
   exact ⟨Or.inr R,_,[0],[.one (.ls 0 ([]:List A1).length)],[.arr 139 8 0 (([]:List A1).flatMap Bb)],(Ad (rt R) Aj),R,R,⟨by decide,R⟩,R,R,⟨R,R⟩⟩
 ·skip
  refine ccI h R (fun h=>?_) (fun h=>?_)
  ·cases h
  ·refine Bf (Ab ?_)
   exact ⟨(),_,h,⟨R,R,trivial⟩,R⟩
def Mb (b3:(List A1)):Option (List A1) :=
 some b3
def Ek (a0:List (List A1)) (s4:Int × (List A1)):Option (LB (Int × (List A1)) ((List A1))) :=
 if (decide (s4.1<(a0.length:Int))) then ((idx a0 s4.1).bind fun u5=>if (s4.2.length+u5.length)*64≤140737488355328 then (some (.cont ((wI (s4.1+1)),(s4.2++u5)))) else none) else (some (.brk s4.2))
def I7 (a0:List (List A1)) (b1:Int):Option (List A1) :=
 (Kn b1).bind fun v2=>(Cw (Ek a0) fuel (0,v2)).bind fun e7=>Mb e7
def Er (a0:List (List A1)) (s8:Int × Int):Option (LB (Int × Int) (Int)) :=
 if (decide (s8.2<(a0.length:Int))) then ((idx a0 s8.2).bind fun u9=>if (decide ((wI (s8.1+(u9.length:Int)))<0)) then none else (some (.cont ((wI (s8.1+(u9.length:Int))),(wI (s8.2+1)))))) else (some (.brk s8.1))
end Go.Proofs.YtkblaobhhoebaaaGreat.Abs
