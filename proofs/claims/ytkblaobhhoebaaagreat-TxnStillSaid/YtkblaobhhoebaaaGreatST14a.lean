/-
 t
-/
import Derived.Test.YtkblaobhhoebaaaGreatSAbsC
import Derived.Test.YtkblaobhhoebaaaGreatProg
set_option linter.unusedVariables false
set_option linter.unusedSimpArgs false
namespace Go.Proofs.YtkblaobhhoebaaaGreat.Abs
open Go.RowKit Go.Proofs
noncomputable abbrev Qx0:=Tryz.prog
set_option maxRecDepth 100000
structure A7 where
 Key:List UInt8
 Val:List UInt8
 Del:Bool
def A5 (x:A7):List Lf:=[SL x.Key eU8,SL x.Val eU8,.b x.Del]
structure B7 where
 L:List A7
def Aji (x:B7):List Lf:=[SL x.L A5]
structure B8 where
 Key:List UInt8
 Val:List UInt8
def Ca (x:B8):List Lf:=[SL x.Key eU8,SL x.Val eU8]
structure Bh where
 Lo:List UInt8
 Hi:List UInt8
 Open:Bool
def Ad4 (x:Bh):List Lf:=[SL x.Lo eU8,SL x.Hi eU8,.b x.Open]
structure Eo where
 What:Int
 N:Int
 Token:Int
 Attempt:Int
 RO:Bool
 Del:Bool
 Key:List UInt8
 Val:List UInt8
 Rng:Bh
def Dp (x:Eo):List Lf:=[.i .i64 x.What,.i .i64 x.N,.i .i64 x.Token,.i .i64 x.Attempt,.b x.RO,.b x.Del,SL x.Key eU8,SL x.Val eU8,SL x.Rng.Lo eU8,SL x.Rng.Hi eU8,.b x.Rng.Open]
structure A8 where
 Ts:Int
 Val:List UInt8
 Del:Bool
def A9 (x:A8):List Lf:=[.i .i64 x.Ts,SL x.Val eU8,.b x.Del]
structure Am where
 L:List A8
def Ay (x:Am):List Lf:=[SL x.L A9]
structure B2 where
 Keys:List (List UInt8)
 Chains:List Am
 Ts:Int
def Ahr (x:B2):List Lf:=[SL x.Keys (eL eU8),SL x.Chains Ay,.i .i64 x.Ts]
structure A3 where
 ID:Int
 Begin:Int
 End:Int
 State:Int
 In:Bool
 Out:Bool
 RO:Bool
 Keys:List (List UInt8)
def Bc (x:A3):List Lf:=[.i .i64 x.ID,.i .i64 x.Begin,.i .i64 x.End,.i .i64 x.State,.b x.In,.b x.Out,.b x.RO,SL x.Keys (eL eU8)]
structure A4 where
 Tx:Int
 Rng:Bh
def Ax (x:A4):List Lf:=[.i .i64 x.Tx,SL x.Rng.Lo eU8,SL x.Rng.Hi eU8,.b x.Rng.Open]
structure B3 where
 L:List A4
def Ah4 (x:B3):List Lf:=[SL x.L Ax]
structure Be where
 Txs:List A3
 Reads:B3
def Apx (x:Be):List Lf:=[SL x.Txs Bc,SL x.Reads.L Ax]
structure Ba where
 Tok:Int
 Attempt:Int
 State:Int
 Ts:Int
def Al (x:Ba):List Lf:=[.i .i64 x.Tok,.i .i64 x.Attempt,.i .i64 x.State,.i .i64 x.Ts]
structure Bn where
 L:List Ba
def Aey (x:Bn):List Lf:=[SL x.L Al]
structure Bg where
 ID:Int
 Token:Int
 Attempt:Int
 Snap:Int
 RO:Bool
 Buf:B7
def Bu (x:Bg):List Lf:=[.i .i64 x.ID,.i .i64 x.Token,.i .i64 x.Attempt,.i .i64 x.Snap,.b x.RO,SL x.Buf.L A5]
structure Ai where
 Store:B2
 Cert:Be
 Toks:Bn
 Open:List Bg
 Next:Int
def Aj5 (x:Ai):List Lf:=[SL x.Store.Keys (eL eU8),SL x.Store.Chains Ay,.i .i64 x.Store.Ts,SL x.Cert.Txs Bc,SL x.Cert.Reads.L Ax,SL x.Toks.L Al,SL x.Open Bu,.i .i64 x.Next]
structure Cn where
 tx_:Int
 lo_:List UInt8
 hi_:List UInt8
 open_:Bool
def Eb (x:Cn):List Lf:=[.i .i64 x.tx_,.s ⟨x.lo_.toArray⟩,.s ⟨x.hi_.toArray⟩,.b x.open_]
structure B5 where
 id_:Int
 snap_:Int
 end_:Int
 acts_:Nat
def Bm (x:B5):List Lf:=[.i .i64 x.id_,.i .i64 x.snap_,.i .i64 x.end_,.jk 152 16 x.acts_]
structure Hn where
 n_:Int
 found_:Bool
 v_:List UInt8
 l_:List B8
 e_:Int
def App (x:Hn):List Lf:=[.i .i64 x.n_,.b x.found_,SL x.v_ eU8,SL x.l_ Ca,.i .i64 x.e_]
structure Gk where
 o_:Eo
 x_:Hn
def Ae9 (x:Gk):List Lf:=[.i .i64 x.o_.What,.i .i64 x.o_.N,.i .i64 x.o_.Token,.i .i64 x.o_.Attempt,.b x.o_.RO,.b x.o_.Del,SL x.o_.Key eU8,SL x.o_.Val eU8,SL x.o_.Rng.Lo eU8,SL x.o_.Rng.Hi eU8,.b x.o_.Rng.Open,.i .i64 x.x_.n_,.b x.x_.found_,SL x.x_.v_ eU8,SL x.x_.l_ Ca,.i .i64 x.x_.e_]
structure Fu where
 Ts:Int
 Val:List UInt8
 Del:Bool
def Iu (x:Fu):List Lf:=[.i .i64 x.Ts,SL x.Val eU8,.b x.Del]
structure Df where
 L:List Fu
def Ci (x:Df):List Lf:=[SL x.L Iu]
structure Gi where
 Keys:List (List UInt8)
 Chains:List Df
 Ts:Int
def Amk (x:Gi):List Lf:=[SL x.Keys (eL eU8),SL x.Chains Ci,.i .i64 x.Ts]
structure Ha where
 ID:Int
 Begin:Int
 End:Int
 State:Int
 In:Bool
 Out:Bool
 RO:Bool
 Keys:List (List UInt8)
def G6 (x:Ha):List Lf:=[.i .i64 x.ID,.i .i64 x.Begin,.i .i64 x.End,.i .i64 x.State,.b x.In,.b x.Out,.b x.RO,SL x.Keys (eL eU8)]
structure Cb where
 Tx:Int
 Rng:Bh
def C4 (x:Cb):List Lf:=[.i .i64 x.Tx,SL x.Rng.Lo eU8,SL x.Rng.Hi eU8,.b x.Rng.Open]
structure Nc where
 L:List Cb
def Am1 (x:Nc):List Lf:=[SL x.L C4]
structure Oc where
 Txs:List Ha
 Reads:Nc
def Aqf (x:Oc):List Lf:=[SL x.Txs G6,SL x.Reads.L C4]
structure Fw where
 Tok:Int
 Attempt:Int
 State:Int
 Ts:Int
def Dc (x:Fw):List Lf:=[.i .i64 x.Tok,.i .i64 x.Attempt,.i .i64 x.State,.i .i64 x.Ts]
structure Nx where
 L:List Fw
def Alp (x:Nx):List Lf:=[SL x.L Dc]
structure Vd where
 L:List A7
def Ars (x:Vd):List Lf:=[SL x.L A5]
structure J3 where
 ID:Int
 Token:Int
 Attempt:Int
 Snap:Int
 RO:Bool
 Buf:Vd
def Me (x:J3):List Lf:=[.i .i64 x.ID,.i .i64 x.Token,.i .i64 x.Attempt,.i .i64 x.Snap,.b x.RO,SL x.Buf.L A5]
structure Du where
 Store:Gi
 Cert:Oc
 Toks:Nx
 Open:List J3
 Next:Int
def Air (x:Du):List Lf:=[SL x.Store.Keys (eL eU8),SL x.Store.Chains Ci,.i .i64 x.Store.Ts,SL x.Cert.Txs G6,SL x.Cert.Reads.L C4,SL x.Toks.L Dc,SL x.Open Me,.i .i64 x.Next]
class EL (α:Type) where
 el:α->List Lf
instance:EL A7:=⟨A5⟩
instance:EL B7:=⟨Aji⟩
instance:EL B8:=⟨Ca⟩
instance:EL Bh:=⟨Ad4⟩
instance:EL Eo:=⟨Dp⟩
instance:EL A8:=⟨A9⟩
instance:EL Am:=⟨Ay⟩
instance:EL B2:=⟨Ahr⟩
instance:EL A3:=⟨Bc⟩
instance:EL A4:=⟨Ax⟩
instance:EL B3:=⟨Ah4⟩
instance:EL Be:=⟨Apx⟩
instance:EL Ba:=⟨Al⟩
instance:EL Bn:=⟨Aey⟩
instance:EL Bg:=⟨Bu⟩
instance:EL Ai:=⟨Aj5⟩
instance:EL Cn:=⟨Eb⟩
instance:EL B5:=⟨Bm⟩
instance:EL Hn:=⟨App⟩
instance:EL Gk:=⟨Ae9⟩
instance:EL Fu:=⟨Iu⟩
instance:EL Df:=⟨Ci⟩
instance:EL Gi:=⟨Amk⟩
instance:EL Ha:=⟨G6⟩
instance:EL Cb:=⟨C4⟩
instance:EL Nc:=⟨Am1⟩
instance:EL Oc:=⟨Aqf⟩
instance:EL Fw:=⟨Dc⟩
instance:EL Nx:=⟨Alp⟩
instance:EL Vd:=⟨Ars⟩
instance:EL J3:=⟨Me⟩
instance:EL Du:=⟨Air⟩
abbrev Axb:Bh:=(Bh.mk ([]:List UInt8) ([]:List UInt8) false)
abbrev Q9:B2:=(B2.mk ([]:List (List UInt8)) ([]:List Am) 0)
abbrev Aab:A3:=(A3.mk 0 0 0 0 false false false ([]:List (List UInt8)))
abbrev Tb:A4:=(A4.mk 0 (Bh.mk ([]:List UInt8) ([]:List UInt8) false))
abbrev Jg:Be:=(Be.mk ([]:List A3) (B3.mk ([]:List A4)))
abbrev Cx:Bn:=(Bn.mk ([]:List Ba))
abbrev Rp:Bg:=(Bg.mk 0 0 0 0 false (B7.mk ([]:List A7)))
abbrev Fe:Ai:=(Ai.mk (B2.mk ([]:List (List UInt8)) ([]:List Am) 0) (Be.mk ([]:List A3) (B3.mk ([]:List A4))) (Bn.mk ([]:List Ba)) ([]:List Bg) 0)
abbrev Znl:Lf:=.raw (.slice none 0 0)
abbrev Ii6 (n:Int):Lf:=.i .i64 n
theorem SJ {α:Type} {a b:α} (h:some a=some b):a=b:=zD h
abbrev Nfu:Lf:=.raw .nilFunc
abbrev Zba:List Lf:=[Znl,Znl,Ii6 0,Znl,Znl,Znl,Znl,Ii6 0]
abbrev Zbb:List Lf:=[Ii6 0,Ii6 0,Ii6 0,Ii6 0,.b false,.b false,.b false,Znl]
theorem Nbl {n m:Nat} (h:Nat.ble n m=true):n<=m:=wZ h
theorem Xn:FI Qx0 86 0 0:=⟨⟨_,_,1,Tryz.underlying86,rfl,rfl,by kernel_rfl,by decide⟩⟩
theorem Am4:TI Qx0 84 false 1:=⟨⟨_,Tryz.underlying84,rfl⟩,by kernel_rfl⟩
theorem Zh:SI Qx0 84 99 3:=⟨Tryz.underlying84,by kernel_rfl,by decide⟩
theorem Aij:TI Qx0 99 true 3:=⟨⟨_,Tryz.underlying99,rfl⟩,by kernel_rfl⟩
theorem Aml:ZI Qx0 99 ([Znl,Znl,.b false]):=Pd (by kernel_rfl)
theorem Ao8:(Tryz.prog.info? 99).map (·.size)=some 3:=by kernel_rfl
theorem Tn:FI Qx0 99 0 0:=⟨⟨_,_,1,Tryz.underlying99,rfl,rfl,by kernel_rfl,by decide⟩⟩
theorem L3:TI Qx0 56 false 1:=⟨⟨_,Tryz.underlying56,rfl⟩,by kernel_rfl⟩
theorem Aa5:SI Qx0 56 5 1:=⟨Tryz.underlying56,by kernel_rfl,by decide⟩
theorem A01:FnI Qx0 62:=⟨⟨_,Tryz.func62,by kernel_rfl,by kernel_rfl⟩⟩
theorem Y0:FI Qx0 99 1 1:=⟨⟨_,_,1,Tryz.underlying99,rfl,rfl,by kernel_rfl,by decide⟩⟩
theorem Abr:FI Qx0 99 2 2:=⟨⟨_,_,1,Tryz.underlying99,rfl,rfl,by kernel_rfl,by decide⟩⟩
theorem ti4:TI Qx0 4 false 1:=⟨⟨_,Tryz.underlying4,rfl⟩,by kernel_rfl⟩
theorem Ayv:FnI Qx0 124:=⟨⟨_,Tryz.func124,by kernel_rfl,by kernel_rfl⟩⟩
theorem Ajb:TI Qx0 86 true 1:=⟨⟨_,Tryz.underlying86,rfl⟩,by kernel_rfl⟩
theorem Aid:EI Qx0 56 1 24 [Znl]:=Rs (by kernel_rfl) (by decide)
theorem Av5:NI Qx0 25:=⟨.inl ⟨_,Tryz.underlying25⟩⟩
theorem Ayq:FnI Qx0 125:=⟨⟨_,Tryz.func125,by kernel_rfl,by kernel_rfl⟩⟩
theorem Se:SI Qx0 25 56 1:=⟨Tryz.underlying25,by kernel_rfl,by decide⟩
theorem mixed:Tryz.prog.follows .mixedOrders=true:=by kernel_rfl
theorem A0o:XI Qx0 259 Extern.BytealgCompare.compare:=⟨⟨Tryz.f259,Tryz.func259,by kernel_rfl,by kernel_rfl,by kernel_rfl,by kernel_rfl⟩⟩
theorem A2l:FnI Qx0 219:=⟨⟨_,Tryz.func219,by kernel_rfl,by kernel_rfl⟩⟩
theorem Ao7:FnI Qx0 150:=⟨⟨_,Tryz.func150,by kernel_rfl,by kernel_rfl⟩⟩
theorem Asb:FnI Qx0 181:=⟨⟨_,Tryz.func181,by kernel_rfl,by kernel_rfl⟩⟩
theorem Aky:SI Qx0 61 157 2:=⟨Tryz.underlying61,by kernel_rfl,by decide⟩
theorem Ase:TI Qx0 157 true 2:=⟨⟨_,Tryz.underlying157,rfl⟩,by kernel_rfl⟩
theorem Ang:ZI Qx0 157 ([Znl,Znl]):=Pd (by kernel_rfl)
theorem Avh:(Tryz.prog.info? 157).map (·.size)=some 2:=by kernel_rfl
theorem Aby:FI Qx0 157 0 0:=⟨⟨_,_,1,Tryz.underlying157,rfl,rfl,by kernel_rfl,by decide⟩⟩
theorem Aai:FI Qx0 58 0 0:=⟨⟨_,_,1,Tryz.underlying58,rfl,rfl,by kernel_rfl,by decide⟩⟩
theorem Ad5:FI Qx0 58 2 2:=⟨⟨_,_,1,Tryz.underlying58,rfl,rfl,by kernel_rfl,by decide⟩⟩
theorem Xh:FI Qx0 58 1 1:=⟨⟨_,_,1,Tryz.underlying58,rfl,rfl,by kernel_rfl,by decide⟩⟩
theorem Avd:(Tryz.prog.info? 86).map (·.size)=some 1:=by kernel_rfl
theorem Ac4:TI Qx0 58 true 3:=⟨⟨_,Tryz.underlying58,rfl⟩,by kernel_rfl⟩
theorem A6w:(Tryz.prog.info? 58).map (·.size)=some 3:=by kernel_rfl
theorem Aq8:EI Qx0 157 2 48 [Znl,Znl]:=Rs (by kernel_rfl) (by decide)
theorem A4o:NI Qx0 61:=⟨.inl ⟨_,Tryz.underlying61⟩⟩
theorem Anh:FI Qx0 157 1 1:=⟨⟨_,_,1,Tryz.underlying157,rfl,rfl,by kernel_rfl,by decide⟩⟩
theorem Ayl:PI Qx0 157 [(0,1),(1,1)]:=Po Tryz.underlying157 (by kernel_rfl) (by kernel_rfl)
theorem Au7:FnI Qx0 119:=⟨⟨_,Tryz.func119,by kernel_rfl,by kernel_rfl⟩⟩
theorem A10:FnI Qx0 120:=⟨⟨_,Tryz.func120,by kernel_rfl,by kernel_rfl⟩⟩
theorem Aoi:FnI Qx0 121:=⟨⟨_,Tryz.func121,by kernel_rfl,by kernel_rfl⟩⟩
theorem A1y:FnI Qx0 122:=⟨⟨_,Tryz.func122,by kernel_rfl,by kernel_rfl⟩⟩
theorem Tg:ZI Qx0 40 (Zba):=Pd (by kernel_rfl)
theorem An3:PI Qx0 40 [(0,3),(3,2),(5,1),(6,1),(7,1)]:=Po Tryz.underlying40 (by kernel_rfl) (by kernel_rfl)
theorem Dq:TI Qx0 40 true 8:=⟨⟨_,Tryz.underlying40,rfl⟩,by kernel_rfl⟩
theorem K5:FI Qx0 40 0 0:=⟨⟨_,_,3,Tryz.underlying40,rfl,rfl,by kernel_rfl,by decide⟩⟩
theorem Yw:TI Qx0 28 true 3:=⟨⟨_,Tryz.underlying28,rfl⟩,by kernel_rfl⟩
theorem M8:FI Qx0 28 2 2:=⟨⟨_,_,1,Tryz.underlying28,rfl,rfl,by kernel_rfl,by decide⟩⟩
theorem ti3:TI Qx0 3 false 1:=⟨⟨_,Tryz.underlying3,rfl⟩,by kernel_rfl⟩
theorem R9:FI Qx0 28 0 0:=⟨⟨_,_,1,Tryz.underlying28,rfl,rfl,by kernel_rfl,by decide⟩⟩
theorem Xo:TI Qx0 25 false 1:=⟨⟨_,Tryz.underlying25,rfl⟩,by kernel_rfl⟩
theorem Qp:FI Qx0 28 1 1:=⟨⟨_,_,1,Tryz.underlying28,rfl,rfl,by kernel_rfl,by decide⟩⟩
theorem Aig:TI Qx0 26 false 1:=⟨⟨_,Tryz.underlying26,rfl⟩,by kernel_rfl⟩
theorem Am3:SI Qx0 26 134 1:=⟨Tryz.underlying26,by kernel_rfl,by decide⟩
theorem A0k:FnI Qx0 107:=⟨⟨_,Tryz.func107,by kernel_rfl,by kernel_rfl⟩⟩
theorem Qo:TI Qx0 134 true 1:=⟨⟨_,Tryz.underlying134,rfl⟩,by kernel_rfl⟩
theorem Aat:ZI Qx0 134 ([Znl]):=Pd (by kernel_rfl)
theorem Aaz:(Tryz.prog.info? 134).map (·.size)=some 1:=by kernel_rfl
theorem T5:FI Qx0 134 0 0:=⟨⟨_,_,1,Tryz.underlying134,rfl,rfl,by kernel_rfl,by decide⟩⟩
theorem Aa8:TI Qx0 132 false 1:=⟨⟨_,Tryz.underlying132,rfl⟩,by kernel_rfl⟩
theorem W8:SI Qx0 132 136 3:=⟨Tryz.underlying132,by kernel_rfl,by decide⟩
theorem zi4:ZI Qx0 4 ([.b false]):=Pd (by kernel_rfl)
theorem zi3:ZI Qx0 3 ([Ii6 0]):=Pd (by kernel_rfl)
theorem sz3:(Tryz.prog.info? 3).map (·.size)=some 1:=by kernel_rfl
theorem Awg:FnI Qx0 182:=⟨⟨_,Tryz.func182,by kernel_rfl,by kernel_rfl⟩⟩
theorem Ah3:TI Qx0 136 true 3:=⟨⟨_,Tryz.underlying136,rfl⟩,by kernel_rfl⟩
theorem Aw1:FnI Qx0 235:=⟨⟨_,Tryz.func235,by kernel_rfl,by kernel_rfl⟩⟩
theorem Afv:ZI Qx0 136 ([Ii6 0,Znl,.b false]):=Pd (by kernel_rfl)
theorem Ajl:(Tryz.prog.info? 136).map (·.size)=some 3:=by kernel_rfl
theorem Wm:FI Qx0 136 0 0:=⟨⟨_,_,1,Tryz.underlying136,rfl,rfl,by kernel_rfl,by decide⟩⟩
theorem Aej:FI Qx0 136 1 1:=⟨⟨_,_,1,Tryz.underlying136,rfl,rfl,by kernel_rfl,by decide⟩⟩
theorem Aek:FI Qx0 136 2 2:=⟨⟨_,_,1,Tryz.underlying136,rfl,rfl,by kernel_rfl,by decide⟩⟩
theorem Axr:FnI Qx0 183:=⟨⟨_,Tryz.func183,by kernel_rfl,by kernel_rfl⟩⟩
theorem sz4:(Tryz.prog.info? 4).map (·.size)=some 1:=by kernel_rfl
theorem Awy:FnI Qx0 108:=⟨⟨_,Tryz.func108,by kernel_rfl,by kernel_rfl⟩⟩
theorem Aza:FnI Qx0 109:=⟨⟨_,Tryz.func109,by kernel_rfl,by kernel_rfl⟩⟩
theorem Ax7:FnI Qx0 45:=⟨⟨_,Tryz.func45,by kernel_rfl,by kernel_rfl⟩⟩
theorem R7:FI Qx0 40 1 3:=⟨⟨_,_,2,Tryz.underlying40,rfl,rfl,by kernel_rfl,by decide⟩⟩
theorem Sx:TI Qx0 34 true 2:=⟨⟨_,Tryz.underlying34,rfl⟩,by kernel_rfl⟩
theorem Oy:FI Qx0 34 0 0:=⟨⟨_,_,1,Tryz.underlying34,rfl,rfl,by kernel_rfl,by decide⟩⟩
theorem Abz:TI Qx0 29 false 1:=⟨⟨_,Tryz.underlying29,rfl⟩,by kernel_rfl⟩
theorem R8:SI Qx0 29 139 8:=⟨Tryz.underlying29,by kernel_rfl,by decide⟩
theorem Vy:FI Qx0 34 1 1:=⟨⟨_,_,1,Tryz.underlying34,rfl,rfl,by kernel_rfl,by decide⟩⟩
theorem Afg:TI Qx0 32 true 1:=⟨⟨_,Tryz.underlying32,rfl⟩,by kernel_rfl⟩
theorem Uc:FI Qx0 32 0 0:=⟨⟨_,_,1,Tryz.underlying32,rfl,rfl,by kernel_rfl,by decide⟩⟩
theorem Ah8:TI Qx0 30 false 1:=⟨⟨_,Tryz.underlying30,rfl⟩,by kernel_rfl⟩
theorem Acb:SI Qx0 30 142 4:=⟨Tryz.underlying30,by kernel_rfl,by decide⟩
theorem Adj:TI Qx0 142 true 4:=⟨⟨_,Tryz.underlying142,rfl⟩,by kernel_rfl⟩
theorem Amu:ZI Qx0 142 ([Ii6 0,Znl,Znl,.b false]):=Pd (by kernel_rfl)
theorem Aqm:(Tryz.prog.info? 142).map (·.size)=some 4:=by kernel_rfl
theorem Ab9:FI Qx0 142 0 0:=⟨⟨_,_,1,Tryz.underlying142,rfl,rfl,by kernel_rfl,by decide⟩⟩
theorem Yd:FI Qx0 142 1 1:=⟨⟨_,_,3,Tryz.underlying142,rfl,rfl,by kernel_rfl,by decide⟩⟩
theorem A46:FnI Qx0 71:=⟨⟨_,Tryz.func71,by kernel_rfl,by kernel_rfl⟩⟩
theorem ti5:TI Qx0 5 false 1:=⟨⟨_,Tryz.underlying5,rfl⟩,by kernel_rfl⟩
theorem A4x:FnI Qx0 72:=⟨⟨_,Tryz.func72,by kernel_rfl,by kernel_rfl⟩⟩
theorem Ax1:FnI Qx0 184:=⟨⟨_,Tryz.func184,by kernel_rfl,by kernel_rfl⟩⟩
instance:DecidableEq Cn:=λa b=>decidable_of_iff (a.tx_=b.tx_/\a.lo_=b.lo_/\a.hi_=b.hi_/\a.open_=b.open_) (by cases a;cases b;simp)
theorem A0g:Aie Cn Qx0 354 Eb [0,2,2,1]:=⟨⟨by kernel_rfl,by kernel_rfl,by kernel_rfl,by kernel_rfl⟩,λ_=>rfl,by decide,λa b=>by cases a;cases b;simp [Eb,Atw,A0u,A6e,A6d]⟩
theorem Axz:ZI Qx0 354 ([Ii6 0,.s ByteArray.empty,.s ByteArray.empty,.b false]):=Pd (by kernel_rfl)
theorem A3v:PI Qx0 354 [(0,1),(1,1),(2,1),(3,1)]:=Po Tryz.underlying354 (by kernel_rfl) (by kernel_rfl)
theorem A3o:(Tryz.prog.info? 354).map (·.size)=some 4:=by kernel_rfl
theorem A2v:TI Qx0 354 true 4:=⟨⟨_,Tryz.underlying354,rfl⟩,by kernel_rfl⟩
theorem Azt:FnI Qx0 236:=⟨⟨_,Tryz.func236,by kernel_rfl,by kernel_rfl⟩⟩
theorem Azk:FnI Qx0 185:=⟨⟨_,Tryz.func185,by kernel_rfl,by kernel_rfl⟩⟩
theorem A0a:FnI Qx0 110:=⟨⟨_,Tryz.func110,by kernel_rfl,by kernel_rfl⟩⟩
theorem J8:TI Qx0 139 true 8:=⟨⟨_,Tryz.underlying139,rfl⟩,by kernel_rfl⟩
theorem U7:ZI Qx0 139 (Zbb):=Pd (by kernel_rfl)
theorem Ub:(Tryz.prog.info? 139).map (·.size)=some 8:=by kernel_rfl
theorem Vb:FI Qx0 139 0 0:=⟨⟨_,_,1,Tryz.underlying139,rfl,rfl,by kernel_rfl,by decide⟩⟩
theorem Wk:FI Qx0 139 1 1:=⟨⟨_,_,1,Tryz.underlying139,rfl,rfl,by kernel_rfl,by decide⟩⟩
theorem Qb:FI Qx0 139 3 3:=⟨⟨_,_,1,Tryz.underlying139,rfl,rfl,by kernel_rfl,by decide⟩⟩
theorem Rq:FI Qx0 139 2 2:=⟨⟨_,_,1,Tryz.underlying139,rfl,rfl,by kernel_rfl,by decide⟩⟩
theorem Ve:FI Qx0 139 7 7:=⟨⟨_,_,1,Tryz.underlying139,rfl,rfl,by kernel_rfl,by decide⟩⟩
theorem Azl:FnI Qx0 186:=⟨⟨_,Tryz.func186,by kernel_rfl,by kernel_rfl⟩⟩
theorem Afa:FI Qx0 139 6 6:=⟨⟨_,_,1,Tryz.underlying139,rfl,rfl,by kernel_rfl,by decide⟩⟩
theorem Ay9:FnI Qx0 111:=⟨⟨_,Tryz.func111,by kernel_rfl,by kernel_rfl⟩⟩
theorem A4e:FnI Qx0 112:=⟨⟨_,Tryz.func112,by kernel_rfl,by kernel_rfl⟩⟩
theorem ei3:EI Qx0 3 1 8 [Ii6 0]:=Rs (by kernel_rfl) (by decide)
theorem Aos:NI Qx0 225:=⟨.inl ⟨_,Tryz.underlying225⟩⟩
theorem A0i:FnI Qx0 114:=⟨⟨_,Tryz.func114,by kernel_rfl,by kernel_rfl⟩⟩
theorem As2:ZI Qx0 32 ([Znl]):=Pd (by kernel_rfl)
theorem Ava:SI Qx0 225 3 1:=⟨Tryz.underlying225,by kernel_rfl,by decide⟩
theorem Ax9:FnI Qx0 197:=⟨⟨_,Tryz.func197,by kernel_rfl,by kernel_rfl⟩⟩
theorem Aur:FnI Qx0 237:=⟨⟨_,Tryz.func237,by kernel_rfl,by kernel_rfl⟩⟩
theorem Anc:EI Qx0 142 4 64 [Ii6 0,Znl,Znl,.b false]:=Rs (by kernel_rfl) (by decide)
theorem A4p:NI Qx0 30:=⟨.inl ⟨_,Tryz.underlying30⟩⟩
theorem Ayb:PI Qx0 32 [(0,1)]:=Po Tryz.underlying32 (by kernel_rfl) (by kernel_rfl)
theorem Auj:(Tryz.prog.info? 32).map (·.size)=some 1:=by kernel_rfl
theorem A3l:FnI Qx0 187:=⟨⟨_,Tryz.func187,by kernel_rfl,by kernel_rfl⟩⟩
theorem Az4:FnI Qx0 113:=⟨⟨_,Tryz.func113,by kernel_rfl,by kernel_rfl⟩⟩
theorem Azq:FT Qx0 32 0 0 30:=⟨⟨_,_,Tryz.underlying32,rfl,rfl,rfl⟩⟩
theorem A0y:FnI Qx0 46:=⟨⟨_,Tryz.func46,by kernel_rfl,by kernel_rfl⟩⟩
theorem Vl:FI Qx0 40 2 5:=⟨⟨_,_,1,Tryz.underlying40,rfl,rfl,by kernel_rfl,by decide⟩⟩
theorem P3:TI Qx0 37 true 1:=⟨⟨_,Tryz.underlying37,rfl⟩,by kernel_rfl⟩
theorem Wc:FI Qx0 37 0 0:=⟨⟨_,_,1,Tryz.underlying37,rfl,rfl,by kernel_rfl,by decide⟩⟩
theorem Amj:TI Qx0 35 false 1:=⟨⟨_,Tryz.underlying35,rfl⟩,by kernel_rfl⟩
theorem Adi:SI Qx0 35 145 4:=⟨Tryz.underlying35,by kernel_rfl,by decide⟩
theorem Adk:TI Qx0 145 true 4:=⟨⟨_,Tryz.underlying145,rfl⟩,by kernel_rfl⟩
theorem W5:ZI Qx0 145 ([Ii6 0,Ii6 0,Ii6 0,Ii6 0]):=Pd (by kernel_rfl)
theorem Ab6:(Tryz.prog.info? 145).map (·.size)=some 4:=by kernel_rfl
theorem Wj:FI Qx0 145 2 2:=⟨⟨_,_,1,Tryz.underlying145,rfl,rfl,by kernel_rfl,by decide⟩⟩
theorem Z2:FI Qx0 145 0 0:=⟨⟨_,_,1,Tryz.underlying145,rfl,rfl,by kernel_rfl,by decide⟩⟩
theorem V0:FI Qx0 145 1 1:=⟨⟨_,_,1,Tryz.underlying145,rfl,rfl,by kernel_rfl,by decide⟩⟩
theorem Al4:FnI Qx0 130:=⟨⟨_,Tryz.func130,by kernel_rfl,by kernel_rfl⟩⟩
theorem Aff:FI Qx0 145 3 3:=⟨⟨_,_,1,Tryz.underlying145,rfl,rfl,by kernel_rfl,by decide⟩⟩
theorem Aym:FnI Qx0 188:=⟨⟨_,Tryz.func188,by kernel_rfl,by kernel_rfl⟩⟩
theorem A11:FnI Qx0 115:=⟨⟨_,Tryz.func115,by kernel_rfl,by kernel_rfl⟩⟩
theorem Asm:FnI Qx0 116:=⟨⟨_,Tryz.func116,by kernel_rfl,by kernel_rfl⟩⟩
theorem Az0:FnI Qx0 47:=⟨⟨_,Tryz.func47,by kernel_rfl,by kernel_rfl⟩⟩
theorem Xr:FI Qx0 40 4 7:=⟨⟨_,_,1,Tryz.underlying40,rfl,rfl,by kernel_rfl,by decide⟩⟩
theorem Td:FI Qx0 40 3 6:=⟨⟨_,_,1,Tryz.underlying40,rfl,rfl,by kernel_rfl,by decide⟩⟩
theorem Ai9:TI Qx0 38 false 1:=⟨⟨_,Tryz.underlying38,rfl⟩,by kernel_rfl⟩
theorem Aay:SI Qx0 38 88 6:=⟨Tryz.underlying38,by kernel_rfl,by decide⟩
theorem Zc:TI Qx0 88 true 6:=⟨⟨_,Tryz.underlying88,rfl⟩,by kernel_rfl⟩
theorem Ad7:ZI Qx0 88 ([Ii6 0,Ii6 0,Ii6 0,Ii6 0,.b false,Znl]):=Pd (by kernel_rfl)
theorem Adv:(Tryz.prog.info? 88).map (·.size)=some 6:=by kernel_rfl
theorem Tv:FI Qx0 88 0 0:=⟨⟨_,_,1,Tryz.underlying88,rfl,rfl,by kernel_rfl,by decide⟩⟩
theorem A16:FnI Qx0 48:=⟨⟨_,Tryz.func48,by kernel_rfl,by kernel_rfl⟩⟩
theorem Avx:FnI Qx0 132:=⟨⟨_,Tryz.func132,by kernel_rfl,by kernel_rfl⟩⟩
theorem Ayp:PI Qx0 139 [(0,1),(1,1),(2,1),(3,1),(4,1),(5,1),(6,1),(7,1)]:=Po Tryz.underlying139 (by kernel_rfl) (by kernel_rfl)
theorem A1h:FnI Qx0 189:=⟨⟨_,Tryz.func189,by kernel_rfl,by kernel_rfl⟩⟩
theorem Afr:FI Qx0 88 3 3:=⟨⟨_,_,1,Tryz.underlying88,rfl,rfl,by kernel_rfl,by decide⟩⟩
theorem Akh:FI Qx0 88 4 4:=⟨⟨_,_,1,Tryz.underlying88,rfl,rfl,by kernel_rfl,by decide⟩⟩
theorem Yr:FI Qx0 88 5 5:=⟨⟨_,_,1,Tryz.underlying88,rfl,rfl,by kernel_rfl,by decide⟩⟩
theorem A06:FnI Qx0 117:=⟨⟨_,Tryz.func117,by kernel_rfl,by kernel_rfl⟩⟩
theorem Adw:FI Qx0 88 1 1:=⟨⟨_,_,1,Tryz.underlying88,rfl,rfl,by kernel_rfl,by decide⟩⟩
theorem A5e:FnI Qx0 49:=⟨⟨_,Tryz.func49,by kernel_rfl,by kernel_rfl⟩⟩
theorem Axf:FnI Qx0 16:=⟨⟨_,Tryz.func16,by kernel_rfl,by kernel_rfl⟩⟩
theorem Kn:(Tryz.prog.info? 40).map (·.size)=some 8:=by kernel_rfl
theorem A0r:PI Qx0 88 [(0,1),(1,1),(2,1),(3,1),(4,1),(5,1)]:=Po Tryz.underlying88 (by kernel_rfl) (by kernel_rfl)
theorem A4t:FnI Qx0 56:=⟨⟨_,Tryz.func56,by kernel_rfl,by kernel_rfl⟩⟩
theorem Ahe:FI Qx0 88 2 2:=⟨⟨_,_,1,Tryz.underlying88,rfl,rfl,by kernel_rfl,by decide⟩⟩
theorem Auu:EI Qx0 88 6 64 [Ii6 0,Ii6 0,Ii6 0,Ii6 0,.b false,Znl]:=Rs (by kernel_rfl) (by decide)
theorem A3m:NI Qx0 38:=⟨.inl ⟨_,Tryz.underlying38⟩⟩
theorem A4j:(Tryz.prog.info? 38).map (·.size)=some 1:=by kernel_rfl
theorem A0b:FnI Qx0 128:=⟨⟨_,Tryz.func128,by kernel_rfl,by kernel_rfl⟩⟩
theorem Zq:ZI Qx0 34 ([Znl,Znl]):=Pd (by kernel_rfl)
theorem Avu:FnI Qx0 194:=⟨⟨_,Tryz.func194,by kernel_rfl,by kernel_rfl⟩⟩
theorem Z6:(Tryz.prog.info? 34).map (·.size)=some 2:=by kernel_rfl
theorem Ajy:EI Qx0 139 8 64 Zbb:=Rs (by kernel_rfl) (by decide)
theorem A2f:NI Qx0 29:=⟨.inl ⟨_,Tryz.underlying29⟩⟩
theorem Afp:PI Qx0 34 [(0,1),(1,1)]:=Po Tryz.underlying34 (by kernel_rfl) (by kernel_rfl)
theorem Axu:FnI Qx0 195:=⟨⟨_,Tryz.func195,by kernel_rfl,by kernel_rfl⟩⟩
theorem A2n:FnI Qx0 129:=⟨⟨_,Tryz.func129,by kernel_rfl,by kernel_rfl⟩⟩
theorem X1:ZI Qx0 37 ([Znl]):=Pd (by kernel_rfl)
theorem Aec:PI Qx0 37 [(0,1)]:=Po Tryz.underlying37 (by kernel_rfl) (by kernel_rfl)
theorem Vr:(Tryz.prog.info? 37).map (·.size)=some 1:=by kernel_rfl
theorem Aj0:PI Qx0 145 [(0,1),(1,1),(2,1),(3,1)]:=Po Tryz.underlying145 (by kernel_rfl) (by kernel_rfl)
theorem Azv:FnI Qx0 74:=⟨⟨_,Tryz.func74,by kernel_rfl,by kernel_rfl⟩⟩
theorem Amc:EI Qx0 145 4 32 [Ii6 0,Ii6 0,Ii6 0,Ii6 0]:=Rs (by kernel_rfl) (by decide)
theorem A04:NI Qx0 35:=⟨.inl ⟨_,Tryz.underlying35⟩⟩
theorem A07:FnI Qx0 249:=⟨⟨_,Tryz.func249,by kernel_rfl,by kernel_rfl⟩⟩
theorem A3s:FnI Qx0 196:=⟨⟨_,Tryz.func196,by kernel_rfl,by kernel_rfl⟩⟩
theorem Amt:FnI Qx0 131:=⟨⟨_,Tryz.func131,by kernel_rfl,by kernel_rfl⟩⟩
theorem A4m:FnI Qx0 73:=⟨⟨_,Tryz.func73,by kernel_rfl,by kernel_rfl⟩⟩
theorem Aw7:FnI Qx0 57:=⟨⟨_,Tryz.func57,by kernel_rfl,by kernel_rfl⟩⟩
theorem A5m:FnI Qx0 58:=⟨⟨_,Tryz.func58,by kernel_rfl,by kernel_rfl⟩⟩
theorem A5z:EI Qx0 29 1 24 [Znl]:=Rs (by kernel_rfl) (by decide)
theorem Ar2:SI Qx0 312 29 1:=⟨Tryz.underlying312,by kernel_rfl,by decide⟩
theorem A21:FnI Qx0 198:=⟨⟨_,Tryz.func198,by kernel_rfl,by kernel_rfl⟩⟩
theorem A2o:FnI Qx0 133:=⟨⟨_,Tryz.func133,by kernel_rfl,by kernel_rfl⟩⟩
theorem A6j:FnI Qx0 59:=⟨⟨_,Tryz.func59,by kernel_rfl,by kernel_rfl⟩⟩
theorem A6n:EI Qx0 38 1 24 [Znl]:=Rs (by kernel_rfl) (by decide)
theorem Atl:SI Qx0 246 38 1:=⟨Tryz.underlying246,by kernel_rfl,by decide⟩
theorem A2s:FnI Qx0 134:=⟨⟨_,Tryz.func134,by kernel_rfl,by kernel_rfl⟩⟩
theorem A5h:FnI Qx0 60:=⟨⟨_,Tryz.func60,by kernel_rfl,by kernel_rfl⟩⟩
theorem A3k:FnI Qx0 23:=⟨⟨_,Tryz.func23,by kernel_rfl,by kernel_rfl⟩⟩
theorem ei5:EI Qx0 5 1 1 [.i .u8 0]:=Rs (by kernel_rfl) (by decide)
theorem Axw:FnI Qx0 55:=⟨⟨_,Tryz.func55,by kernel_rfl,by kernel_rfl⟩⟩
theorem Awb:FnI Qx0 61:=⟨⟨_,Tryz.func61,by kernel_rfl,by kernel_rfl⟩⟩
theorem Awf:FnI Qx0 135:=⟨⟨_,Tryz.func135,by kernel_rfl,by kernel_rfl⟩⟩
theorem A02:PI Qx0 99 [(0,1),(1,1),(2,1)]:=Po Tryz.underlying99 (by kernel_rfl) (by kernel_rfl)
theorem A6u:FnI Qx0 63:=⟨⟨_,Tryz.func63,by kernel_rfl,by kernel_rfl⟩⟩
theorem A1g:ZI Qx0 58 ([Znl,Znl,.b false]):=Pd (by kernel_rfl)
theorem A1d:FnI Qx0 206:=⟨⟨_,Tryz.func206,by kernel_rfl,by kernel_rfl⟩⟩
theorem A54:NI Qx0 56:=⟨.inl ⟨_,Tryz.underlying56⟩⟩
theorem A22:FnI Qx0 137:=⟨⟨_,Tryz.func137,by kernel_rfl,by kernel_rfl⟩⟩
theorem A4z:PI Qx0 58 [(0,1),(1,1),(2,1)]:=Po Tryz.underlying58 (by kernel_rfl) (by kernel_rfl)
theorem A53:FnI Qx0 65:=⟨⟨_,Tryz.func65,by kernel_rfl,by kernel_rfl⟩⟩
theorem A20:PI Qx0 142 [(0,1),(1,3)]:=Po Tryz.underlying142 (by kernel_rfl) (by kernel_rfl)
theorem zv3:(Tryz.prog.info? 3).bind (·.zero)=some (.int .i64 0):=by kernel_rfl
theorem A5k:EI Qx0 30 1 24 [Znl]:=Rs (by kernel_rfl) (by decide)
theorem Ari:SI Qx0 396 30 1:=⟨Tryz.underlying396,by kernel_rfl,by decide⟩
theorem A27:FnI Qx0 268:=⟨⟨_,Tryz.func268,by kernel_rfl,by kernel_rfl⟩⟩
theorem A4g:FnI Qx0 250:=⟨⟨_,Tryz.func250,by kernel_rfl,by kernel_rfl⟩⟩
theorem A3j:FnI Qx0 199:=⟨⟨_,Tryz.func199,by kernel_rfl,by kernel_rfl⟩⟩
theorem Ayu:FnI Qx0 200:=⟨⟨_,Tryz.func200,by kernel_rfl,by kernel_rfl⟩⟩
theorem A0j:FnI Qx0 251:=⟨⟨_,Tryz.func251,by kernel_rfl,by kernel_rfl⟩⟩
theorem Avf:FnI Qx0 201:=⟨⟨_,Tryz.func201,by kernel_rfl,by kernel_rfl⟩⟩
theorem A3f:FnI Qx0 202:=⟨⟨_,Tryz.func202,by kernel_rfl,by kernel_rfl⟩⟩
theorem Ayr:ZI Qx0 320 ([Nfu,Nfu]):=Pd (by kernel_rfl)
theorem A2g:PI Qx0 320 [(0,1),(1,1)]:=Po Tryz.underlying320 (by kernel_rfl) (by kernel_rfl)
theorem A1n:(Tryz.prog.info? 320).map (·.size)=some 2:=by kernel_rfl
theorem A1o:TI Qx0 320 true 2:=⟨⟨_,Tryz.underlying320,rfl⟩,by kernel_rfl⟩
theorem Ay4:FnI Qx0 203:=⟨⟨_,Tryz.func203,by kernel_rfl,by kernel_rfl⟩⟩
theorem Au3:FI Qx0 320 0 0:=⟨⟨_,_,1,Tryz.underlying320,rfl,rfl,by kernel_rfl,by decide⟩⟩
theorem Ax4:TI Qx0 318 false 1:=⟨⟨_,Tryz.underlying318,rfl⟩,by kernel_rfl⟩
theorem Aj4:FI Qx0 139 5 5:=⟨⟨_,_,1,Tryz.underlying139,rfl,rfl,by kernel_rfl,by decide⟩⟩
theorem A1l:FnI Qx0 252:=⟨⟨_,Tryz.func252,by kernel_rfl,by kernel_rfl⟩⟩
theorem Aut:FI Qx0 320 1 1:=⟨⟨_,_,1,Tryz.underlying320,rfl,rfl,by kernel_rfl,by decide⟩⟩
theorem Ai3:FI Qx0 139 4 4:=⟨⟨_,_,1,Tryz.underlying139,rfl,rfl,by kernel_rfl,by decide⟩⟩
theorem A29:FnI Qx0 253:=⟨⟨_,Tryz.func253,by kernel_rfl,by kernel_rfl⟩⟩
theorem A0e:FnI Qx0 204:=⟨⟨_,Tryz.func204,by kernel_rfl,by kernel_rfl⟩⟩
theorem Awd:FnI Qx0 205:=⟨⟨_,Tryz.func205,by kernel_rfl,by kernel_rfl⟩⟩
theorem A3e:FnI Qx0 136:=⟨⟨_,Tryz.func136,by kernel_rfl,by kernel_rfl⟩⟩
theorem A47:FnI Qx0 64:=⟨⟨_,Tryz.func64,by kernel_rfl,by kernel_rfl⟩⟩
theorem Ayo:FnI Qx0 148:=⟨⟨_,Tryz.func148,by kernel_rfl,by kernel_rfl⟩⟩
theorem Ayg:FnI Qx0 147:=⟨⟨_,Tryz.func147,by kernel_rfl,by kernel_rfl⟩⟩
theorem A03:FnI Qx0 69:=⟨⟨_,Tryz.func69,by kernel_rfl,by kernel_rfl⟩⟩
theorem Az1:FnI Qx0 218:=⟨⟨_,Tryz.func218,by kernel_rfl,by kernel_rfl⟩⟩
theorem Ayz:PI Qx0 136 [(0,1),(1,1),(2,1)]:=Po Tryz.underlying136 (by kernel_rfl) (by kernel_rfl)
theorem A1m:FnI Qx0 149:=⟨⟨_,Tryz.func149,by kernel_rfl,by kernel_rfl⟩⟩
theorem A4l:FnI Qx0 70:=⟨⟨_,Tryz.func70,by kernel_rfl,by kernel_rfl⟩⟩
theorem A5w:FnI Qx0 28:=⟨⟨_,Tryz.func28,by kernel_rfl,by kernel_rfl⟩⟩
theorem A35:FnI Qx0 24:=⟨⟨_,Tryz.func24,by kernel_rfl,by kernel_rfl⟩⟩
theorem Aw0:ZI Qx0 86 ([Znl]):=Pd (by kernel_rfl)
theorem Ayt:PI Qx0 86 [(0,1)]:=Po Tryz.underlying86 (by kernel_rfl) (by kernel_rfl)
theorem A3g:EI Qx0 99 3 56 [Znl,Znl,.b false]:=Rs (by kernel_rfl) (by decide)
theorem A6p:NI Qx0 84:=⟨.inl ⟨_,Tryz.underlying84⟩⟩
theorem A2r:FnI Qx0 126:=⟨⟨_,Tryz.func126,by kernel_rfl,by kernel_rfl⟩⟩
theorem A2t:FnI Qx0 127:=⟨⟨_,Tryz.func127,by kernel_rfl,by kernel_rfl⟩⟩
theorem A5g:FnI Qx0 53:=⟨⟨_,Tryz.func53,by kernel_rfl,by kernel_rfl⟩⟩
theorem A1x:FnI Qx0 138:=⟨⟨_,Tryz.func138,by kernel_rfl,by kernel_rfl⟩⟩
theorem A5l:FnI Qx0 66:=⟨⟨_,Tryz.func66,by kernel_rfl,by kernel_rfl⟩⟩
theorem A1i:FnI Qx0 139:=⟨⟨_,Tryz.func139,by kernel_rfl,by kernel_rfl⟩⟩
theorem A59:FnI Qx0 67:=⟨⟨_,Tryz.func67,by kernel_rfl,by kernel_rfl⟩⟩
theorem A37:FnI Qx0 25:=⟨⟨_,Tryz.func25,by kernel_rfl,by kernel_rfl⟩⟩
theorem A3q:FnI Qx0 141:=⟨⟨_,Tryz.func141,by kernel_rfl,by kernel_rfl⟩⟩
theorem A2z:FnI Qx0 209:=⟨⟨_,Tryz.func209,by kernel_rfl,by kernel_rfl⟩⟩
theorem A1e:FnI Qx0 210:=⟨⟨_,Tryz.func210,by kernel_rfl,by kernel_rfl⟩⟩
theorem A4a:FnI Qx0 269:=⟨⟨_,Tryz.func269,by kernel_rfl,by kernel_rfl⟩⟩
theorem A3i:FnI Qx0 270:=⟨⟨_,Tryz.func270,by kernel_rfl,by kernel_rfl⟩⟩
theorem A0n:FnI Qx0 254:=⟨⟨_,Tryz.func254,by kernel_rfl,by kernel_rfl⟩⟩
theorem A3c:FnI Qx0 212:=⟨⟨_,Tryz.func212,by kernel_rfl,by kernel_rfl⟩⟩
theorem A1a:FnI Qx0 211:=⟨⟨_,Tryz.func211,by kernel_rfl,by kernel_rfl⟩⟩
theorem A25:(Tryz.prog.info? 25).map (·.size)=some 1:=by kernel_rfl
theorem A09:FnI Qx0 140:=⟨⟨_,Tryz.func140,by kernel_rfl,by kernel_rfl⟩⟩
theorem A1r:FnI Qx0 142:=⟨⟨_,Tryz.func142,by kernel_rfl,by kernel_rfl⟩⟩
theorem Aih:ZI Qx0 28 ([Znl,Znl,Ii6 0]):=Pd (by kernel_rfl)
theorem At5:PI Qx0 28 [(0,1),(1,1),(2,1)]:=Po Tryz.underlying28 (by kernel_rfl) (by kernel_rfl)
theorem Ajm:(Tryz.prog.info? 28).map (·.size)=some 3:=by kernel_rfl
theorem A3a:FnI Qx0 213:=⟨⟨_,Tryz.func213,by kernel_rfl,by kernel_rfl⟩⟩
theorem A0h:FnI Qx0 214:=⟨⟨_,Tryz.func214,by kernel_rfl,by kernel_rfl⟩⟩
theorem Aju:EI Qx0 134 1 24 [Znl]:=Rs (by kernel_rfl) (by decide)
theorem A34:NI Qx0 26:=⟨.inl ⟨_,Tryz.underlying26⟩⟩
theorem Axy:FnI Qx0 215:=⟨⟨_,Tryz.func215,by kernel_rfl,by kernel_rfl⟩⟩
theorem A1t:FnI Qx0 255:=⟨⟨_,Tryz.func255,by kernel_rfl,by kernel_rfl⟩⟩
theorem Al7:PI Qx0 134 [(0,1)]:=Po Tryz.underlying134 (by kernel_rfl) (by kernel_rfl)
theorem A2d:FnI Qx0 256:=⟨⟨_,Tryz.func256,by kernel_rfl,by kernel_rfl⟩⟩
theorem A4n:(Tryz.prog.info? 26).map (·.size)=some 1:=by kernel_rfl
theorem Anv:EI Qx0 136 3 40 [Ii6 0,Znl,.b false]:=Rs (by kernel_rfl) (by decide)
theorem A3h:EI Qx0 132 1 24 [Znl]:=Rs (by kernel_rfl) (by decide)
theorem Ar6:SI Qx0 408 132 1:=⟨Tryz.underlying408,by kernel_rfl,by decide⟩
theorem A3d:FnI Qx0 281:=⟨⟨_,Tryz.func281,by kernel_rfl,by kernel_rfl⟩⟩
theorem Ayf:NI Qx0 132:=⟨.inl ⟨_,Tryz.underlying132⟩⟩
theorem A2u:FnI Qx0 275:=⟨⟨_,Tryz.func275,by kernel_rfl,by kernel_rfl⟩⟩
theorem A1u:FnI Qx0 257:=⟨⟨_,Tryz.func257,by kernel_rfl,by kernel_rfl⟩⟩
theorem A3t:FnI Qx0 216:=⟨⟨_,Tryz.func216,by kernel_rfl,by kernel_rfl⟩⟩
theorem A3x:FnI Qx0 143:=⟨⟨_,Tryz.func143,by kernel_rfl,by kernel_rfl⟩⟩
theorem Ay3:FnI Qx0 146:=⟨⟨_,Tryz.func146,by kernel_rfl,by kernel_rfl⟩⟩
theorem A2y:FnI Qx0 144:=⟨⟨_,Tryz.func144,by kernel_rfl,by kernel_rfl⟩⟩
theorem A2b:FnI Qx0 258:=⟨⟨_,Tryz.func258,by kernel_rfl,by kernel_rfl⟩⟩
theorem A2q:FnI Qx0 217:=⟨⟨_,Tryz.func217,by kernel_rfl,by kernel_rfl⟩⟩
theorem A2j:FnI Qx0 145:=⟨⟨_,Tryz.func145,by kernel_rfl,by kernel_rfl⟩⟩
theorem A6v:FnI Qx0 68:=⟨⟨_,Tryz.func68,by kernel_rfl,by kernel_rfl⟩⟩
theorem A2e:FnI Qx0 27:=⟨⟨_,Tryz.func27,by kernel_rfl,by kernel_rfl⟩⟩
theorem fn9:FnI Qx0 9:=⟨⟨_,Tryz.func9,by kernel_rfl,by kernel_rfl⟩⟩
theorem Ala:SI Qx0 22 60 11:=⟨Tryz.underlying22,by kernel_rfl,by decide⟩
theorem Aup:FI Qx0 60 8 8:=⟨⟨_,_,3,Tryz.underlying60,rfl,rfl,by kernel_rfl,by decide⟩⟩
theorem A5s:FnI Qx0 29:=⟨⟨_,Tryz.func29,by kernel_rfl,by kernel_rfl⟩⟩
theorem Aph:FI Qx0 60 6 6:=⟨⟨_,_,1,Tryz.underlying60,rfl,rfl,by kernel_rfl,by decide⟩⟩
theorem At3:FI Qx0 60 7 7:=⟨⟨_,_,1,Tryz.underlying60,rfl,rfl,by kernel_rfl,by decide⟩⟩
theorem A4w:FnI Qx0 10:=⟨⟨_,Tryz.func10,by kernel_rfl,by kernel_rfl⟩⟩
theorem A00:TI Qx0 60 true 11:=⟨⟨_,Tryz.underlying60,rfl⟩,by kernel_rfl⟩
theorem A6r:EI Qx0 60 11 144 [Ii6 0,Ii6 0,Ii6 0,Ii6 0,.b false,.b false,Znl,Znl,Znl,Znl,.b false]:=Rs (by kernel_rfl) (by decide)
theorem At8:SI Qx0 73 79 4:=⟨Tryz.underlying73,by kernel_rfl,by decide⟩
theorem Az7:FI Qx0 60 1 1:=⟨⟨_,_,1,Tryz.underlying60,rfl,rfl,by kernel_rfl,by decide⟩⟩
theorem Am6:ZI Qx0 64 ([Ii6 0,.b false,Znl,Znl,Ii6 0]):=Pd (by kernel_rfl)
theorem Tr:FI Qx0 60 0 0:=⟨⟨_,_,1,Tryz.underlying60,rfl,rfl,by kernel_rfl,by decide⟩⟩
theorem Apw:FI Qx0 60 2 2:=⟨⟨_,_,1,Tryz.underlying60,rfl,rfl,by kernel_rfl,by decide⟩⟩
theorem Aui:FI Qx0 60 3 3:=⟨⟨_,_,1,Tryz.underlying60,rfl,rfl,by kernel_rfl,by decide⟩⟩
theorem Ay1:FI Qx0 60 4 4:=⟨⟨_,_,1,Tryz.underlying60,rfl,rfl,by kernel_rfl,by decide⟩⟩
theorem Aub:PI Qx0 64 [(0,1),(1,1),(2,1),(3,1),(4,1)]:=Po Tryz.underlying64 (by kernel_rfl) (by kernel_rfl)
theorem Aq1:(Tryz.prog.info? 64).map (·.size)=some 5:=by kernel_rfl
theorem Ar1:TI Qx0 64 true 5:=⟨⟨_,Tryz.underlying64,rfl⟩,by kernel_rfl⟩
theorem A44:FnI Qx0 54:=⟨⟨_,Tryz.func54,by kernel_rfl,by kernel_rfl⟩⟩
theorem A51:FnI Qx0 52:=⟨⟨_,Tryz.func52,by kernel_rfl,by kernel_rfl⟩⟩
theorem A6k:FnI Qx0 30:=⟨⟨_,Tryz.func30,by kernel_rfl,by kernel_rfl⟩⟩
theorem Ax2:FI Qx0 60 5 5:=⟨⟨_,_,1,Tryz.underlying60,rfl,rfl,by kernel_rfl,by decide⟩⟩
theorem A5x:FnI Qx0 26:=⟨⟨_,Tryz.func26,by kernel_rfl,by kernel_rfl⟩⟩
theorem A5q:FnI Qx0 31:=⟨⟨_,Tryz.func31,by kernel_rfl,by kernel_rfl⟩⟩
theorem A5c:EI Qx0 35 1 24 [Znl]:=Rs (by kernel_rfl) (by decide)
theorem As9:SI Qx0 337 35 1:=⟨Tryz.underlying337,by kernel_rfl,by decide⟩
theorem A38:FnI Qx0 220:=⟨⟨_,Tryz.func220,by kernel_rfl,by kernel_rfl⟩⟩
theorem A3r:FnI Qx0 151:=⟨⟨_,Tryz.func151,by kernel_rfl,by kernel_rfl⟩⟩
theorem A6g:FnI Qx0 75:=⟨⟨_,Tryz.func75,by kernel_rfl,by kernel_rfl⟩⟩
theorem A5a:FnI Qx0 32:=⟨⟨_,Tryz.func32,by kernel_rfl,by kernel_rfl⟩⟩
theorem A4i:FnI Qx0 11:=⟨⟨_,Tryz.func11,by kernel_rfl,by kernel_rfl⟩⟩
theorem Adt:FI Qx0 64 4 4:=⟨⟨_,_,1,Tryz.underlying64,rfl,rfl,by kernel_rfl,by decide⟩⟩
theorem Aw6:TI Qx0 62 false 1:=⟨⟨_,Tryz.underlying62,rfl⟩,by kernel_rfl⟩
theorem Aki:FI Qx0 64 0 0:=⟨⟨_,_,1,Tryz.underlying64,rfl,rfl,by kernel_rfl,by decide⟩⟩
theorem A5r:ZI Qx0 79 ([Ii6 0,Ii6 0,Ii6 0,Znl]):=Pd (by kernel_rfl)
theorem A6o:PI Qx0 79 [(0,1),(1,1),(2,1),(3,1)]:=Po Tryz.underlying79 (by kernel_rfl) (by kernel_rfl)
theorem A0v:EI Qx0 79 4 48 [Ii6 0,Ii6 0,Ii6 0,Znl]:=Rs (by kernel_rfl) (by decide)
theorem A41:NI Qx0 73:=⟨.inl ⟨_,Tryz.underlying73⟩⟩
theorem Auh:FI Qx0 79 3 3:=⟨⟨_,_,1,Tryz.underlying79,rfl,rfl,by kernel_rfl,by decide⟩⟩
theorem A6a:TI Qx0 77 false 1:=⟨⟨_,Tryz.underlying77,rfl⟩,by kernel_rfl⟩
theorem A1p:ZI Qx0 152 ([Ii6 0,Ii6 0,Ii6 0,Ii6 0,.b false,.b false,Znl,Znl,Znl,Znl,.b false,Ii6 0,.b false,Znl,Znl,Ii6 0]):=Pd (by kernel_rfl)
theorem A14:PI Qx0 152 [(0,11),(11,5)]:=Po Tryz.underlying152 (by kernel_rfl) (by kernel_rfl)
theorem Ayi:EI Qx0 152 16 216 [Ii6 0,Ii6 0,Ii6 0,Ii6 0,.b false,.b false,Znl,Znl,Znl,Znl,.b false,Ii6 0,.b false,Znl,Znl,Ii6 0]:=Rs (by kernel_rfl) (by decide)
theorem A56:NI Qx0 77:=⟨.inl ⟨_,Tryz.underlying77⟩⟩
theorem A5y:(Tryz.prog.info? 77).map (·.size)=some 1:=by kernel_rfl
theorem Ax0:FI Qx0 79 2 2:=⟨⟨_,_,1,Tryz.underlying79,rfl,rfl,by kernel_rfl,by decide⟩⟩
theorem A5p:TI Qx0 79 true 4:=⟨⟨_,Tryz.underlying79,rfl⟩,by kernel_rfl⟩
theorem A5i:FnI Qx0 17:=⟨⟨_,Tryz.func17,by kernel_rfl,by kernel_rfl⟩⟩
theorem A0x:ZI Qx0 55 (Zba):=Pd (by kernel_rfl)
theorem A5d:ZI Qx0 43 ([Znl,Znl,Ii6 0]):=Pd (by kernel_rfl)
theorem A50:PI Qx0 43 [(0,1),(1,1),(2,1)]:=Po Tryz.underlying43 (by kernel_rfl) (by kernel_rfl)
theorem A6h:PI Qx0 55 [(0,3),(3,2),(5,1),(6,1),(7,1)]:=Po Tryz.underlying55 (by kernel_rfl) (by kernel_rfl)
theorem A1v:(Tryz.prog.info? 55).map (·.size)=some 8:=by kernel_rfl
theorem A0c:ZI Qx0 131 ([Znl]):=Pd (by kernel_rfl)
theorem A2w:PI Qx0 131 [(0,1)]:=Po Tryz.underlying131 (by kernel_rfl) (by kernel_rfl)
theorem A2m:(Tryz.prog.info? 131).map (·.size)=some 1:=by kernel_rfl
theorem Aev:FI Qx0 131 0 0:=⟨⟨_,_,1,Tryz.underlying131,rfl,rfl,by kernel_rfl,by decide⟩⟩
theorem Avo:TI Qx0 129 false 1:=⟨⟨_,Tryz.underlying129,rfl⟩,by kernel_rfl⟩
theorem A36:ZI Qx0 137 ([Ii6 0,Znl,.b false]):=Pd (by kernel_rfl)
theorem A1j:PI Qx0 137 [(0,1),(1,1),(2,1)]:=Po Tryz.underlying137 (by kernel_rfl) (by kernel_rfl)
theorem Azc:EI Qx0 137 3 40 [Ii6 0,Znl,.b false]:=Rs (by kernel_rfl) (by decide)
theorem A3z:NI Qx0 129:=⟨.inl ⟨_,Tryz.underlying129⟩⟩
theorem A4b:(Tryz.prog.info? 129).map (·.size)=some 1:=by kernel_rfl
theorem Akl:FI Qx0 55 0 0:=⟨⟨_,_,3,Tryz.underlying55,rfl,rfl,by kernel_rfl,by decide⟩⟩
theorem Ac2:FI Qx0 43 1 1:=⟨⟨_,_,1,Tryz.underlying43,rfl,rfl,by kernel_rfl,by decide⟩⟩
theorem Aw9:TI Qx0 41 false 1:=⟨⟨_,Tryz.underlying41,rfl⟩,by kernel_rfl⟩
theorem A2i:TI Qx0 131 true 1:=⟨⟨_,Tryz.underlying131,rfl⟩,by kernel_rfl⟩
theorem Azo:EI Qx0 131 1 24 [Znl]:=Rs (by kernel_rfl) (by decide)
theorem A5n:NI Qx0 41:=⟨.inl ⟨_,Tryz.underlying41⟩⟩
theorem A57:(Tryz.prog.info? 41).map (·.size)=some 1:=by kernel_rfl
theorem Adz:FI Qx0 55 1 3:=⟨⟨_,_,2,Tryz.underlying55,rfl,rfl,by kernel_rfl,by decide⟩⟩
theorem Ach:FI Qx0 49 0 0:=⟨⟨_,_,1,Tryz.underlying49,rfl,rfl,by kernel_rfl,by decide⟩⟩
theorem Axd:TI Qx0 44 false 1:=⟨⟨_,Tryz.underlying44,rfl⟩,by kernel_rfl⟩
theorem A39:ZI Qx0 140 (Zbb):=Pd (by kernel_rfl)
theorem A2k:PI Qx0 140 [(0,1),(1,1),(2,1),(3,1),(4,1),(5,1),(6,1),(7,1)]:=Po Tryz.underlying140 (by kernel_rfl) (by kernel_rfl)
theorem Axk:EI Qx0 140 8 64 Zbb:=Rs (by kernel_rfl) (by decide)
theorem A58:NI Qx0 44:=⟨.inl ⟨_,Tryz.underlying44⟩⟩
theorem A55:(Tryz.prog.info? 44).map (·.size)=some 1:=by kernel_rfl
theorem Alk:FI Qx0 49 1 1:=⟨⟨_,_,1,Tryz.underlying49,rfl,rfl,by kernel_rfl,by decide⟩⟩
theorem Abw:FI Qx0 47 0 0:=⟨⟨_,_,1,Tryz.underlying47,rfl,rfl,by kernel_rfl,by decide⟩⟩
theorem Axe:TI Qx0 45 false 1:=⟨⟨_,Tryz.underlying45,rfl⟩,by kernel_rfl⟩
theorem A28:ZI Qx0 143 ([Ii6 0,Znl,Znl,.b false]):=Pd (by kernel_rfl)
theorem A32:PI Qx0 143 [(0,1),(1,3)]:=Po Tryz.underlying143 (by kernel_rfl) (by kernel_rfl)
theorem Ayj:EI Qx0 143 4 64 [Ii6 0,Znl,Znl,.b false]:=Rs (by kernel_rfl) (by decide)
theorem A5f:NI Qx0 45:=⟨.inl ⟨_,Tryz.underlying45⟩⟩
theorem A6q:(Tryz.prog.info? 45).map (·.size)=some 1:=by kernel_rfl
theorem Akg:FI Qx0 55 2 5:=⟨⟨_,_,1,Tryz.underlying55,rfl,rfl,by kernel_rfl,by decide⟩⟩
theorem Ace:FI Qx0 52 0 0:=⟨⟨_,_,1,Tryz.underlying52,rfl,rfl,by kernel_rfl,by decide⟩⟩
theorem Axa:TI Qx0 50 false 1:=⟨⟨_,Tryz.underlying50,rfl⟩,by kernel_rfl⟩
theorem A26:ZI Qx0 146 ([Ii6 0,Ii6 0,Ii6 0,Ii6 0]):=Pd (by kernel_rfl)
theorem A31:PI Qx0 146 [(0,1),(1,1),(2,1),(3,1)]:=Po Tryz.underlying146 (by kernel_rfl) (by kernel_rfl)
theorem Ay0:EI Qx0 146 4 32 [Ii6 0,Ii6 0,Ii6 0,Ii6 0]:=Rs (by kernel_rfl) (by decide)
theorem A5v:NI Qx0 50:=⟨.inl ⟨_,Tryz.underlying50⟩⟩
theorem A6s:(Tryz.prog.info? 50).map (·.size)=some 1:=by kernel_rfl
theorem Abp:FI Qx0 55 3 6:=⟨⟨_,_,1,Tryz.underlying55,rfl,rfl,by kernel_rfl,by decide⟩⟩
theorem Aw8:TI Qx0 53 false 1:=⟨⟨_,Tryz.underlying53,rfl⟩,by kernel_rfl⟩
theorem A4d:ZI Qx0 125 ([Znl]):=Pd (by kernel_rfl)
theorem A3b:PI Qx0 125 [(0,1)]:=Po Tryz.underlying125 (by kernel_rfl) (by kernel_rfl)
theorem Avb:ZI Qx0 127 ([Ii6 0,Ii6 0,Ii6 0,Ii6 0,.b false,Znl]):=Pd (by kernel_rfl)
theorem A1c:PI Qx0 127 [(0,1),(1,1),(2,1),(3,1),(4,1),(5,1)]:=Po Tryz.underlying127 (by kernel_rfl) (by kernel_rfl)
theorem Axt:EI Qx0 127 6 64 [Ii6 0,Ii6 0,Ii6 0,Ii6 0,.b false,Znl]:=Rs (by kernel_rfl) (by decide)
theorem A5j:NI Qx0 53:=⟨.inl ⟨_,Tryz.underlying53⟩⟩
theorem A6i:(Tryz.prog.info? 53).map (·.size)=some 1:=by kernel_rfl
theorem A30:TI Qx0 55 true 8:=⟨⟨_,Tryz.underlying55,rfl⟩,by kernel_rfl⟩
theorem A4r:FnI Qx0 15:=⟨⟨_,Tryz.func15,by kernel_rfl,by kernel_rfl⟩⟩
theorem A45:TI Qx0 43 true 3:=⟨⟨_,Tryz.underlying43,rfl⟩,by kernel_rfl⟩
theorem Ahp:FI Qx0 43 0 0:=⟨⟨_,_,1,Tryz.underlying43,rfl,rfl,by kernel_rfl,by decide⟩⟩
theorem A0f:SI Qx0 41 131 1:=⟨Tryz.underlying41,by kernel_rfl,by decide⟩
theorem Aun:FI Qx0 43 2 2:=⟨⟨_,_,1,Tryz.underlying43,rfl,rfl,by kernel_rfl,by decide⟩⟩
theorem Apy:SI Qx0 129 137 3:=⟨Tryz.underlying129,by kernel_rfl,by decide⟩
theorem Azz:TI Qx0 137 true 3:=⟨⟨_,Tryz.underlying137,rfl⟩,by kernel_rfl⟩
theorem Anx:FI Qx0 137 0 0:=⟨⟨_,_,1,Tryz.underlying137,rfl,rfl,by kernel_rfl,by decide⟩⟩
theorem Aqk:FI Qx0 137 2 2:=⟨⟨_,_,1,Tryz.underlying137,rfl,rfl,by kernel_rfl,by decide⟩⟩
theorem Aqh:FI Qx0 137 1 1:=⟨⟨_,_,1,Tryz.underlying137,rfl,rfl,by kernel_rfl,by decide⟩⟩
theorem A13:FnI Qx0 179:=⟨⟨_,Tryz.func179,by kernel_rfl,by kernel_rfl⟩⟩
theorem A3p:FnI Qx0 104:=⟨⟨_,Tryz.func104,by kernel_rfl,by kernel_rfl⟩⟩
theorem A6b:FnI Qx0 41:=⟨⟨_,Tryz.func41,by kernel_rfl,by kernel_rfl⟩⟩
theorem A48:TI Qx0 49 true 2:=⟨⟨_,Tryz.underlying49,rfl⟩,by kernel_rfl⟩
theorem Ayx:SI Qx0 44 140 8:=⟨Tryz.underlying44,by kernel_rfl,by decide⟩
theorem A43:TI Qx0 47 true 1:=⟨⟨_,Tryz.underlying47,rfl⟩,by kernel_rfl⟩
theorem Ay8:SI Qx0 45 143 4:=⟨Tryz.underlying45,by kernel_rfl,by decide⟩
theorem Axs:TI Qx0 143 true 4:=⟨⟨_,Tryz.underlying143,rfl⟩,by kernel_rfl⟩
theorem Ap4:FI Qx0 143 0 0:=⟨⟨_,_,1,Tryz.underlying143,rfl,rfl,by kernel_rfl,by decide⟩⟩
theorem Apc:FI Qx0 143 1 1:=⟨⟨_,_,3,Tryz.underlying143,rfl,rfl,by kernel_rfl,by decide⟩⟩
theorem A24:FnI Qx0 234:=⟨⟨_,Tryz.func234,by kernel_rfl,by kernel_rfl⟩⟩
theorem A2p:FnI Qx0 180:=⟨⟨_,Tryz.func180,by kernel_rfl,by kernel_rfl⟩⟩
theorem A12:FnI Qx0 105:=⟨⟨_,Tryz.func105,by kernel_rfl,by kernel_rfl⟩⟩
theorem Axl:TI Qx0 140 true 8:=⟨⟨_,Tryz.underlying140,rfl⟩,by kernel_rfl⟩
theorem Aqn:FI Qx0 140 0 0:=⟨⟨_,_,1,Tryz.underlying140,rfl,rfl,by kernel_rfl,by decide⟩⟩
theorem Ani:FI Qx0 140 1 1:=⟨⟨_,_,1,Tryz.underlying140,rfl,rfl,by kernel_rfl,by decide⟩⟩
theorem Ap2:FI Qx0 140 2 2:=⟨⟨_,_,1,Tryz.underlying140,rfl,rfl,by kernel_rfl,by decide⟩⟩
theorem Ap6:FI Qx0 140 3 3:=⟨⟨_,_,1,Tryz.underlying140,rfl,rfl,by kernel_rfl,by decide⟩⟩
theorem Aoz:FI Qx0 140 4 4:=⟨⟨_,_,1,Tryz.underlying140,rfl,rfl,by kernel_rfl,by decide⟩⟩
theorem Apt:FI Qx0 140 5 5:=⟨⟨_,_,1,Tryz.underlying140,rfl,rfl,by kernel_rfl,by decide⟩⟩
theorem Apv:FI Qx0 140 6 6:=⟨⟨_,_,1,Tryz.underlying140,rfl,rfl,by kernel_rfl,by decide⟩⟩
theorem Acg:FI Qx0 140 7 7:=⟨⟨_,_,1,Tryz.underlying140,rfl,rfl,by kernel_rfl,by decide⟩⟩
theorem A3y:FnI Qx0 106:=⟨⟨_,Tryz.func106,by kernel_rfl,by kernel_rfl⟩⟩
theorem A5u:FnI Qx0 42:=⟨⟨_,Tryz.func42,by kernel_rfl,by kernel_rfl⟩⟩
theorem A4v:TI Qx0 52 true 1:=⟨⟨_,Tryz.underlying52,rfl⟩,by kernel_rfl⟩
theorem Ayh:SI Qx0 50 146 4:=⟨Tryz.underlying50,by kernel_rfl,by decide⟩
theorem Axn:TI Qx0 146 true 4:=⟨⟨_,Tryz.underlying146,rfl⟩,by kernel_rfl⟩
theorem A17:EqT Qx0 146 [0,0,0,0]:=⟨by kernel_rfl,by kernel_rfl,by kernel_rfl,by kernel_rfl⟩
theorem A6t:FnI Qx0 43:=⟨⟨_,Tryz.func43,by kernel_rfl,by kernel_rfl⟩⟩
theorem At6:FI Qx0 55 4 7:=⟨⟨_,_,1,Tryz.underlying55,rfl,rfl,by kernel_rfl,by decide⟩⟩
theorem Az6:SI Qx0 53 127 6:=⟨Tryz.underlying53,by kernel_rfl,by decide⟩
theorem Ax8:TI Qx0 127 true 6:=⟨⟨_,Tryz.underlying127,rfl⟩,by kernel_rfl⟩
theorem Azd:(Tryz.prog.info? 127).map (·.size)=some 6:=by kernel_rfl
theorem Ank:FI Qx0 127 0 0:=⟨⟨_,_,1,Tryz.underlying127,rfl,rfl,by kernel_rfl,by decide⟩⟩
theorem Ap7:FI Qx0 127 1 1:=⟨⟨_,_,1,Tryz.underlying127,rfl,rfl,by kernel_rfl,by decide⟩⟩
theorem Aow:FI Qx0 127 2 2:=⟨⟨_,_,1,Tryz.underlying127,rfl,rfl,by kernel_rfl,by decide⟩⟩
theorem An1:FI Qx0 127 3 3:=⟨⟨_,_,1,Tryz.underlying127,rfl,rfl,by kernel_rfl,by decide⟩⟩
theorem Aok:FI Qx0 127 4 4:=⟨⟨_,_,1,Tryz.underlying127,rfl,rfl,by kernel_rfl,by decide⟩⟩
theorem An8:FI Qx0 127 5 5:=⟨⟨_,_,1,Tryz.underlying127,rfl,rfl,by kernel_rfl,by decide⟩⟩
theorem Ap9:FI Qx0 125 0 0:=⟨⟨_,_,1,Tryz.underlying125,rfl,rfl,by kernel_rfl,by decide⟩⟩
theorem A5t:FnI Qx0 44:=⟨⟨_,Tryz.func44,by kernel_rfl,by kernel_rfl⟩⟩
theorem A5o:FnI Qx0 14:=⟨⟨_,Tryz.func14,by kernel_rfl,by kernel_rfl⟩⟩
theorem A4y:FnI Qx0 21:=⟨⟨_,Tryz.func21,by kernel_rfl,by kernel_rfl⟩⟩
theorem A6l:FnI Qx0 20:=⟨⟨_,Tryz.func20,by kernel_rfl,by kernel_rfl⟩⟩
def Fa (a0:List UInt8):Option Bool :=
 if (decide (1<=(a0.length:Int))) then(some (decide ((a0.length:Int)<=16))) else(some false)
theorem Pz {a0:List UInt8} {r:Bool} (h:Fa a0=some r):Bt Qx0 62 [.one (SL a0 eU8)] (·=L7 (.b r)):=by
 unfold Fa at h
 refine A1 Tryz.func62 R (nt:=11) R (Nbl R) ?_
 intro w0 S0
 refine csr (rm 1 R (Ah (csr (rm 1 R (sv R (Ap Aa5 R) (sv R (Ii R R) (rm 1 R (ssI 6 h R (λh=>?_) (λh=>?_)))))))))
 ·refine rm 1 R (son R R R (sv R (Ap Aa5 R) (son R R R (sv R (Dk R R) (rm 2 R (Ah (Bq ?_)))))))
  obtain rfl:=SJ h
  exact dnT R R R R
 ·refine rm 5 R (Ah (Bq ?_))
  obtain rfl:=SJ h
  exact dnT R R R R
def Da (a0:A7):Option Bool :=
 (Fa a0.Key).bind λv1=>if v1 then(if (decide ((a0.Val.length:Int)<=32)) then(if a0.Del then(some (!(decide (0<(a0.Val.length:Int))))) else(some true)) else(some false)) else(some false)
theorem Qi {a0:A7} {r:Bool} (h:Da a0=some r):Bt Qx0 124 [.agg (EL.el a0)] (·=L7 (.b r)):=by
 unfold Da at h
 refine A1 Tryz.func124 R (nt:=23) R (Nbl R) ?_
 intro w0 S0
 refine csr (Er R R (rm 1 R (Ah (csr (sv R (Aa Tn R) (sv R (l1 L3 R R R) ?_))))))
 obtain⟨v1,hv1,h⟩:=Ae h
 refine Bb R A01 (Ac R Ag) (Ao R) (Pz hv1) (rm 1 R (ssI 6 h R (λh=>?_) (λh=>?_)))
 ·refine son R R R (sv R (Aa Y0 R) (son R R R (sv R (l1 L3 R R R) (son R R R (sv R (Ap Aa5 R) (son R R R (sv R (Dk R R) (rm 2 R (ssI 12 h R (λh=>?_) (λh=>?_))))))))))
  ·refine son R R R (sv R (Aa Abr R) (son R R R (sv R (l1 ti4 R R R) (rm 1 R (ssI 15 h R (λh=>?_) (λh=>?_))))))
   ·refine son R R R (sv R (Aa Y0 R) (son R R R (sv R (l1 L3 R R R) (son R R R (sv R (Ap Aa5 R) (son R R R (sv R (Dr R R) (rm 1 R (son R R R (sv R (Bz R) (rm 2 R (Ah (Bq ?_)))))))))))))
    obtain rfl:=SJ h
    exact dnT R R R R
   ·refine rm 5 R (son R R R (sv R (Bz R) (rm 2 R (Ah (Bq ?_)))))
    obtain rfl:=SJ h
    exact dnT R R R R
  ·refine rm 3 R (Cp R R R (Cp R R R (Cp R R R (Cp R R R (rm 4 R (Ah (Bq ?_)))))))
   obtain rfl:=SJ h
   exact dnT R R R R
 ·refine rm 9 R (Cp R R R (Cp R R R (Cp R R R (Cp R R R (rm 4 R (Ah (Bq ?_)))))))
  obtain rfl:=SJ h
  exact dnT R R R R
def Nb (b1:(List (List UInt8))):Option (List (List UInt8)) :=
 some b1
def Gh (a0:B7) (s2:Int×(List (List UInt8))):Option (LB (Int×(List (List UInt8))) ((List (List UInt8)))) :=
 if (decide (s2.1<(a0.L.length:Int))) then((idx a0.L s2.1).bind λu3=>if (s2.2.length+[u3.Key].length)*24<=140737488355328 then(some (.cont ((wI (s2.1+1)),(s2.2++[u3.Key])))) else none) else(some (.brk s2.2))
def Fc (a0:B7):Option (List (List UInt8)) :=
 (Cz (Gh a0) fuel (0,([]:List (List UInt8)))).bind λe5=>Nb e5
theorem Sd {a0:B7} {r:(List (List UInt8))} (h:Fc a0=some r):Bt Qx0 125 [.agg [SL a0.L A5]] (·=L7 (SL r (eL eU8))):=by
 unfold Fc at h
 refine A1 Tryz.func125 R (nt:=20) R (Nbl R) ?_
 intro w0 S0
 refine csr (Er R R (rm 1 R (Ah (csr (rm 1 R (Ah (Bj (csr (fl Xn Am4 R R R R R R (sv R (Ap Zh R) (rm 1 R (Ah ?_))))))))))))
 refine Dl 56 1 3 (by decide) R ?_
 refine cj ((List (List UInt8))) (λb1=>[(3,L7 (.ls 1 b1.length))]) (λb1=>[.box [SL a0.L A5],.arr 56 1 0 (b1.flatMap (eL eU8))]) (λb1=>Nb b1=some r) (λ_=>R) (λb1 h=>?_) ?_
 ·unfold Nb at h
  refine csr (rm 2 R (Ah (Bq ?_)))
  obtain rfl:=SJ h
  refine⟨Or.inr R,_,_,_,(Ad (rt R) Aj),(by(repeat' first|exact Ho.nil _|apply Ho.cons|apply Hl.one|apply Hl.agg|exact C5.nil|exact C5.ls _ _ _ _ _ _ R (Aw (f:=(eL eU8)) (λ_=>R) _).symm|exact C5.id _ R|exact Cv.nil _|apply Cv.cons)),?_⟩
  rfl
 ·skip
  refine Bl ?_
  obtain⟨x2,hx2,ho2⟩:=Ae h
  refine lpo (G:=Nat×(Int×(List (List UInt8)))) (λg=>[(3,L7 (.ls 1 g.2.2.length)),(7,L7 (SL a0.L A5)),(8,L7 (Ii6 (a0.L.length:Int))),(9,L7 (Ii6 g.2.1))]) (λg=>[.box [SL a0.L A5],.arr 56 1 0 (g.2.2.flatMap (eL eU8))]) (λg=>Cz (Gh a0) g.1 g.2=some x2) (λg=>g.1) (fuel,(0,([]:List (List UInt8)))) hx2 ⟨R,R,R,R,trivial⟩ [] R (λ_=>R) ?_
  clear hx2 h
  rintro⟨n2,s2⟩ h
  obtain⟨n2,y2,rfl,h,hk2⟩:=Cw h
  unfold Gh at h
  refine csr (sv R (Bv R R) (Ah (Bj (ccI h R (λh=>?_) (λh=>?_)))))
  ·refine Bf (Ab (Bj (Bl (Bj (Au ?_)))))
   obtain⟨u3,hu3,h⟩:=Ae h
   refine sv R (B4 (f:=A5) Zh (λ_=>R) R R R R hu3) ?_
   refine sv R (Bs (ys:=[SL u3.Key eU8,SL u3.Val eU8,.b u3.Del]) Aij R (.cp _) R R) (Br R Aml (sst Ao8 R R R R R (Ah (Au (rm 1 R (sv R (Aa Tn R) (sv R (l1 L3 R R R) ?_)))))))
   refine D7 R Tryz.underlying25 Aid R R (zI.1 R) (by decide) ?_
   refine Ql [.box [SL a0.L A5],.arr 56 1 0 (s2.2.flatMap (eL eU8)),.box (EL.el u3),.arr 56 1 0 ([u3.Key].flatMap (eL eU8))] R ?_
   obtain⟨hb4,h⟩:=Cs h
   refine U1 (f:=(eL eU8)) (xs:=s2.2) (us:=[u3.Key]) R Tryz.underlying25 Aid Av5 (λ_=>R) R R (.one _ _ _ _ (.ls _ _ _ _ _ _ R (Aw (f:=(eL eU8)) (λ_=>R) [u3.Key]).symm)) R R R (.sl _ _ _ (Aw (f:=(eL eU8)) (λ_=>R) _)) R R hb4 (by decide) ?_
   refine rm 1 R (Jb (Ar (Ab (Au (sv R (Bp R R) (rm 1 R (Ah ?_)))))))
   obtain rfl:=SJ h
   exact⟨(n2,((wI (s2.1+1)),(s2.2++[u3.Key]))),_,hk2,⟨R,R,R,R,trivial⟩,R,zG _⟩
  ·refine C3 (As (As (Bi (Ab ?_))))
   obtain rfl:=SJ h
   obtain rfl:_=x2:=hk2
   exact⟨s2.2,_,ho2,⟨R,trivial⟩,R⟩
def P2 (a0:List UInt8) (a1:List UInt8):Option Int :=
 some (Gm a0 a1)
theorem W0 {a0:List UInt8} {a1:List UInt8} {r:Int} (h:P2 a0 a1=some r):Bt Qx0 219 [.one (SL a0 eU8),.one (SL a1 eU8)] (·=L7 (Ii6 r)):=by
 unfold P2 at h
 refine A1 Tryz.func219 R (nt:=8) R (Nbl R) ?_
 intro w0 S0
 refine csr (rm 1 R (Ah (csr (rm 2 R (sv R (Atp (a:=a0) (b:=a1) A0o R R R R R R) (rm 1 R (Ah (Bq ?_))))))))
 obtain rfl:=SJ h
 exact dnT R R R R
def Jp (a0:List UInt8) (a1:List UInt8):Option Int :=
 (P2 a0 a1).bind λv1=>some v1
theorem Ns {a0:List UInt8} {a1:List UInt8} {r:Int} (h:Jp a0 a1=some r):Bt Qx0 150 [.one (SL a0 eU8),.one (SL a1 eU8)] (·=L7 (Ii6 r)):=by
 unfold Jp at h
 refine A1 Tryz.func150 R (nt:=8) R (Nbl R) ?_
 intro w0 S0
 refine csr (rm 1 R (Ah (csr (rm 1 R (sv R (Az R) ?_)))))
 obtain⟨v1,hv1,h⟩:=Ae h
 refine Bb R A2l (Ac R (Ac R Ag)) (Ao R) (W0 hv1) (rm 1 R (Ah (Bq ?_)))
 obtain rfl:=SJ h
 exact dnT R R R R
def Pi (b1:Unit):Option Bool :=
 some true
def Cu (a0:List (List UInt8)) (s2:Int):Option (LR (Int) (Unit) (Bool)) :=
 if (decide (s2<(a0.length:Int))) then((idx a0 (wI (s2-1))).bind λu3=>(idx a0 s2).bind λu4=>(Jp u3 u4).bind λv5=>if (decide (0<=v5)) then(some (.ret false)) else(some (.cont (wI (s2+1))))) else(some (.brk ()))
def Cr (a0:List (List UInt8)):Option Bool :=
 (Iz (Cu a0) fuel 1).bind λx=>match x with | .inl r=>some r | .inr e6=>Pi e6
theorem Mu {a0:List (List UInt8)} {r:Bool} (h:Cr a0=some r):Bt Qx0 181 [.one (SL a0 (eL eU8))] (·=L7 (.b r)):=by
 unfold Cr at h
 refine A1 Tryz.func181 R (nt:=21) R (Nbl R) ?_
 intro w0 S0
 refine csr (rm 1 R (Ah (Bj (csr (rm 1 R (Ah (cj (Unit) (λb1=>[]) (λb1=>[]) (λb1=>Pi b1=some r) (λ_=>R) (λb1 h=>?_) ?_)))))))
 ·unfold Pi at h
  refine csr (rm 1 R (Ah (Bq ?_)))
  obtain rfl:=SJ h
  exact dnT R R R R
 ·skip
  refine Bl ?_
  obtain⟨x2,hx2,ho2⟩:=Ae h
  refine lpo (G:=Nat×(Int)) (λg=>[(0,L7 (SL a0 (eL eU8))),(3,L7 (Ii6 g.2))]) (λg=>[]) (λg=>Iz (Cu a0) g.1 g.2=some x2) (λg=>g.1) (fuel,1) hx2 ⟨R,R,trivial⟩ [] R (λ_=>R) ?_
  clear hx2 h
  rintro⟨n2,s2⟩ h
  obtain⟨n2,y2,rfl,h,hk2⟩:=Dj h
  unfold Cu at h
  refine Bj (csr (rm 2 R (sv R (Ap Se R) (sv R (Bv R R) (Ah (ccI h R (λh=>?_) (λh=>?_)))))))
  ·refine Bf (Ab (Bj (Bl (Bj ?_))))
   refine Ue mixed (by kernel_rfl) ?_
   refine dv R (Az R) (dv R (Az R) (dv R (Ph R R) ?_))
   obtain⟨u3,hu3,h⟩:=Ae h
   refine dv R (B4 (f:=(eL eU8)) Se (λ_=>R) R R R R hu3) ?_
   refine dv R (B0 L3 R (.cp _) R) (dv R (Az R) (dv R (Az R) ?_))
   obtain⟨u4,hu4,h⟩:=Ae h
   refine dv R (B4 (f:=(eL eU8)) Se (λ_=>R) R R R R hu4) ?_
   refine dv R (B0 L3 R (.cp _) R) ?_
   obtain⟨v5,hv5,h⟩:=Ae h
   refine dd R (Cm Ao7 (Ac R (Ac R Ag)) R (Ns hv5)) (dv R (Ii R R) (U8 (Ab (ccI h R (λh=>?_) (λh=>?_)))))
   ·refine csr (rm 1 R (Ah (Bq (Av (Af (Af (Av (Af ?_))))))))
    obtain rfl:=SJ h
    obtain rfl:Sum.inl _=x2:=hk2
    replace ho2:some _=some _:=ho2
    obtain rfl:=zD ho2
    exact dnT R R R R
   ·refine Bf (Ar (Ab (Au (rm 1 R (sv R (Bp R R) (rm 1 R (Ah ?_)))))))
    obtain rfl:=SJ h
    exact⟨(n2,(wI (s2+1))),_,hk2,⟨R,R,trivial⟩,R,zG _⟩
  ·refine C3 (As (As (Bi (Ab ?_))))
   obtain rfl:=SJ h
   obtain rfl:_=x2:=hk2
   exact⟨(),_,ho2,trivial,R⟩
def Ij (a0:B7) (b1:Unit):Option Bool :=
 if (decide ((a0.L.length:Int)<=16)) then((Fc a0).bind λv2=>(Cr v2).bind λv3=>some v3) else(some false)
def F0 (a0:B7) (s4:Int):Option (LR (Int) (Unit) (Bool)) :=
 if (decide (s4<(a0.L.length:Int))) then((idx a0.L s4).bind λu5=>(Da u5).bind λv6=>if (!v6) then(some (.ret false)) else(some (.cont (wI (s4+1))))) else(some (.brk ()))
def Ft (a0:B7):Option Bool :=
 (Iz (F0 a0) fuel 0).bind λx=>match x with | .inl r=>some r | .inr e7=>Ij a0 e7
theorem Py {a0:B7} {r:Bool} (h:Ft a0=some r):Bt Qx0 119 [.agg [SL a0.L A5]] (·=L7 (.b r)):=by
 unfold Ft at h
 refine A1 Tryz.func119 R (nt:=25) R (Nbl R) ?_
 intro w0 S0
 refine csr (Er R R (rm 1 R (Ah (Bj (csr (fl Xn Am4 R R R R R R (sv R (Ap Zh R) (rm 1 R (Ah (cj (Unit) (λb1=>[(1,L7 (.lp 0 0))]) (λb1=>[.box [SL a0.L A5]]) (λb1=>Ij a0 b1=some r) (λ_=>R) (λb1 h=>?_) ?_))))))))))
 ·unfold Ij at h
  refine csr (fl Xn Am4 R R R R R R (sv R (Ap Zh R) (sv R (Dk R R) (rm 1 R (ssI 20 h R (λh=>?_) (λh=>?_))))))
  ·refine son R R R (ld Ajb R R R R (son R R R ?_))
   obtain⟨v2,hv2,h⟩:=Ae h
   refine Bb R Ayq (Ac R Ag) (Ao R) (Sd hv2) (son R R R ?_)
   obtain⟨v3,hv3,h⟩:=Ae h
   refine Bb R Asb (Ac R Ag) (Ao R) (Mu hv3) (rm 2 R (Ah (Bq ?_)))
   obtain rfl:=SJ h
   exact dnT R R R R
  ·refine rm 5 R (Ah (Bq ?_))
   obtain rfl:=SJ h
   exact dnT R R R R
 ·skip
  refine Bl ?_
  obtain⟨x4,hx4,ho4⟩:=Ae h
  refine lpo (G:=Nat×(Int)) (λg=>[(1,L7 (.lp 0 0)),(6,L7 (SL a0.L A5)),(7,L7 (Ii6 (a0.L.length:Int))),(8,L7 (Ii6 g.2))]) (λg=>[.box [SL a0.L A5]]) (λg=>Iz (F0 a0) g.1 g.2=some x4) (λg=>g.1) (fuel,0) hx4 ⟨R,R,R,R,trivial⟩ [] R (λ_=>R) ?_
  clear hx4 h
  rintro⟨n4,s4⟩ h
  obtain⟨n4,y4,rfl,h,hk4⟩:=Dj h
  unfold F0 at h
  refine csr (sv R (Bv R R) (Ah (Bj (ccI h R (λh=>?_) (λh=>?_)))))
  ·refine Bf (Ab (Bj (Bl (Bj (Au ?_)))))
   obtain⟨u5,hu5,h⟩:=Ae h
   refine sv R (B4 (f:=A5) Zh (λ_=>R) R R R R hu5) ?_
   refine sv R (Bs (ys:=[SL u5.Key eU8,SL u5.Val eU8,.b u5.Del]) Aij R (.cp _) R R) (Br R Aml (sst Ao8 R R R R R (Ah (csr (sv R (lo Aij R R R) ?_)))))
   obtain⟨v6,hv6,h⟩:=Ae h
   refine Bb R Ayv (Ac R Ag) (Ao R) (Qi hv6) (sv R (Bz R) (Ah (ccI h R (λh=>?_) (λh=>?_))))
   ·refine csr (rm 1 R (Ah (Bq (Av (Af (Af (Av (Af ?_))))))))
    obtain rfl:=SJ h
    obtain rfl:Sum.inl _=x4:=hk4
    replace ho4:some _=some _:=ho4
    obtain rfl:=zD ho4
    exact dnT R R R R
   ·refine Bf (Ar (Ab (Au (sv R (Bp R R) (rm 1 R (Ah ?_))))))
    obtain rfl:=SJ h
    exact⟨(n4,(wI (s4+1))),_,hk4,⟨R,R,R,R,trivial⟩,R,zG _⟩
  ·refine C3 (As (As (Bi (Ab ?_))))
   obtain rfl:=SJ h
   obtain rfl:_=x4:=hk4
   exact⟨(),_,ho4,⟨R,trivial⟩,R⟩
def D8 (b1:(List (List UInt8))):Option Bool :=
 (Cr b1).bind λv2=>some v2
def D6 (a0:List B8) (s3:Int×(List (List UInt8))):Option (LB (Int×(List (List UInt8))) ((List (List UInt8)))) :=
 if (decide (s3.1<(a0.length:Int))) then((idx a0 s3.1).bind λu4=>if (s3.2.length+[u4.Key].length)*24<=140737488355328 then(some (.cont ((wI (s3.1+1)),(s3.2++[u4.Key])))) else none) else(some (.brk s3.2))
def Fz (a0:List B8):Option Bool :=
 (Cz (D6 a0) fuel (0,([]:List (List UInt8)))).bind λe6=>D8 e6
theorem Xy {a0:List B8} {r:Bool} (h:Fz a0=some r):Bt Qx0 120 [.one (SL a0 Ca)] (·=L7 (.b r)):=by
 unfold Fz at h
 refine A1 Tryz.func120 R (nt:=20) R (Nbl R) ?_
 intro w0 S0
 refine csr (rm 1 R (Ah (csr (rm 1 R (Ah (Bj (csr (rm 1 R (sv R (Ap Aky R) (rm 1 R (Ah ?_)))))))))))
 refine Dl 56 1 3 (by decide) R ?_
 refine cj ((List (List UInt8))) (λb1=>[(3,L7 (.ls 0 b1.length))]) (λb1=>[.arr 56 1 0 (b1.flatMap (eL eU8))]) (λb1=>D8 b1=some r) (λ_=>R) (λb1 h=>?_) ?_
 ·unfold D8 at h
  refine csr (sv R (Az R) ?_)
  refine Aif 18 R (by(repeat' first|exact Ho.nil _|apply Ho.cons|apply Hl.one|apply Hl.agg|exact C5.nil|exact C5.ls _ _ _ _ _ _ R (Aw (f:=(eL eU8)) (λ_=>R) _).symm|exact C5.id _ R|exact Cv.nil _|apply Cv.cons)) ?_
  obtain⟨v2,hv2,h⟩:=Ae h
  refine Bb R Asb (Ac R Ag) (Ao R) (Mu hv2) (rm 1 R (Ah (Bq ?_)))
  obtain rfl:=SJ h
  exact dnT R R R R
 ·skip
  refine Bl ?_
  obtain⟨x3,hx3,ho3⟩:=Ae h
  refine lpo (G:=Nat×(Int×(List (List UInt8)))) (λg=>[(3,L7 (.ls 0 g.2.2.length)),(6,L7 (SL a0 Ca)),(7,L7 (Ii6 (a0.length:Int))),(8,L7 (Ii6 g.2.1))]) (λg=>[.arr 56 1 0 (g.2.2.flatMap (eL eU8))]) (λg=>Cz (D6 a0) g.1 g.2=some x3) (λg=>g.1) (fuel,(0,([]:List (List UInt8)))) hx3 ⟨R,R,R,R,trivial⟩ [] R (λ_=>R) ?_
  clear hx3 h
  rintro⟨n3,s3⟩ h
  obtain⟨n3,y3,rfl,h,hk3⟩:=Cw h
  unfold D6 at h
  refine csr (sv R (Bv R R) (Ah (Bj (ccI h R (λh=>?_) (λh=>?_)))))
  ·refine Bf (Ab (Bj (Bl (Bj (Au ?_)))))
   obtain⟨u4,hu4,h⟩:=Ae h
   refine sv R (B4 (f:=Ca) Aky (λ_=>R) R R R R hu4) ?_
   refine sv R (Bs (ys:=[SL u4.Key eU8,SL u4.Val eU8]) Ase R (.cp _) R R) (Br R Ang (sst Avh R R R R R (Ah (Au (rm 1 R (sv R (Aa Aby R) (sv R (l1 L3 R R R) ?_)))))))
   refine D7 R Tryz.underlying25 Aid R R (zI.1 R) (by decide) ?_
   refine Ql [.arr 56 1 0 (s3.2.flatMap (eL eU8)),.box (EL.el u4),.arr 56 1 0 ([u4.Key].flatMap (eL eU8))] R ?_
   obtain⟨hb5,h⟩:=Cs h
   refine U1 (f:=(eL eU8)) (xs:=s3.2) (us:=[u4.Key]) R Tryz.underlying25 Aid Av5 (λ_=>R) R R (.one _ _ _ _ (.ls _ _ _ _ _ _ R (Aw (f:=(eL eU8)) (λ_=>R) [u4.Key]).symm)) R R R (.sl _ _ _ (Aw (f:=(eL eU8)) (λ_=>R) _)) R R hb5 (by decide) ?_
   refine rm 1 R (Jb (Ar (Ab (Au (sv R (Bp R R) (rm 1 R (Ah ?_)))))))
   obtain rfl:=SJ h
   exact⟨(n3,((wI (s3.1+1)),(s3.2++[u4.Key]))),_,hk3,⟨R,R,R,R,trivial⟩,R,zG _⟩
  ·refine C3 (As (As (Bi (Ab ?_))))
   obtain rfl:=SJ h
   obtain rfl:_=x3:=hk3
   exact⟨s3.2,_,ho3,⟨R,trivial⟩,R⟩
def Hp (a0:Bh) (a1:List UInt8):Option Bool :=
 (Jp a1 a0.Lo).bind λv1=>if (decide (0<=v1)) then(if a0.Open then(some true) else((Jp a1 a0.Hi).bind λv2=>some (decide (v2<0)))) else(some false)
theorem N0 {a0:Bh} {a1:List UInt8} {r:Bool} (h:Hp a0 a1=some r):Bt Qx0 121 [.agg (EL.el a0),.one (SL a1 eU8)] (·=L7 (.b r)):=by
 unfold Hp at h
 refine A1 Tryz.func121 R (nt:=21) R (Nbl R) ?_
 intro w0 S0
 refine csr (Er R R (rm 1 R (Ah (csr (rm 1 R (sv R (Aa Aai R) (sv R (l1 L3 R R R) ?_)))))))
 obtain⟨v1,hv1,h⟩:=Ae h
 refine Bb R Ao7 (Ac R (Ac R Ag)) (Ao R) (Ns hv1) (sv R (Ii R R) (rm 1 R (ssI 10 h R (λh=>?_) (λh=>?_))))
 ·refine son R R R (sv R (Aa Ad5 R) (son R R R (sv R (l1 ti4 R R R) (rm 1 R (ssI 13 h R (λh=>?_) (λh=>?_))))))
  ·refine rm 8 R (Ah (Bq ?_))
   obtain rfl:=SJ h
   exact dnT R R R R
  ·refine rm 1 R (son R R R (sv R (Aa Xh R) (son R R R (sv R (l1 L3 R R R) (son R R R ?_)))))
   obtain⟨v2,hv2,h⟩:=Ae h
   refine Bb R Ao7 (Ac R (Ac R Ag)) (Ao R) (Ns hv2) (son R R R (sv R (Bv R R) (rm 3 R (Ah (Bq ?_)))))
   obtain rfl:=SJ h
   exact dnT R R R R
 ·refine rm 3 R (Cp R R R (Cp R R R (Cp R R R (Cp R R R (Cp R R R (rm 3 R (Ah (Bq ?_))))))))
  obtain rfl:=SJ h
  exact dnT R R R R
def kvk (x:B8):List UInt8:=x.Key
def kB (x:B8):ByteArray:=⟨x.Key.toArray⟩
theorem Af4 {t:List B8} {j:Nat} {k:List UInt8} (h:(t.map kB)[j]? = some ⟨k.toArray⟩):(t.map kvk)[j]? = some k:=by
 rw[zP] at h ⊢
 cases ht:t[j]? with
 | none=>rw[ht] at h;cases h
 | some x =>
  rw[ht] at h
  have h1:(⟨x.Key.toArray⟩:ByteArray)=⟨k.toArray⟩:=zD h
  have h2:x.Key.toArray=k.toArray:=congrArg ByteArray.data h1
  have h3:x.Key=k:=by have:=congrArg Array.toList h2;simpa using this
  rw[xC];exact congrArg some h3
theorem Ap5 {t:List B8} {k:List UInt8} (h:(⟨k.toArray⟩:ByteArray)∉t.map kB):k∉t.map kvk:=λhk=>by
 obtain⟨x,hx,rfl⟩:=yN.1 hk
 exact h (yN.2 ⟨x,hx,R⟩)
theorem Ats {t:List B8} {j:Nat} {x:B8} (h:(t.map kvk)[j]? = some (kvk x)):(t.set j x).map kB=t.map kB:=by
 rw[kH]
 apply xY
 intro i
 rw[w7]
 by_cases hij:j=i
 ·subst hij
  rw[zP] at h ⊢
  cases ht:t[j]? with
  | none=>rw[ht] at h;cases h
  | some y =>
   rw[ht] at h
   have h2:y.Key=x.Key:=zD h
   have hlt:j<t.length:=(zC.1 ht).1
   rw[if_pos rfl,if_pos (by simpa using hlt),xC]
   show some (ByteArray.mk x.Key.toArray)=some (ByteArray.mk y.Key.toArray)
   rw[h2]
 ·rw[if_neg hij]
theorem Ax3 {W:World} {S:Cq} {a b:List UInt8} {va vb:Value} (h1:Rep W S (.sl a.length (a.flatMap eU8)) va) (h2:Rep W S (.sl b.length (b.flatMap eU8)) vb):(callFunc 259 #[va,vb]).run Tryz.prog W=.ok (.value (.int .i64 (Gm a b))) W:=by
 rw[<- Anp] at h1 h2
 obtain⟨fn,q1,q2,q3,q4,q5⟩:=A0o.h
 have hrun:(Extern.BytealgCompare.compare #[va,vb]).run Tryz.prog W=.ok (.int .i64 (Gm a b)) W:=by
  change Sem.run Tryz.prog (do
   let p <- Extern.Bytes.bytesOf va
   let q <- Extern.Bytes.bytesOf vb
   pure (goInt (Extern.BytealgCompare.cmp p q))) W=_
  simp only[Sem.run_bind,Vg h1,Vg h2,Result.andThen_ok,Aum,Sem.run_pure]
  rfl
 have hcall:=run_callFunc_extern (P:=Tryz.prog) q1 q2 q3 q4 q5 #[va,vb] W
 rw[hrun] at hcall
 simpa using hcall
theorem Awp {W:World} {S:Cq} {a b:List UInt8} {va vb:Value} (h1:Rep W S (.sl a.length (a.flatMap eU8)) va) (h2:Rep W S (.sl b.length (b.flatMap eU8)) vb):Calls Tryz.prog 219 #[va,vb] W λe w'=>e=.returned (.int .i64 (Gm a b))/\w'=W:=by
 have hx:=Ax3 h1 h2
 generalize Gm a b=r at hx ⊢
 clear h1 h2
 go_enter Tryz.func219,Tryz.ntmps219
 go_wp2
 go_ret
 exact⟨R,R⟩
theorem Av9 {W:World} {S:Cq} {a b:List UInt8} {va vb:Value} (h1:Rep W S (.sl a.length (a.flatMap eU8)) va) (h2:Rep W S (.sl b.length (b.flatMap eU8)) vb):Calls Tryz.prog 150 #[va,vb] W λe w'=>e=.returned (.int .i64 (Gm a b))/\w'=W:=by
 have hcon:=Awp h1 h2
 generalize Gm a b=r at hcon ⊢
 clear h1 h2
 go_enter Tryz.func150,Tryz.ntmps150
 go_wp2_with (go_at_call 219;refine hcon.mono ?_;rintro e w' ⟨rfl,rfl⟩)
 go_ret
 exact⟨R,R⟩
set_option maxHeartbeats 1000000 in
theorem Axx {W:World} {S:Cq} {a b:List UInt8} {va vb ua ub:Value} (hS:∀ b i,S b i->b<W.heap.size) (h1:Rep W S (.sl a.length (a.flatMap eU8)) va) (h2:Rep W S (.sl b.length (b.flatMap eU8)) vb) (oc:ua.oneCell'=true) (od:ub.oneCell'=true) :
  Calls Tryz.prog 123 #[.agg #[va,ua],.agg #[vb,ub]] W λe w'=>e=.returned (.int .i64 (Gm a b))/\∃ q os',w'=Go.Sort.grow (W.drewN q) os':=by
 have oa:=h1.oneCell
 have ob:=h2.oneCell
 have hcon:∀ o1 o2:Obj,Calls Tryz.prog 150 #[va,vb] ((W.alloc o1).alloc o2) λe w'=>e=.returned (.int .i64 (Gm a b))/\w'=(W.alloc o1).alloc o2:=λo1 o2=>by
  have k1:∀ b i,S b i->S b i/\((W.alloc o1).alloc o2).cell? ⟨b,i,none⟩=W.cell? ⟨b,i,none⟩:=λb i hs =>
   ⟨hs,World.cell?_of_block (w:=W) ((Below.heap_alloc _ o2 b (by have:=hS b i hs;simp;omega)).trans (Below.heap_alloc W o1 b (hS b i hs)))⟩
  exact Av9 (h1.mono k1) (h2.mono k1)
 generalize Gm a b=r at hcon ⊢
 clear h1 h2
 go_enter Tryz.func123,Tryz.ntmps123
 go_wp2_with (go_at_call 150;refine(hcon _ _).mono ?_;rintro e w' ⟨rfl,rfl⟩)
 go_ret
 exact⟨rfl,0,_,by rw[Go.Sort.alloc_eq_grow,Go.Sort.alloc_eq_grow,Go.Sort.grow_grow];rfl⟩
def Ad6:Go.Shelf.Ren:=⟨λ| 6=>122|15=>191|14=>190|28=>246|29=>247|20=>238|21=>239|22=>240|23=>241|24=>242|25=>243|26=>244|27=>245|46=>262|47=>263|48=>264|49=>265|50=>266|57=>277|n=>n,λ| 22=>61|24=>157|25=>235|3=>3|39=>307|0=>0|53=>365|55=>367|4=>4|46=>359|45=>358|50=>177|5=>5|9=>9|66=>389|70=>393|76=>404|77=>405|n=>n,λ| n=>n⟩
theorem Az3:Go.Proofs.SlLaysF0.n6 Qx0 Ad6:={
 mixed:=by kernel_rfl,
 f6 :=⟨ "slices.SortFunc[[]godwit/api.KV,godwit/api.KV]", by decide, Tryz.func122.trans (congrArg some (by kernel_rfl))⟩,
 f14 :=⟨ "slices.pdqsortCmpFunc[godwit/api.KV]", by decide, Tryz.func190.trans (congrArg some (by kernel_rfl))⟩,
 f15:=Tryz.func191.trans (congrArg some (by kernel_rfl)),
 f20 :=⟨ "slices.insertionSortCmpFunc[godwit/api.KV]", by decide, Tryz.func238.trans (congrArg some (by kernel_rfl))⟩,
 f21 :=⟨ "slices.heapSortCmpFunc[godwit/api.KV]", by decide, Tryz.func239.trans (congrArg some (by kernel_rfl))⟩,
 f22 :=⟨ "slices.breakPatternsCmpFunc[godwit/api.KV]", by decide, Tryz.func240.trans (congrArg some (by kernel_rfl))⟩,
 f23 :=⟨ "slices.choosePivotCmpFunc[godwit/api.KV]", by decide, Tryz.func241.trans (congrArg some (by kernel_rfl))⟩,
 f24 :=⟨ "slices.reverseRangeCmpFunc[godwit/api.KV]", by decide, Tryz.func242.trans (congrArg some (by kernel_rfl))⟩,
 f25 :=⟨ "slices.partialInsertionSortCmpFunc[godwit/api.KV]", by decide, Tryz.func243.trans (congrArg some (by kernel_rfl))⟩,
 f26 :=⟨ "slices.partitionEqualCmpFunc[godwit/api.KV]", by decide, Tryz.func244.trans (congrArg some (by kernel_rfl))⟩,
 f27 :=⟨ "slices.partitionCmpFunc[godwit/api.KV]", by decide, Tryz.func245.trans (congrArg some (by kernel_rfl))⟩,
 f28:=Tryz.func246.trans (congrArg some (by kernel_rfl)),
 f29:=Tryz.func247.trans (congrArg some (by kernel_rfl)),
 f46 :=⟨ "slices.siftDownCmpFunc[godwit/api.KV]", by decide, Tryz.func262.trans (congrArg some (by kernel_rfl))⟩,
 f47:=Tryz.func263.trans (congrArg some (by kernel_rfl)),
 f48:=Tryz.func264.trans (congrArg some (by kernel_rfl)),
 f49 :=⟨ "slices.medianAdjacentCmpFunc[godwit/api.KV]", by decide, Tryz.func265.trans (congrArg some (by kernel_rfl))⟩,
 f50 :=⟨ "slices.medianCmpFunc[godwit/api.KV]", by decide, Tryz.func266.trans (congrArg some (by kernel_rfl))⟩,
 f57 :=⟨ "slices.order2CmpFunc[godwit/api.KV]", by decide, Tryz.func277.trans (congrArg some (by kernel_rfl))⟩,
 t0:=Tryz.underlying0,
 a0:=Tryz.isAgg0,
 z0:=Tryz.sizeOf0,
 v0:=Tryz.zeroValue0,
 t3:=Tryz.underlying3,
 a3:=Tryz.isAgg3,
 z3:=Tryz.sizeOf3,
 v3:=Tryz.zeroValue3,
 t4:=Tryz.underlying4,
 a4:=Tryz.isAgg4,
 z4:=Tryz.sizeOf4,
 v4:=Tryz.zeroValue4,
 t5:=Tryz.underlying5,
 a5:=Tryz.isAgg5,
 z5:=Tryz.sizeOf5,
 v5:=Tryz.zeroValue5,
 t9:=Tryz.underlying9,
 a9:=Tryz.isAgg9,
 z9:=Tryz.sizeOf9,
 v9:=Tryz.zeroValue9,
 t22:=Tryz.underlying61,
 a22:=Tryz.isAgg61,
 z22:=Tryz.sizeOf61,
 v22:=Tryz.zeroValue61,
 t25:=Tryz.underlying235,
 a25:=Tryz.isAgg235,
 z25:=Tryz.sizeOf235,
 v25:=Tryz.zeroValue235,
 t39:=Tryz.underlying307,
 a39:=Tryz.isAgg307,
 z39:=Tryz.sizeOf307,
 v39:=Tryz.zeroValue307,
 t45:=Tryz.underlying358,
 a45:=Tryz.isAgg358,
 z45:=Tryz.sizeOf358,
 v45:=Tryz.zeroValue358,
 t46:=Tryz.underlying359,
 a46:=Tryz.isAgg359,
 z46:=Tryz.sizeOf359,
 v46:=Tryz.zeroValue359,
 t50:=Tryz.underlying177,
 a50:=Tryz.isAgg177,
 z50:=Tryz.sizeOf177,
 v50:=Tryz.zeroValue177,
 t53:=Tryz.underlying365,
 a53:=Tryz.isAgg365,
 z53:=Tryz.sizeOf365,
 v53:=Tryz.zeroValue365,
 t55:=Tryz.underlying367,
 a55:=Tryz.isAgg367,
 z55:=Tryz.sizeOf367,
 v55:=Tryz.zeroValue367,
 t66:=Tryz.underlying389,
 a66:=Tryz.isAgg389,
 z66:=Tryz.sizeOf389,
 v66:=Tryz.zeroValue389,
 t70:=Tryz.underlying393,
 a70:=Tryz.isAgg393,
 z70:=Tryz.sizeOf393,
 v70:=Tryz.zeroValue393,
 t76:=Tryz.underlying404,
 a76:=Tryz.isAgg404,
 z76:=Tryz.sizeOf404,
 v76:=Tryz.zeroValue404,
 t77:=Tryz.underlying405,
 a77:=Tryz.isAgg405,
 z77:=Tryz.sizeOf405,
 v77:=Tryz.zeroValue405 }
theorem Apg {xs:List B8} (hn:xs.length<=1000000000000000000) (hd:Qz kvk xs):Dw Qx0 122 [.arr 157 2 0 (xs.flatMap Ca)] [.one (.ls 0 xs.length),.one (.raw (.func (.func 123) #[] #[]))] (λy m'=>y=.tup []/\m'=[.arr 157 2 0 ((Afj kvk xs).flatMap Ca)]) :=
 Ays (ρ:=Ad6) (f:=Ca) (g:=123) Az3 (λa b=>Gm (kvk a) (kvk b)) (λ_=>rfl) (by decide) Tryz.isAgg157 Tryz.sizeOf157 A6f (enters_of Tryz.func123 (by kernel_rfl) rfl) (λW S x y vx vy hS hx hy=>by
  obtain⟨v0,u0,rfl⟩:∃ v0 u0,vx=[v0,u0]:=by
   match vx,hx.1 with
   | [a,b],_=>exact⟨a,b,rfl⟩
  obtain⟨v1,u1,rfl⟩:∃ v1 u1,vy=[v1,u1]:=by
   match vy,hy.1 with
   | [a,b],_=>exact⟨a,b,rfl⟩
  exact Axx hS (hx.2 0 _ _ R R) (hy.2 0 _ _ R R) (hx.2 1 _ _ R R).oneCell (hy.2 1 _ _ R R).oneCell) hn (Alv hd)
def Ac3 (a1:List B8) (a2:Bh) (s:Int×List B8):Option (LB (Int×List B8) (List B8)) :=
 if decide (s.1<(a1.length:Int)) then((idx a1 s.1).bind λu=>(Hp a2 u.Key).bind λv=>some (.cont (wI (s.1+1),if v then Uq kvk s.2 u else s.2))) else some (.brk s.2)
def Aca (a0:B7) (a2:Bh) (s:Int×List B8):Option (LB (Int×List B8) (List B8)) :=
 if decide (s.1<(a0.L.length:Int)) then((idx a0.L s.1).bind λu=>if u.Del then some (.cont (wI (s.1+1),Ae5 kvk s.2 u.Key)) else(Hp a2 u.Key).bind λv=>some (.cont (wI (s.1+1),if v then Uq kvk s.2 ⟨u.Key,u.Val⟩ else s.2))) else some (.brk s.2)
def Akn (a3:Int) (t:List B8):Option (List B8) :=
 if t.length*48<=140737488355328 then cut (Afj kvk t) 0 (if a3<((Afj kvk t).length:Int) then a3 else((Afj kvk t).length:Int)) else none
def Ak1 (a0:B7) (a2:Bh) (a3:Int) (t:List B8):Option (List B8):=(Cz (Aca a0 a2) fuel (0,t)).bind λt2=>Akn a3 t2
def Gd (a0:B7) (a1:List B8) (a2:Bh) (a3:Int):Option (List B8) :=
 (Ft a0).bind λv1=>if !v1 then some [] else(Fz a1).bind λv2=>if !v2 then some [] else if decide (a3<1) then some [] else(Cz (Ac3 a1 a2) fuel (0,[])).bind λt1=>Ak1 a0 a2 a3 t1
theorem Zj {a0:B7} {a1:List B8} {a2:Bh} {a3:Int} {r:List B8} (h:Gd a0 a1 a2 a3=some r) :
  Bt Qx0 52 [.agg [SL a0.L A5],.one (SL a1 Ca),.agg (EL.el a2),.one (Ii6 a3)] (·=L7 (SL r Ca)):=by
 unfold Gd at h
 refine A1 Tryz.func52 R (nt:=91) R (Nbl R) ?_
 intro w0 S0
 refine csr (Er R R (Er R R (rm 1 R (Ah (Bj (csr (sv R (lo Ajb R R R) ?_)))))))
 obtain⟨v1,hv1,h⟩:=Ae h
 refine Bb R Au7 (Ac R Ag) (Ao R) (Py hv1) (sv R (Bz R) (rm 1 R (Aqc 20 R (λhc=>?_) (λhc=>?_))))
 ·replace h:=Q5 hc h
  clear hc
  refine rm 8 R (Ah (Ce R (λhc=>?_) (λhc=>nomatch hc)))
  refine csr (rm 1 R (Ah (Bq (Af ?_))))
  obtain rfl:=SJ h
  exact dn (Ad (rt R) Aj) (I8 R) R
 replace h:=Qy hc h
 clear hc
 refine rm 1 R (son R R R ?_)
 obtain⟨v2,hv2,h⟩:=Ae h
 refine Bb R A10 (Ac R Ag) (Ao R) (Xy hv2) (son R R R (sv R (Bz R) (rm 2 R (Aqc 25 R (λhc=>?_) (λhc=>?_)))))
 ·replace h:=Q5 hc h
  clear hc
  refine rm 3 R (Ah (Ce R (λhc=>?_) (λhc=>nomatch hc)))
  refine csr (rm 1 R (Ah (Bq (Af ?_))))
  obtain rfl:=SJ h
  exact dn (Ad (rt R) Aj) (I8 R) R
 replace h:=Qy hc h
 clear hc
 refine rm 1 R (son R R R (sv R (Bv R R) (rm 1 R (Ah (Ce R (λhc=>?_) (λhc=>?_))))))
 ·replace h:=Q5 hc h
  refine csr (rm 1 R (Ah (Bq (Af ?_))))
  obtain rfl:=SJ h
  exact dn (Ad (rt R) Aj) (I8 R) R
 replace h:=Qy hc h
 clear hc
 refine Bf (Ab (csr (Ar9 Xj R (λg=>?_))))
 refine rm 1 R (Ah (Bj (csr (rm 1 R (sv R (Ap Aky R) (rm 1 R (Ah (cj (List B8×List B8) (λ_=>[(4,L7 (.lp 0 0)),(6,L7 (.lp 1 0)),(3,L7 (Ii6 a3)),(9,L7 (.raw (.map (some g))))]) (λb=>[.box [SL a0.L A5],.box (EL.el a2),.obj g (Ni Xj ((b.2.map kB).map .string)) (b.2.map Ca)]) (λb=>b.2.Perm b.1/\Qz kvk b.2/\Ak1 a0 a2 a3 b.1=some r) (λ_=>R) (λb h=>?_) ?_))))))))
 ·obtain⟨t1,t1'⟩:=b
  obtain⟨hp1,hd1,h⟩:=h
  dsimp only at hp1 hd1 h
  unfold Ak1 at h
  refine Bj (csr (fl Xn Am4 R R R R R R (sv R (Ap Zh R) (rm 1 R (Ah (cj (List B8×List B8) (λ_=>[(3,L7 (Ii6 a3)),(9,L7 (.raw (.map (some g))))]) (λb=>[.box [SL a0.L A5],.box (EL.el a2),.obj g (Ni Xj ((b.2.map kB).map .string)) (b.2.map Ca)]) (λb=>b.2.Perm b.1/\Qz kvk b.2/\Akn a3 b.1=some r) (λ_=>R) (λb h=>?_) ?_))))))
  ·obtain⟨t2,t2'⟩:=b
   obtain⟨hp2,hd2,h⟩:=h
   dsimp only at hp2 hd2 h
   unfold Akn at h
   obtain⟨hb2,h⟩:=Cs h
   have hb2':t2'.length*48<=140737488355328:=by rw[hp2.length_eq];exact hb2
   refine csr (rm 1 R (Ah (Bj (csr (rm 1 R (Aop (p:=2) R Tryz.underlying233 R R (λes clock q hst hks hsz=>?_)))))))
   refine Ah ?_
   refine Dl 157 2 14 (by decide) R ?_
   have hes:es.size=t2'.length:=by rw[hsz,z2]
   obtain⟨hs1,hs2,_⟩:=(Go.MapKept.stamped_iff es clock).1 hst
   refine cj (Array Nat×List B8) (λb=>[(3,L7 (Ii6 a3)),(14,L7 (.ls 4 b.2.length))]) (λb=>[.box [SL a0.L A5],.box (EL.el a2),.obj g (Afu Xj es clock) (t2'.map Ca),.obj q (Am5 g clock b.1 clock) [],.arr 157 2 0 (b.2.flatMap Ca)]) (λb=>b.2.Perm t2') (λ_=>R) (λb hpo=>?_) ?_
   ·obtain⟨seen,out⟩:=b
    dsimp only at hpo
    have hol:out.length=t2'.length:=hpo.length_eq
    have hdo:Qz kvk out:=(Qz.perm hpo).2 hd2
    have he:Afj kvk out=Afj kvk t2:=Ami (hpo.trans hp2) hdo
    have hlen:(Afj kvk out).length=out.length:=(Nr out).length_eq
    have hlen2:out.length*2=((Afj kvk out).flatMap Ca).length:=by rw[<- hlen];exact(Aw (f:=Ca) (λ_=>rfl) _).symm
    rw[<- he,hlen] at h
    refine csr (sv R (Az R) ?_)
    refine I0 (x':=.tup []) (M':=[.box [SL a0.L A5],.box (EL.el a2),.obj g (Afu Xj es clock) (t2'.map Ca),.obj q (Am5 g clock seen clock) [],.arr 157 2 0 ((Afj kvk out).flatMap Ca)]) [4] R A1y (.func _) (Ac R (Ac R Ag)) (Apg (xs:=out) (by omega) hdo) R R (by decide) R R R ?_
    refine Ah (csr (rm 2 R (sv R (H6 Aky R R hlen2) (rm 1 R (sv R (Aj7 R R) (Aif 85 R (Hl.one _ _ _ _ (C5.ls _ _ _ _ _ _ R hlen2)) (sv R (Zn (f:=Ca) (lo:=0) (hi:=(if a3<(out.length:Int) then a3 else(out.length:Int))) Aky (λ_=>R) R R hlen.symm Wr (Sm R (Int.le_trans (Wl h).1.1 (Wl h).1.2.1)) h) ?_)))))))
    refine rm 1 R (Ah (Bq (⟨Or.inr R,_,_,_,(Ad (rt R) Aj),(Ao R),?_⟩)))
    rfl
   ·refine Bl ?_
    refine lpo (G:=Array Nat×List Nat) (λb=>[(3,L7 (Ii6 a3)),(14,L7 (.ls 4 (b.2.filterMap (t2'[·]?)).length)),(74,L7 (.raw (.pointer (some ⟨q,0,none⟩))))]) (λb=>[.box [SL a0.L A5],.box (EL.el a2),.obj g (Afu Xj es clock) (t2'.map Ca),.obj q (Am5 g clock b.1 clock) [],.arr 157 2 0 ((b.2.filterMap (t2'[·]?)).flatMap Ca)]) (λb=>b.2.Nodup/\(∀ j∈b.2,j<t2'.length)/\(∀ (j:Nat) e,es[j]? = some e->(b.1.contains e.born=true↔j∈b.2))/\b.2.length+(leftOf es b.1).size<=es.size) (λb=>(leftOf es b.1).size) (#[],[]) ⟨kF,λj hj=>by simp at hj,λj e _=>⟨λh=>by simp at h,λh=>by simp at h⟩,by show 0+(leftOf es #[]).size<=es.size;rw[yE];exact Array.size_filter_le ..⟩ ⟨R,R,R,trivial⟩ [] R (λ_=>R) ?_
    rintro⟨seen,picks⟩ ⟨hnd,hlt,hsn,hmu⟩
    dsimp only at hnd hlt hsn hmu
    refine csr (Ar0 (p:=2) (pi:=3) (ss:=t2'.map kB) R R R R hs1 (zN _) hks (λh0=>?_) (λj e s cs hj he hs hcs=>?_))
    ·refine sv R (Ak R R) (Ah (Bj (Ce R (λhc=>nomatch hc) (λ_=>?_))))
     refine C3 (As (As (Bi (Ab (⟨(seen,picks.filterMap (t2'[·]?)),_,?_,⟨R,R,trivial⟩,R⟩)))))
     refine Alz hnd hlt λj hj=>?_
     have hj':j<es.size:=by rw[hes];exact hj
     exact(hsn j es[j] (zS hj')).1 (all_seen es seen h0 _ (by simp))
    ·obtain⟨x,hx,rfl⟩:∃ x,t2'[j]? = some x/\cs=Ca x:=by
      rw[zP] at hcs
      cases hx:t2'[j]? with
      | none=>rw[hx] at hcs;cases hcs
      | some x=>rw[hx] at hcs;exact⟨x,rfl,(zD hcs).symm⟩
     have hns:=(mem_left he).2
     have hjn:j∉picks:=λh=>by rw[(hsn j e hj).2 h] at hns;cases hns
     have hsh:=left_shrinks es seen e he
     have hpl:(picks.filterMap (t2'[·]?)).length<=picks.length:=List.length_filterMap_le ..
     refine sv R (Ak R R) (Ah (Bj (Ce R (λ_=>?_) (λhc=>nomatch hc))))
     refine Bf (Ab (Bl (Bj (Au ?_))))
     refine Aoj (p:=2) (pi:=3) (j:=j) rfl rfl rfl rfl hs2 hks hj hs (by rw[zP,hx];rfl) ?_
     refine sv R (Ak R R) (Br R Ang (sst Avh R R R R R (Ah (Au (rm 1 R (sv R (lo Ase R R R) ?_))))))
     refine D7 R Tryz.underlying61 Aq8 R R (zI.1 R) (by decide) ?_
     refine Ql [.box [SL a0.L A5],.box (EL.el a2),.obj g (Afu Xj es clock) (t2'.map Ca),.obj q (Am5 g clock (seen.push e.born) clock) [],.arr 157 2 0 ((picks.filterMap (t2'[·]?)).flatMap Ca),.box (EL.el x),.arr 157 2 0 ([x].flatMap Ca)] R ?_
     refine U1 (f:=Ca) (xs:=picks.filterMap (t2'[·]?)) (us:=[x]) R Tryz.underlying61 Aq8 A4o (λ_=>R) R R (.one _ _ _ _ (.ls _ _ _ _ _ _ R (Aw (f:=Ca) (λ_=>R) [x]).symm)) R R R (.sl _ _ _ (Aw (f:=Ca) (λ_=>R) _)) R R (by rw[z6];omega) (by decide) ?_
     refine rm 1 R (Jb (Ar ?_))
     have hfm:(picks++[j]).filterMap (t2'[·]?)=picks.filterMap (t2'[·]?)++[x]:=by
      rw[List.filterMap_append]
      simp [hx]
     refine⟨(seen.push e.born,picks++[j]),_,⟨?_,?_,?_,?_⟩,⟨rfl,by show _=AV.s (.one (.ls 4 ((picks++[j]).filterMap (t2'[·]?)).length));rw[hfm];rfl,rfl,trivial⟩,by show _=[_,_,_,_,Blk.arr 157 2 0 (((picks++[j]).filterMap (t2'[·]?)).flatMap Ca)]++_;rw[hfm];rfl,hsh⟩
     ·rw[jU]
      exact⟨hnd,by simp,λa ha b hb=>by rw[zV.1 hb];exact λe=>hjn (e ▸ ha)⟩
     ·intro k hk
      rcases yH.1 hk with hk|hk
      ·exact hlt k hk
      ·rw[zV.1 hk];exact(zC.1 hx).1
     ·intro k e' hk
      rw[yH,zV,<- Avl hs2 hk hj,<- hsn k e' hk];simp [or_comm]
     ·rw[zH,z6]
      have:(leftOf es (seen.push e.born)).size+1<=(leftOf es seen).size:=hsh
      dsimp only
      omega
  ·refine Bl ?_
   obtain⟨x2,hx2,ho2⟩:=Ae h
   refine lpo (G:=Nat×(Int×List B8)×List B8) (λq=>[(6,L7 (.lp 1 0)),(3,L7 (Ii6 a3)),(9,L7 (.raw (.map (some g)))),(47,L7 (SL a0.L A5)),(48,L7 (Ii6 (a0.L.length:Int))),(49,L7 (Ii6 q.2.1.1))]) (λq=>[.box [SL a0.L A5],.box (EL.el a2),.obj g (Ni Xj ((q.2.2.map kB).map .string)) (q.2.2.map Ca)]) (λq=>Cz (Aca a0 a2) q.1 q.2.1=some x2/\q.2.2.Perm q.2.1.2/\Qz kvk q.2.2) (λq=>q.1) (fuel,(0,t1),t1') ⟨hx2,hp1,hd1⟩ ⟨R,R,R,R,R,R,trivial⟩ [] R (λ_=>R) ?_
   clear hx2 h hp1 hd1
   rintro⟨n,⟨i,t⟩,t'⟩ ⟨h,hp,hd⟩
   dsimp only at hp hd
   obtain⟨n,y,rfl,h,hk⟩:=Cw h
   unfold Aca at h
   dsimp only at h
   refine csr (sv R (Bv R R) (Ah (Bj (ccI h R (λh=>?_) (λh=>?_)))))
   ·refine Bf (Ab (Bj (Bl (Bj (Au ?_)))))
    obtain⟨u,hu,h⟩:=Ae h
    refine sv R (B4 (f:=A5) Zh (λ_=>R) R R R R hu) ?_
    refine sv R (Bs (ys:=[SL u.Key eU8,SL u.Val eU8,.b u.Del]) Aij R (.cp _) R R) (Br R Aml (sst Ao8 R R R R R (Ah (csr (fl Abr ti4 R R R R R R (Ah (ccI h R (λh=>?_) (λh=>?_))))))))
    ·obtain rfl:=SJ h
     clear h
     refine Au (rm 1 R (fl Tn L3 R R R R R R (sv R (Ma (l:=u.Key) Tryz.underlying56 Tryz.underlying5 Tryz.underlying9 R R R) (Awm (ss:=t'.map kB) (css:=t'.map Ca) (s:=⟨u.Key.toArray⟩) (p:=2) Tryz.underlying233 Tryz.underlying9 R R R (λj hj=>?_) (λhn=>?_) R))))
     ·obtain⟨e1,e3⟩:=Awq hp hd (Af4 hj)
      refine Ql [.box [SL a0.L A5],.box (EL.el a2),.obj g (Ni Xj (((t'.eraseIdx j).map kB).map .string)) ((t'.eraseIdx j).map Ca),.box (EL.el u)] (by rw[<- Go.ChangeMaps.map_eraseIdx,<- Go.ChangeMaps.map_eraseIdx];rfl) ?_
      refine Jb (Ar (Ab (Au (sv R (Bp R R) (rm 1 R (Ah ?_))))))
      exact⟨(n,(wI (i+1),Ae5 kvk t u.Key),t'.eraseIdx j),_,⟨hk,e1,e3⟩,⟨R,R,R,R,R,R,trivial⟩,R,zG _⟩
     ·have e1:=Aqx (kf:=kvk) hp (Ap5 hn)
      refine Ql [.box [SL a0.L A5],.box (EL.el a2),.obj g (Ni Xj ((t'.map kB).map .string)) (t'.map Ca),.box (EL.el u)] R (Jb (Ar (Ab (Au (sv R (Bp R R) (rm 1 R (Ah ?_)))))))
      exact⟨(n,(wI (i+1),Ae5 kvk t u.Key),t'),_,⟨hk,e1,hd⟩,⟨R,R,R,R,R,R,trivial⟩,R,zG _⟩
    ·obtain⟨v,hv,h⟩:=Ae h
     obtain rfl:=SJ h
     clear h
     refine csr (ld Ac4 R R R R (fl Tn L3 R R R R R R (Bb R Aoi (Ac R (Ac R Ag)) (Ao R) (N0 hv) (Ah (Ce R (λhc=>?_) (λhc=>?_))))))
     ·subst hc
      refine Au (rm 1 R (fl Tn L3 R R R R R R (sv R (Ma (l:=u.Key) Tryz.underlying56 Tryz.underlying5 Tryz.underlying9 R R R) (fl Tn L3 R R R R R R (fl Y0 L3 R R R R R R (sv R (A2 Ang Ayl (Aq R (Aq R A0)) (.cons _ _ _ _ _ _ _ R R (Nbl R) (.cons _ _ _ _ _ _ _ R R (Nbl R) (.nil _)))) (Aoh (ss:=t'.map kB) (css:=t'.map Ca) (s:=kB ⟨u.Key,u.Val⟩) (p:=2) Tryz.underlying233 Tryz.underlying9 R R R R R (λj hj=>?_) (λhn=>?_))))))))
      ·obtain⟨e1,e2,e3⟩:=Aew hp hd (x:=⟨u.Key,u.Val⟩) (Af4 hj)
       refine Ql [.box [SL a0.L A5],.box (EL.el a2),.obj g (Ni Xj (((t'.set j ⟨u.Key,u.Val⟩).map kB).map .string)) ((t'.set j ⟨u.Key,u.Val⟩).map Ca),.box (EL.el u)] (by rw[Ats (Af4 hj),kH];rfl) ?_
       refine Jb (Ar (Ab (Au (sv R (Bp R R) (rm 1 R (Ah ?_))))))
       exact⟨(n,(wI (i+1),Uq kvk t ⟨u.Key,u.Val⟩),t'.set j ⟨u.Key,u.Val⟩),_,⟨hk,e1,e3⟩,⟨R,R,R,R,R,R,trivial⟩,R,zG _⟩
      ·obtain⟨e1,e3⟩:=All hp hd (x:=⟨u.Key,u.Val⟩) (Ap5 hn)
       refine Ql [.box [SL a0.L A5],.box (EL.el a2),.obj g (Ni Xj (((t'++[(⟨u.Key,u.Val⟩:B8)]).map kB).map .string)) ((t'++[(⟨u.Key,u.Val⟩:B8)]).map Ca),.box (EL.el u)] (by simp only[wA];rfl) ?_
       refine Jb (Ar (Ab (Au (sv R (Bp R R) (rm 1 R (Ah ?_))))))
       exact⟨(n,(wI (i+1),Uq kvk t ⟨u.Key,u.Val⟩),t'++[(⟨u.Key,u.Val⟩:B8)]),_,⟨hk,e1,e3⟩,⟨R,R,R,R,R,R,trivial⟩,R,zG _⟩
     ·subst hc
      refine Bf (Ar (Ab (Au (sv R (Bp R R) (rm 1 R (Ah ?_))))))
      exact⟨(n,(wI (i+1),t),t'),_,⟨hk,hp,hd⟩,⟨R,R,R,R,R,R,trivial⟩,R,zG _⟩
   ·refine C3 (As (As (Bi (Ab ?_))))
    obtain rfl:=SJ h
    obtain rfl:_=x2:=hk
    exact⟨(t,t'),_,⟨hp,hd,ho2⟩,⟨R,R,trivial⟩,R⟩
 ·refine Bl ?_
  obtain⟨x1,hx1,ho1⟩:=Ae h
  refine lpo (G:=Nat×(Int×List B8)×List B8) (λq=>[(4,L7 (.lp 0 0)),(6,L7 (.lp 1 0)),(3,L7 (Ii6 a3)),(9,L7 (.raw (.map (some g)))),(30,L7 (SL a1 Ca)),(31,L7 (Ii6 (a1.length:Int))),(32,L7 (Ii6 q.2.1.1))]) (λq=>[.box [SL a0.L A5],.box (EL.el a2),.obj g (Ni Xj ((q.2.2.map kB).map .string)) (q.2.2.map Ca)]) (λq=>Cz (Ac3 a1 a2) q.1 q.2.1=some x1/\q.2.2.Perm q.2.1.2/\Qz kvk q.2.2) (λq=>q.1) (fuel,(0,[]),[]) ⟨hx1,List.Perm.refl _,List.Pairwise.nil⟩ ⟨R,R,R,R,R,R,R,trivial⟩ [] R (λ_=>R) ?_
  clear hx1 h
  rintro⟨n,⟨i,t⟩,t'⟩ ⟨h,hp,hd⟩
  dsimp only at hp hd
  obtain⟨n,y,rfl,h,hk⟩:=Cw h
  unfold Ac3 at h
  dsimp only at h
  refine csr (sv R (Bv R R) (Ah (Bj (ccI h R (λh=>?_) (λh=>?_)))))
  ·refine Bf (Ab (Bj (Bl (Bj (Au ?_)))))
   obtain⟨u,hu,h⟩:=Ae h
   refine sv R (B4 (f:=Ca) Aky (λ_=>R) R R R R hu) ?_
   refine sv R (Bs (ys:=[SL u.Key eU8,SL u.Val eU8]) Ase R (.cp _) R R) (Br R Ang (sst Avh R R R R R (Ah (csr (ld Ac4 R R R R (sv R (Aa Aby R) (sv R (l1 L3 R R R) ?_)))))))
   obtain⟨v,hv,h⟩:=Ae h
   refine Bb R Aoi (Ac R (Ac R Ag)) (Ao R) (N0 hv) (Ah ?_)
   obtain rfl:=SJ h
   clear h
   refine Ce R (λhc=>?_) (λhc=>?_)
   ·subst hc
    refine Au (rm 1 R (fl Aby L3 R R R R R R (sv R (Ma (l:=u.Key) Tryz.underlying56 Tryz.underlying5 Tryz.underlying9 R R R) (ld Ase R R R R (Aoh (ss:=t'.map kB) (css:=t'.map Ca) (s:=kB u) (p:=2) Tryz.underlying233 Tryz.underlying9 R R R R R (λj hj=>?_) (λhn=>?_))))))
    ·obtain⟨e1,e2,e3⟩:=Aew hp hd (x:=u) (Af4 hj)
     refine Ql [.box [SL a0.L A5],.box (EL.el a2),.obj g (Ni Xj (((t'.set j u).map kB).map .string)) ((t'.set j u).map Ca),.box (EL.el u)] (by rw[Ats (Af4 hj),kH];rfl) ?_
     refine Jb (Ar (Ab (Au (sv R (Bp R R) (rm 1 R (Ah ?_))))))
     exact⟨(n,(wI (i+1),Uq kvk t u),t'.set j u),_,⟨hk,e1,e3⟩,⟨R,R,R,R,R,R,R,trivial⟩,R,zG _⟩
    ·obtain⟨e1,e3⟩:=All hp hd (x:=u) (Ap5 hn)
     refine Ql [.box [SL a0.L A5],.box (EL.el a2),.obj g (Ni Xj (((t'++[u]).map kB).map .string)) ((t'++[u]).map Ca),.box (EL.el u)] (by simp only[wA];rfl) ?_
     refine Jb (Ar (Ab (Au (sv R (Bp R R) (rm 1 R (Ah ?_))))))
     exact⟨(n,(wI (i+1),Uq kvk t u),t'++[u]),_,⟨hk,e1,e3⟩,⟨R,R,R,R,R,R,R,trivial⟩,R,zG _⟩
   ·subst hc
    refine Bf (Ar (Ab (Au (sv R (Bp R R) (rm 1 R (Ah ?_))))))
    exact⟨(n,(wI (i+1),t),t'),_,⟨hk,hp,hd⟩,⟨R,R,R,R,R,R,R,trivial⟩,R,zG _⟩
  ·refine C3 (As (As (Bi (Ab ?_))))
   obtain rfl:=SJ h
   obtain rfl:_=x1:=hk
   exact⟨(t,t'),_,⟨hp,hd,ho1⟩,⟨R,R,R,R,trivial⟩,R⟩
section
open Go.Extern.Stop Go.Stop Go.Extern
theorem Ao2 (v:Value) (w:World):(Extern.ReflectliteType.typeOf #[.iface 62 v]).run Qx0 w=.ok (.iface 371 (.agg #[.pointer (some ⟨1,62,none⟩)])) w:=by kernel_rfl
theorem Afi (w : World) : ((Extern.ReflectliteType.method fun t => do Extern.Rtype.noPackHeld "Comparable" t; (fun a => Value.bool a.comparable) <$> typeInfo t) #[.agg #[.pointer (some ⟨1, 62, none⟩)]]).run Tryz.prog w = .ok (.bool true) w := by kernel_rfl
theorem Aov (v : Value) (w : World) : (Go.method 553 371 v "Comparable").run Tryz.prog w = .ok (317, v) w := by kernel_rfl
theorem Aor:(Tryz.prog.info? 62).map (·.comparable)=some true:=by kernel_rfl
theorem Aws (v:Value) (xT:TypeId) (w:World):(Instr.typeAssert (.iface 62 v) xT 373 true).run Qx0 w=.ok (.tuple #[.nilIface,.bool false]) w:=run_typeAssert_lacksB Tryz.underlying373 (by kernel_rfl) (by kernel_rfl) v xT w
theorem Ai8 (v:Value) (xT:TypeId) (w:World):(Instr.typeAssert (.iface 62 v) xT 376 true).run Qx0 w=.ok (.tuple #[.nilIface,.bool false]) w:=run_typeAssert_lacksB Tryz.underlying376 (by kernel_rfl) (by kernel_rfl) v xT w
theorem Afx (v:Value) (xT:TypeId) (w:World):(Instr.typeAssert (.iface 62 v) xT 378 true).run Qx0 w=.ok (.tuple #[.nilIface,.bool false]) w:=run_typeAssert_lacksB Tryz.underlying378 (by kernel_rfl) (by kernel_rfl) v xT w
set_option maxHeartbeats 2000000 in
theorem Are (a b:Int) (w:World):Calls Tryz.prog 138 #[.iface 62 (.int .i64 a),.iface 62 (.int .i64 b)] w λe w'=>e=.returned (.bool (a==b))/\w'=w:=by
 have h8:=@run_callFunc_extern Tryz.prog 207 _ Extern.ReflectliteType.typeOf Tryz.func207 (by kernel_rfl) (by kernel_rfl) (by kernel_rfl) (by kernel_rfl)
 have h32 := @run_callFunc_extern Tryz.prog 317 _ (Extern.ReflectliteType.method fun t => do Extern.Rtype.noPackHeld "Comparable" t; pure (.bool (← typeInfo t).comparable)) Tryz.func317 (by kernel_rfl) (by kernel_rfl) (by kernel_rfl) (by kernel_rfl)
 have tT:=Ao2
 have cT:=Afi
 have mR:=Aov
 have nE:=Aws
 have uE:=Ai8
 have vE:=Afx
 have hn1:=λv:Value=>run_eql_iface_nil_left (P:=Tryz.prog) w 62 v Tryz.underlying252
 have hnr:=λv:Value=>run_eql_iface_nil (P:=Tryz.prog) (w:=w) 252 (by kernel_rfl) 62 v
 cases hab:(a==b) with
 | true =>
  have heq:=Go.Lib.run_eql_iface_int (P:=Tryz.prog) w (k:=.i64) a b Tryz.underlying252 Aor Tryz.underlying62
  rw[hab] at heq
  go_enter Tryz.func138,Tryz.ntmps138
  go_wp2
  refine wp_loop_rounds 1 ?_
  rw[rounds_succ]
  go_wp2
  go_ret
  exact⟨R,R⟩
 | false =>
  have heq:=Go.Lib.run_eql_iface_int (P:=Tryz.prog) w (k:=.i64) a b Tryz.underlying252 Aor Tryz.underlying62
  rw[hab] at heq
  go_enter Tryz.func138,Tryz.ntmps138
  go_wp2
  refine wp_loop_rounds 1 ?_
  rw[rounds_succ]
  go_wp2
  go_ret
  exact⟨R,R⟩
def T2 (a b:Int):Option Bool:=some (a==b)
theorem Aa7 {a b:Int} {r:Bool} (h:T2 a b=some r):Bt Qx0 138 [.one (.raw (.iface 62 (.int .i64 a))),.one (.raw (.iface 62 (.int .i64 b)))] (·=L7 (.b r)):=by
 obtain rfl:=SJ h
 exact Ais (λ_ _=>.b _) (λw=>Are a b w)
end
def Ix (a0:List (List UInt8)) (b1:Unit):Option Bool :=
 (Cr a0).bind λv2=>some v2
def Ec (a0:List (List UInt8)) (s3:Int):Option (LR (Int) (Unit) (Bool)) :=
 if (decide (s3<(a0.length:Int))) then((idx a0 s3).bind λu4=>(Fa u4).bind λv5=>if (!v5) then(some (.ret false)) else(some (.cont (wI (s3+1))))) else(some (.brk ()))
def Et (a0:List (List UInt8)):Option Bool :=
 (Iz (Ec a0) fuel 0).bind λx=>match x with | .inl r=>some r | .inr e6=>Ix a0 e6
theorem Ri {a0:List (List UInt8)} {r:Bool} (h:Et a0=some r):Bt Qx0 107 [.one (SL a0 (eL eU8))] (·=L7 (.b r)):=by
 unfold Et at h
 refine A1 Tryz.func107 R (nt:=17) R (Nbl R) ?_
 intro w0 S0
 refine csr (rm 1 R (Ah (Bj (csr (rm 1 R (sv R (Ap Se R) (rm 1 R (Ah (cj (Unit) (λb1=>[(0,L7 (SL a0 (eL eU8)))]) (λb1=>[]) (λb1=>Ix a0 b1=some r) (λ_=>R) (λb1 h=>?_) ?_)))))))))
 ·unfold Ix at h
  refine csr (sv R (Az R) ?_)
  obtain⟨v2,hv2,h⟩:=Ae h
  refine Bb R Asb (Ac R Ag) (Ao R) (Mu hv2) (rm 1 R (Ah (Bq ?_)))
  obtain rfl:=SJ h
  exact dnT R R R R
 ·skip
  refine Bl ?_
  obtain⟨x3,hx3,ho3⟩:=Ae h
  refine lpo (G:=Nat×(Int)) (λg=>[(0,L7 (SL a0 (eL eU8))),(5,L7 (SL a0 (eL eU8))),(6,L7 (Ii6 (a0.length:Int))),(7,L7 (Ii6 g.2))]) (λg=>[]) (λg=>Iz (Ec a0) g.1 g.2=some x3) (λg=>g.1) (fuel,0) hx3 ⟨R,R,R,R,trivial⟩ [] R (λ_=>R) ?_
  clear hx3 h
  rintro⟨n3,s3⟩ h
  obtain⟨n3,y3,rfl,h,hk3⟩:=Dj h
  unfold Ec at h
  refine csr (sv R (Bv R R) (Ah (Bj (ccI h R (λh=>?_) (λh=>?_)))))
  ·refine Bf (Ab (Bj (Bl (Bj (Au ?_)))))
   obtain⟨u4,hu4,h⟩:=Ae h
   refine sv R (B4 (f:=(eL eU8)) Se (λ_=>R) R R R R hu4) ?_
   refine sv R (B0 L3 R (.cp _) R) (rm 1 R (Ah (csr (sv R (Az R) ?_))))
   obtain⟨v5,hv5,h⟩:=Ae h
   refine Bb R A01 (Ac R Ag) (Ao R) (Pz hv5) (sv R (Bz R) (Ah (ccI h R (λh=>?_) (λh=>?_))))
   ·refine csr (rm 1 R (Ah (Bq (Av (Af (Af (Av (Af ?_))))))))
    obtain rfl:=SJ h
    obtain rfl:Sum.inl _=x3:=hk3
    replace ho3:some _=some _:=ho3
    obtain rfl:=zD ho3
    exact dnT R R R R
   ·refine Bf (Ar (Ab (Au (sv R (Bp R R) (rm 1 R (Ah ?_))))))
    obtain rfl:=SJ h
    exact⟨(n3,(wI (s3+1))),_,hk3,⟨R,R,R,R,trivial⟩,R,zG _⟩
  ·refine C3 (As (As (Bi (Ab ?_))))
   obtain rfl:=SJ h
   obtain rfl:_=x3:=hk3
   exact⟨(),_,ho3,⟨R,trivial⟩,R⟩
theorem M9 {a0:Am}:Bt Qx0 182 [.agg [SL a0.L A9]] (·=L7 (.fn 235 [] [.cp [SL a0.L A9]])):=by
 refine A1 Tryz.func182 R (nt:=4) R (Nbl R) ?_
 intro w0 S0
 refine csr (Aof R R R (rm 1 R (Ah (csr (sv R (Wi Sn (Xv R R Sn)) (rm 1 R (Ah (Bq (⟨Or.inr R,_,_,_,(Ad (rt R) Aj),(Ao R),?_⟩)))))))))
 rfl
def S4 (l:List A8):Nat->List (Int×A8)
 | 0=>[]
 | n+1=>match l[n]? with
  | some v=>((n:Int),v)::S4 l n
  | none=>[]
def Amg (c:Am):Option (List (Int×A8)) :=
 if c.L.length<=1000000000000000000 then some (S4 c.L c.L.length) else none
theorem S8 {l:List A8} {n:Nat} (h:n<l.length):S4 l (n+1)=((n:Int),l[n])::S4 l n:=by
 simp [S4,zB h]
theorem Ys {l:List A8}:∀ n,n<=l.length->(S4 l n).length=n
 | 0,_=>rfl
 | n+1,h=>by
  rw[S8 (by omega),yW,Ys n (by omega)]
theorem Aje {c:Am} {L:List (Int×A8)} (h:Amg c=some L):Asq Qx0 235 [.cp [SL c.L A9]] (L.map λx=>(.one (Ii6 x.1),.agg (EL.el x.2))):=by
 unfold Amg at h
 obtain⟨hlen,h⟩:=Cs h
 obtain rfl:=SJ h
 refine Arb Tryz.func235 R R (nt:=21) R (Nbl R) ?_
 intro l J Jx hJ hJx hs
 refine Azw ?_
 refine Aot (hJ 0) (by rfl) (λw0 S0=>?_)
 refine sv R (Bw T5 R) (sv R (B0 Aa8 R (.cp _) R) (sv R (Ap W8 R) (sv R (Ph R R) (rm 1 R (Jb ⟨R,R,Ahg (Ajv ?_)⟩)))))
 refine At2 ?_
 have hw0:wI ((c.L.length:Int)-1)=(c.L.length:Int)-1:=by
  show IntKind.i64.wrap _=_
  exact wrap_i64 (by omega) (by omega)
 refine A4f (G:=Nat×Int) (λg=>[(0,L7 (.raw (.func (.yield l) #[] #[]))),(1,L7 (.cp [SL c.L A9])),(3,L7 (Ii6 g.2))])
  (λg=>J g.1) (λg=>g.1<=c.L.length/\g.2=((c.L.length-g.1:Nat):Int)-1/\(S4 c.L c.L.length).drop g.1=S4 c.L (c.L.length-g.1))
  (λg=>c.L.length-g.1) (0,wI ((c.L.length:Int)-1)) ⟨zX _,by simp only[Nat.sub_zero];exact hw0,rfl⟩ ⟨rfl,rfl,rfl,trivial⟩ rfl (λ_ _=>Acn rfl) ?_
 rintro⟨k,i⟩ ⟨g1,g2,g3⟩
 simp only at g1 g2 g3
 refine Azw (Azw ?_)
 refine Aot (hJ k) (by rfl) (λw0 S0=>?_)
 refine rm 1 R (sv R (Ii R R) (Jb ⟨R,R,Ahg (Ajv ?_)⟩))
 refine Auw R (λhc=>?_) (λhc=>?_)
 rotate_left
 ·have hc':¬ 0<=i:=by simpa using hc
  refine A18 (And.intro (Or.inl R) (Or.inl ?_))
  show J k=J _
  rw[z2,Ys _ (zN _)]
  congr 1
  omega
 have hge:0<=i:=by simpa using hc
 refine Azs (Ajv ?_)
 obtain⟨n,hn⟩:∃ n,c.L.length-k=n+1:=⟨c.L.length-k-1,by omega⟩
 have hi:i=(n:Int):=by omega
 subst hi
 have hnl:n<c.L.length:=by omega
 rw[hn,S8 hnl] at g3
 have hget:(S4 c.L c.L.length)[k]? = some ((n:Int),c.L[n]):=by
  have:=congrArg (λl=>l[0]?) g3
  simpa using this
 have hdrop:(S4 c.L c.L.length).drop (k+1)=S4 c.L n:=by
  have:=congrArg (λl=>l.drop 1) g3
  simpa [j1] using this
 have hu:idx c.L (n:Int)=some c.L[n]:=by
  unfold idx
  rw[if_pos (xL n),zT,zB hnl]
 generalize c.L[n]=v at hget hu
 refine Azw (At2 (Azw (Ap8 ?_)))
 refine Arl (l1:=[_,_,_,_,_,_,_]) (hJ k) (by rfl) (λw0 S0=>?_)
 refine rm 2 R (sv R (Bw T5 R) (sv R (B0 Aa8 R (.cp _) R) (rm 1 R (sv R (B4 (f:=A9) W8 (λ_=>R) R R R R hu) ?_))))
 refine sv R (Bs (ys:=[Ii6 v.Ts,SL v.Val eU8,.b v.Del]) Ah3 R (.cp _) R R) (Jb ⟨R,R,?_⟩)
 refine Arz rfl rfl (λ_ _ _ _ _=>rfl) hs rfl rfl rfl rfl (x:=.one (Ii6 (n:Int))) (y:=.agg (EL.el v)) (by rw[zP,hget];rfl) ?_ ?_
 rotate_left
 ·
  refine Arl (l1:=[_]) (l2:=[]) hJx (by rfl) (λw0 S0=>?_)
  refine sv R (Bz R) (Jb ⟨R,R,Ahg (Ajv ?_)⟩)
  refine Auw R (λ_=>?_) (λhx=>Bool.noConfusion hx)
  exact A6c (And.intro (Or.inr R) (Or.inr R))
 refine Arl (l1:=[_]) (l2:=[]) (hJ (k+1)) (by rfl) (λw0 S0=>?_)
 refine sv R (Bz R) (Jb ⟨R,R,Ahg (Ajv ?_)⟩)
 refine Auw R (λhx=>Bool.noConfusion hx) (λ_=>?_)
 refine Azs (A6m (Ajv ?_))
 refine Aot (hJ (k+1)) (by rfl) (λw0 S0=>?_)
 refine rm 1 R (sv R (Ph R R) (rm 1 R (Jb ⟨R,R,Ahg (Ajv ?_)⟩)))
 have hw:wI ((n:Int)-1)=(n:Int)-1:=by
  show IntKind.i64.wrap _=_
  exact wrap_i64 (by omega) (by omega)
 refine⟨(k+1,wI ((n:Int)-1)),⟨?_,?_,?_⟩,⟨R,R,R,trivial⟩,R,?_⟩
 ·show k+1<=c.L.length
  omega
 ·show wI ((n:Int)-1)=((c.L.length-(k+1):Nat):Int)-1
  rw[hw];omega
 ·show List.drop (k+1) _=S4 c.L (c.L.length-(k+1))
  rw[hdrop]
  congr 1
  omega
 ·show c.L.length-(k+1)<c.L.length-k
  omega
def Gp (a0:A8):Option Bool :=
 if (decide (1<=a0.Ts)) then(if (decide (a0.Ts<=1099511627776)) then(if (decide ((a0.Val.length:Int)<=32)) then(if a0.Del then(some (!(decide (0<(a0.Val.length:Int))))) else(some true)) else(some false)) else(some false)) else(some false)
theorem R6 {a0:A8} {r:Bool} (h:Gp a0=some r):Bt Qx0 183 [.agg (EL.el a0)] (·=L7 (.b r)):=by
 unfold Gp at h
 refine A1 Tryz.func183 R (nt:=28) R (Nbl R) ?_
 intro w0 S0
 refine csr (Er R R (rm 1 R (Ah (csr (fl Wm ti3 R R R R R R (sv R (Ii R R) (rm 1 R (ssI 6 h R (λh=>?_) (λh=>?_)))))))))
 ·refine son R R R (sv R (Aa Wm R) (son R R R (sv R (l1 ti3 R R R) (son R R R (sv R (Dk R R) (rm 2 R (ssI 11 h R (λh=>?_) (λh=>?_))))))))
  ·refine son R R R (sv R (Aa Aej R) (son R R R (sv R (l1 L3 R R R) (son R R R (sv R (Ap Aa5 R) (son R R R (sv R (Dk R R) (rm 2 R (ssI 17 h R (λh=>?_) (λh=>?_))))))))))
   ·refine son R R R (sv R (Aa Aek R) (son R R R (sv R (l1 ti4 R R R) (rm 1 R (ssI 20 h R (λh=>?_) (λh=>?_))))))
    ·refine son R R R (sv R (Aa Aej R) (son R R R (sv R (l1 L3 R R R) (son R R R (sv R (Ap Aa5 R) (son R R R (sv R (Dr R R) (rm 1 R (son R R R (sv R (Bz R) (rm 2 R (Ah (Bq ?_)))))))))))))
     obtain rfl:=SJ h
     exact dnT R R R R
    ·refine rm 5 R (son R R R (sv R (Bz R) (rm 2 R (Ah (Bq ?_)))))
     obtain rfl:=SJ h
     exact dnT R R R R
   ·refine rm 3 R (Cp R R R (Cp R R R (Cp R R R (Cp R R R (rm 4 R (Ah (Bq ?_)))))))
    obtain rfl:=SJ h
    exact dnT R R R R
  ·refine rm 9 R (Cp R R R (Cp R R R (Cp R R R (Cp R R R (rm 4 R (Ah (Bq ?_)))))))
   obtain rfl:=SJ h
   exact dnT R R R R
 ·refine rm 14 R (Cp R R R (Cp R R R (Cp R R R (Cp R R R (rm 4 R (Ah (Bq ?_)))))))
  obtain rfl:=SJ h
  exact dnT R R R R
def J5 (s1:Int) (x1:Int×A8):Option ((Int) ⊕ (Nat×(Int))) :=
 (Gp x1.2).bind λv2=>if (!v2) then(some (.inr (0,s1))) else(if (decide (s1<=x1.2.Ts)) then(some (.inr (0,s1))) else(some (.inl x1.2.Ts)))
def Mw (s3:Int):Option Bool :=
 some true
def M0 (s4:Int):Option Bool :=
 some false
def E9 (a0:Am):Option Bool :=
 (Amg a0).bind λL1=>(Tj J5 L1 1099511627777).bind λe=>Ag2 Mw M0 (λ_ _=>none) e
theorem Qt {a0:Am} {r:Bool} (h:E9 a0=some r):Bt Qx0 108 [.agg [SL a0.L A9]] (·=L7 (.b r)):=by
 unfold E9 at h
 refine Zi Tryz.func108 R (nt:=21) R (Nbl R) ?_
 intro w0 S0
 refine Adl (Kc R (λw0 S0 X0 m0 H0=>?_))
 refine Aof R R R (Br R zi4 (Ah (Adl (Kc R (λw0 S0 X0 m0 H0=>?_)))))
 refine Br R zi3 (sst sz3 R R R R R (Ah (Adl (Adl (Kc R (λw0 S0 X0 m0 H0=>?_))))))
 refine sv R (Bs (ys:=[SL a0.L A9]) Qo R (.cp _) R R) (Bb R Awg (Ac R Ag) (Ao R) M9 (Ah (Aeb ?_)))
 obtain⟨L1,hL1,h⟩:=Ae h
 obtain⟨e1,he1,h⟩:=Ae h
 refine Ajr J5 L1 (λx1=>.one (Ii6 x1.1)) (λx1=>.agg (EL.el x1.2)) (λs1=>[.box [.b false],.box [Ii6 s1]]) 1099511627777 he1 R Aw1 R (Aje hL1) R R R (λ_=>R) (λ_=>Uz R) ?_ ?_ ?_ ?_
 ·clear h
  intro x1 s1 y1 l h w0 S0 X0 H0
  unfold J5 at h
  refine Kc R (λw0 S0 X0 m0 H0=>?_)
  refine Br R Afv (sst Ajl R R R R R (Ah (λw0 S0 X0 H0=>?_)))
  refine Aeb (Adl (Adl (Kc R (λw0 S0 X0 m0 H0=>?_))))
  refine sv R (lo Ah3 R R R) ?_
  obtain⟨v2,hv2,h⟩:=Ae h
  refine Bb R Axr (Ac R Ag) (Ao R) (R6 hv2) (sv R (Bz R) (rm 1 R (ssI 13 h R (λh=>?_) (λh=>?_))))
  ·refine rm 5 R (Ah (Auy R (λ_=>?_) (λhx=>Bool.noConfusion hx)))
   refine Adl (Kc R (λw0 S0 X0 m0 H0=>?_))
   refine sst sz4 R R R R R (Ah (Awh (Af (Av ?_))))
   obtain rfl:=SJ h
   exact⟨s1,_,R,R⟩
  ·refine son R R R (sv R (Aa Wm R) (son R R R (sv R (l1 ti3 R R R) (son R R R (sv R (l1 ti3 R R R) (son R R R (sv R (Ii R R) (rm 1 R (Ah (Auy R (λhc=>?_) (λhc=>?_)))))))))))
   ·replace h:=Q5 hc h
    clear hc
    refine Adl (Kc R (λw0 S0 X0 m0 H0=>?_))
    refine sst sz4 R R R R R (Ah (Awh (Af (Av ?_))))
    obtain rfl:=SJ h
    exact⟨s1,_,R,R⟩
   ·replace h:=Qy hc h
    clear hc
    refine Ayd (Ab (Kc R (λw0 S0 X0 m0 H0=>?_)))
    refine fl Wm ti3 R R R R R R (sst sz3 R R R R R (Jb (Ar ?_)))
    obtain rfl:=SJ h
    exact⟨x1.2.Ts,_,R,R⟩
 ·intro s3 hs
  obtain rfl:=hs
  replace h:Mw s3=some r:=h
  unfold Mw at h
  refine Ar (Ab (Adl (Kc R (λw0 S0 X0 m0 H0=>?_))))
  refine sst sz4 R R R R R (Ah (Awh ?_))
  obtain rfl:=SJ h
  exact dn (Ad (Ak5.one _ _ _ _ _ ti4 R (.lp _ _ _ R) R) Aj) (Ao R) R
 ·intro s4 hs
  obtain rfl:=hs
  replace h:M0 s4=some r:=h
  unfold M0 at h
  refine Av (Af ?_)
  obtain rfl:=SJ h
  exact dn (Ad (Ak5.one _ _ _ _ _ ti4 R (.lp _ _ _ R) R) Aj) (Ao R) R
 ·intro id s hs
  obtain rfl:=hs
  replace h:none=some r:=h
  cases h
def Pm (s1:Int) (x1:Int×A8):Option ((Int) ⊕ (Nat×(Int))) :=
 some (.inr (0,x1.2.Ts))
def Pl (s2:Int):Option Int :=
 some 0
def P8 (s3:Int):Option Int :=
 some s3
def K9 (a0:Am):Option Int :=
 (Amg a0).bind λL1=>(Tj Pm L1 0).bind λe=>Ag2 Pl P8 (λ_ _=>none) e
theorem Uy {a0:Am} {r:Int} (h:K9 a0=some r):Bt Qx0 109 [.agg [SL a0.L A9]] (·=L7 (Ii6 r)):=by
 unfold K9 at h
 refine Zi Tryz.func109 R (nt:=11) R (Nbl R) ?_
 intro w0 S0
 refine Adl (Kc R (λw0 S0 X0 m0 H0=>?_))
 refine Aof R R R (Br R zi3 (Ah (Adl (Adl (Kc R (λw0 S0 X0 m0 H0=>?_))))))
 refine sv R (Bs (ys:=[SL a0.L A9]) Qo R (.cp _) R R) (Bb R Awg (Ac R Ag) (Ao R) M9 (Ah (Aeb ?_)))
 obtain⟨L1,hL1,h⟩:=Ae h
 obtain⟨e1,he1,h⟩:=Ae h
 refine Ajr Pm L1 (λx1=>.one (Ii6 x1.1)) (λx1=>.agg (EL.el x1.2)) (λs1=>[.box [Ii6 s1]]) 0 he1 R Aw1 R (Aje hL1) R R R (λ_=>R) (λ_=>Uz R) ?_ ?_ ?_ ?_
 ·clear h
  intro x1 s1 y1 l h w0 S0 X0 H0
  unfold Pm at h
  refine Kc R (λw0 S0 X0 m0 H0=>?_)
  refine Br R Afv (sst Ajl R R R R R (Ah (λw0 S0 X0 H0=>?_)))
  refine Aeb (Adl (Kc R (λw0 S0 X0 m0 H0=>?_)))
  refine fl Wm ti3 R R R R R R (sst sz3 R R R R R (Ah (Awh (Av ?_))))
  obtain rfl:=SJ h
  exact⟨x1.2.Ts,_,R,R⟩
 ·intro s2 hs
  obtain rfl:=hs
  replace h:Pl s2=some r:=h
  unfold Pl at h
  refine Ar (Ab (Adl (Kc R (λw0 S0 X0 m0 H0=>?_))))
  refine sst sz3 R R R R R (Ah (Awh ?_))
  obtain rfl:=SJ h
  exact dn (Ad (Ak5.one _ _ _ _ _ ti3 R (.lp _ _ _ R) R) Aj) (Ao R) R
 ·intro s3 hs
  obtain rfl:=hs
  replace h:P8 s3=some r:=h
  unfold P8 at h
  refine Av (Af ?_)
  obtain rfl:=SJ h
  exact dn (Ad (Ak5.one _ _ _ _ _ ti3 R (.lp _ _ _ R) R) Aj) (Ao R) R
 ·intro id s hs
  obtain rfl:=hs
  replace h:none=some r:=h
  cases h
def Qv (b2:Unit):Option Bool :=
 some true
def Ie (a0:B2) (s3:Int):Option (LR (Int) (Unit) (Bool)) :=
 if (decide (s3<(a0.Chains.length:Int))) then((idx a0.Chains s3).bind λu4=>if (decide ((u4.L.length:Int)=0)) then(some (.ret false)) else((E9 u4).bind λv5=>if (!v5) then(some (.ret false)) else((K9 u4).bind λv6=>if (decide (a0.Ts<v6)) then(some (.ret false)) else(some (.cont (wI (s3+1))))))) else(some (.brk ()))
def N8 (a0:B2) (b1:Unit):Option Bool :=
 (Iz (Ie a0) fuel 0).bind λx=>match x with | .inl r=>some r | .inr e7=>Qv e7
def Dh (a0:B2):Option Bool :=
 if (decide (a0.Ts<0)) then(some false) else(if (decide (1099511627776<a0.Ts)) then(some false) else(if (decide (128<(a0.Keys.length:Int))) then(some false) else(if (!decide ((a0.Chains.length:Int)=(a0.Keys.length:Int))) then(some false) else((Et a0.Keys).bind λv8=>if (!v8) then(some false) else(N8 a0 ())))))
theorem L9 {a0:B2} {r:Bool} (h:Dh a0=some r):Bt Qx0 45 [.agg (EL.el a0)] (·=L7 (.b r)):=by
 unfold Dh at h
 refine A1 Tryz.func45 R (nt:=58) R (Nbl R) ?_
 intro w0 S0
 refine csr (Er R R (rm 1 R (Ah (Bj (Bj (cj3 (Unit) (λb1=>[(1,L7 (.lp 0 0))]) (λb1=>[.box (EL.el a0)]) (λb1=>N8 a0 b1=some r) (λ_=>R) (λb1 h=>?_) ?_))))))
 ·unfold N8 at h
  refine Bj (csr (fl Qp Aig R R R R R R (sv R (Ap Am3 R) (rm 1 R (Ah (cj (Unit) (λb2=>[]) (λb2=>[.box (EL.el a0)]) (λb2=>Qv b2=some r) (λ_=>R) (λb2 h=>?_) ?_))))))
  ·unfold Qv at h
   refine csr (rm 1 R (Ah (Bq ?_)))
   obtain rfl:=SJ h
   exact dnT R R R R
  ·skip
   refine Bl ?_
   obtain⟨x3,hx3,ho3⟩:=Ae h
   refine lpo (G:=Nat×(Int)) (λg=>[(1,L7 (.lp 0 0)),(35,L7 (SL a0.Chains Ay)),(36,L7 (Ii6 (a0.Chains.length:Int))),(37,L7 (Ii6 g.2))]) (λg=>[.box (EL.el a0)]) (λg=>Iz (Ie a0) g.1 g.2=some x3) (λg=>g.1) (fuel,0) hx3 ⟨R,R,R,R,trivial⟩ [] R (λ_=>R) ?_
   clear hx3 h
   rintro⟨n3,s3⟩ h
   obtain⟨n3,y3,rfl,h,hk3⟩:=Dj h
   unfold Ie at h
   refine csr (sv R (Bv R R) (Ah (Bj (ccI h R (λh=>?_) (λh=>?_)))))
   ·refine Bf (Ab (Bj (Bl (Bj (Au ?_)))))
    obtain⟨u4,hu4,h⟩:=Ae h
    refine sv R (B4 (f:=Ay) Am3 (λ_=>R) R R R R hu4) ?_
    refine sv R (Bs (ys:=[SL u4.L A9]) Qo R (.cp _) R R) (Br R Aat (sst Aaz R R R R R (Ah (Bj ?_))))
    refine Ue mixed (by kernel_rfl) ?_
    refine dv R (Aa T5 R) (dv R (l1 Aa8 R R R) (dv R (Ap W8 R) (dv R (B6 R R) (dv R (Az R) (Qd 45 R (λhc=>?_) (λhc=>?_))))))
    ·replace h:=Q5 hc h
     clear hc
     refine C0 R R R R (C0 R R R R (C0 R R R R (dv R (Ch R R) (dv R (Az R) (C0 R R R R (C0 R R R R (C0 R R R R (C0 R R R R (C0 R R R R (dv R (Ch R R) (U8 (Ab (Ce R (λ_=>?_) (λhx=>Bool.noConfusion hx))))))))))))))
     refine csr (rm 1 R (Ah (Bq (Av (Af (Af (Av (Af ?_))))))))
     obtain rfl:=SJ h
     obtain rfl:Sum.inl _=x3:=hk3
     replace ho3:some _=some _:=ho3
     obtain rfl:=zD ho3
     exact dnT R R R R
    ·replace h:=Qy hc h
     clear hc
     refine dvg R R R (lo Qo R R R) ?_
     obtain⟨v5,hv5,h⟩:=Ae h
     refine ddg R R R (Cm Awy (Ac R Ag) R (Qt hv5)) (dvg R R R (Bz R) (dv R (Cl R R) (dv R (Az R) (Qd 50 R (λhc=>?_) (λhc=>?_)))))
     ·replace h:=Q5 hc h
      clear hc
      refine C0 R R R R (C0 R R R R (C0 R R R R (C0 R R R R (C0 R R R R (dv R (Ch R R) (U8 (Ab (Ce R (λ_=>?_) (λhx=>Bool.noConfusion hx)))))))))
      refine csr (rm 1 R (Ah (Bq (Av (Af (Af (Av (Af ?_))))))))
      obtain rfl:=SJ h
      obtain rfl:Sum.inl _=x3:=hk3
      replace ho3:some _=some _:=ho3
      obtain rfl:=zD ho3
      exact dnT R R R R
     ·replace h:=Qy hc h
      clear hc
      refine dvg R R R (lo Qo R R R) ?_
      obtain⟨v6,hv6,h⟩:=Ae h
      refine ddg R R R (Cm Aza (Ac R Ag) R (Uy hv6)) (dvg R R R (Aa M8 R) (dvg R R R (l1 ti3 R R R) (dvg R R R (Dr R R) (dv R (Cl R R) (U8 (Ab (ccI h R (λh=>?_) (λh=>?_))))))))
      ·refine csr (rm 1 R (Ah (Bq (Av (Af (Af (Av (Af ?_))))))))
       obtain rfl:=SJ h
       obtain rfl:Sum.inl _=x3:=hk3
       replace ho3:some _=some _:=ho3
       obtain rfl:=zD ho3
       exact dnT R R R R
      ·refine Bf (Ar (Ab (Au (sv R (Bp R R) (rm 1 R (Ah ?_))))))
       obtain rfl:=SJ h
       exact⟨(n3,(wI (s3+1))),_,hk3,⟨R,R,R,R,trivial⟩,R,zG _⟩
   ·refine C3 (As (As (Bi (Ab ?_))))
    obtain rfl:=SJ h
    obtain rfl:_=x3:=hk3
    exact⟨(),_,ho3,trivial,R⟩
 ·skip
  refine Au (fl M8 ti3 R R R R R R (sv R (Bv R R) (rm 1 R (ssI 8 h R (λh=>?_) (λh=>?_)))))
  ·refine rm 25 R (Ah (Ce R (λ_=>?_) (λhx=>Bool.noConfusion hx)))
   refine csr (rm 1 R (Ah (Bq (Af ?_))))
   obtain rfl:=SJ h
   exact dnT R R R R
  ·refine son R R R (sv R (Aa M8 R) (son R R R (sv R (l1 ti3 R R R) (son R R R (sv R (Dr R R) (rm 2 R (ssI 13 h R (λh=>?_) (λh=>?_))))))))
   ·refine rm 20 R (Ah (Ce R (λ_=>?_) (λhx=>Bool.noConfusion hx)))
    refine csr (rm 1 R (Ah (Bq (Af ?_))))
    obtain rfl:=SJ h
    exact dnT R R R R
   ·refine son R R R (sv R (Aa R9 R) (son R R R (sv R (l1 Xo R R R) (son R R R (sv R (Ap Se R) (son R R R (sv R (Dr R R) (rm 2 R (ssI 19 h R (λh=>?_) (λh=>?_))))))))))
    ·refine rm 14 R (Ah (Ce R (λ_=>?_) (λhx=>Bool.noConfusion hx)))
     refine csr (rm 1 R (Ah (Bq (Af ?_))))
     obtain rfl:=SJ h
     exact dnT R R R R
    ·refine son R R R (sv R (Aa Qp R) (son R R R (sv R (l1 Aig R R R) (son R R R (sv R (Ap Am3 R) (son R R R (sv R (Aa R9 R) (son R R R (sv R (l1 Xo R R R) (son R R R (sv R (Ap Se R) (son R R R (sv R (Cc R R) (rm 2 R (ssI 28 h R (λh=>?_) (λh=>?_))))))))))))))))
     ·refine rm 5 R (Ah (Ce R (λ_=>?_) (λhx=>Bool.noConfusion hx)))
      refine csr (rm 1 R (Ah (Bq (Af ?_))))
      obtain rfl:=SJ h
      exact dnT R R R R
     ·refine son R R R (sv R (Aa R9 R) (son R R R (sv R (l1 Xo R R R) (son R R R ?_))))
      obtain⟨v8,hv8,h⟩:=Ae h
      refine Bb R A0k (Ac R Ag) (Ao R) (Ri hv8) (son R R R (sv R (Bz R) (rm 1 R (Ah (ccI h R (λh=>?_) (λh=>?_))))))
      ·refine csr (rm 1 R (Ah (Bq (Af ?_))))
       obtain rfl:=SJ h
       exact dnT R R R R
      ·refine Bf (Ab ?_)
       exact⟨(),_,h,⟨R,trivial⟩,R⟩
def E6 (a0:Bh):Option Bool :=
 if (decide ((a0.Lo.length:Int)<=17)) then(if (decide ((a0.Hi.length:Int)<=17)) then(if a0.Open then(some (!(decide (0<(a0.Hi.length:Int))))) else(some true)) else(some false)) else(some false)
theorem R1 {a0:Bh} {r:Bool} (h:E6 a0=some r):Bt Qx0 71 [.agg (EL.el a0)] (·=L7 (.b r)):=by
 unfold E6 at h
 refine A1 Tryz.func71 R (nt:=24) R (Nbl R) ?_
 intro w0 S0
 refine csr (Er R R (rm 1 R (Ah (csr (fl Aai L3 R R R R R R (sv R (Ap Aa5 R) (sv R (Dk R R) (rm 1 R (ssI 7 h R (λh=>?_) (λh=>?_))))))))))
 ·refine son R R R (sv R (Aa Xh R) (son R R R (sv R (l1 L3 R R R) (son R R R (sv R (Ap Aa5 R) (son R R R (sv R (Dk R R) (rm 2 R (ssI 13 h R (λh=>?_) (λh=>?_))))))))))
  ·refine son R R R (sv R (Aa Ad5 R) (son R R R (sv R (l1 ti4 R R R) (rm 1 R (ssI 16 h R (λh=>?_) (λh=>?_))))))
   ·refine son R R R (sv R (Aa Xh R) (son R R R (sv R (l1 L3 R R R) (son R R R (sv R (Ap Aa5 R) (son R R R (sv R (Dr R R) (rm 1 R (son R R R (sv R (Bz R) (rm 2 R (Ah (Bq ?_)))))))))))))
    obtain rfl:=SJ h
    exact dnT R R R R
   ·refine rm 5 R (son R R R (sv R (Bz R) (rm 2 R (Ah (Bq ?_)))))
    obtain rfl:=SJ h
    exact dnT R R R R
  ·refine rm 3 R (Cp R R R (Cp R R R (Cp R R R (Cp R R R (rm 4 R (Ah (Bq ?_)))))))
   obtain rfl:=SJ h
   exact dnT R R R R
 ·refine rm 9 R (Cp R R R (Cp R R R (Cp R R R (Cp R R R (rm 4 R (Ah (Bq ?_)))))))
  obtain rfl:=SJ h
  exact dnT R R R R
def F4 (a0:Bh) (b1:Bool):Option Bool :=
 if b1 then(some true) else((Jp a0.Hi a0.Lo).bind λv2=>some (decide (v2<=0)))
def Hs (a0:Bh):Option Bool :=
 if a0.Open then(some false) else(if (decide ((a0.Lo.length:Int)=0)) then(if (decide ((a0.Hi.length:Int)=1)) then((idx a0.Hi 0).bind λu3=>F4 a0 (decide ((u3.toBitVec.toNat:Int)=(0:Int)))) else(F4 a0 false)) else(F4 a0 false))
theorem Vm {a0:Bh} {r:Bool} (h:Hs a0=some r):Bt Qx0 72 [.agg (EL.el a0)] (·=L7 (.b r)):=by
 unfold Hs at h
 refine A1 Tryz.func72 R (nt:=32) R (Nbl R) ?_
 intro w0 S0
 refine csr (Er R R (rm 1 R (Ah (Bj (csr (fl Ad5 ti4 R R R R R R (Ah (ccI h R (λh=>?_) (λh=>?_)))))))))
 ·refine csr (rm 1 R (Ah (Bq (Af ?_))))
  obtain rfl:=SJ h
  exact dnT R R R R
 ·refine Bf (Ab (Bj (cj (Bool) (λb1=>[(1,L7 (.lp 0 0)),(3,L7 (.b b1))]) (λb1=>[.box (EL.el a0)]) (λb1=>F4 a0 b1=some r) (λ_=>R) (λb1 h=>?_) ?_)))
  ·unfold F4 at h
   refine csr (rm 2 R (ssI 24 h R (λh=>?_) (λh=>?_)))
   ·refine rm 8 R (Ah (Bq ?_))
    obtain rfl:=SJ h
    exact dnT R R R R
   ·refine son R R R (sv R (Aa Xh R) (son R R R (sv R (l1 L3 R R R) (son R R R (sv R (Aa Aai R) (son R R R (sv R (l1 L3 R R R) (son R R R ?_))))))))
    obtain⟨v2,hv2,h⟩:=Ae h
    refine Bb R Ao7 (Ac R (Ac R Ag)) (Ao R) (Ns hv2) (son R R R (sv R (Dk R R) (rm 2 R (Ah (Bq ?_)))))
    obtain rfl:=SJ h
    exact dnT R R R R
  ·skip
   refine Au (fl Aai L3 R R R R R R (sv R (Ap Aa5 R) (sv R (B6 R R) (rm 1 R (ssI 10 h R (λh=>?_) (λh=>?_))))))
   ·refine son R R R (sv R (Aa Xh R) (son R R R (sv R (l1 L3 R R R) (son R R R (sv R (Ap Aa5 R) (son R R R (sv R (B6 R R) (rm 2 R (ssI 16 h R (λh=>?_) (λh=>?_))))))))))
    ·refine son R R R (sv R (Aa Xh R) (son R R R (sv R (l1 L3 R R R) (son R R R ?_))))
     obtain⟨u3,hu3,h⟩:=Ae h
     refine sv R (B4 (f:=eU8) Aa5 (λ_=>R) R R R R hu3) ?_
     refine son R R R (sv R (B0 ti5 R (.cp _) R) (son R R R (sv R (B6 R R) (rm 2 R (Ah ?_)))))
     exact⟨(decide ((u3.toBitVec.toNat:Int)=(0:Int))),_,h,⟨R,R,trivial⟩,R⟩
    ·refine rm 7 R (Ah ?_)
     exact⟨false,_,h,⟨R,R,trivial⟩,R⟩
   ·refine rm 13 R (Ah ?_)
    exact⟨false,_,h,⟨R,R,trivial⟩,R⟩
def Dv (a0:A4):Option Bool :=
 if (decide (0<=a0.Tx)) then((E6 a0.Rng).bind λv1=>if v1 then((Hs a0.Rng).bind λv2=>some (!v2)) else(some false)) else(some false)
theorem Re {a0:A4} {r:Bool} (h:Dv a0=some r):Bt Qx0 184 [.agg (EL.el a0)] (·=L7 (.b r)):=by
 unfold Dv at h
 refine A1 Tryz.func184 R (nt:=17) R (Nbl R) ?_
 intro w0 S0
 refine csr (Er R R (rm 1 R (Ah (csr (fl Ab9 ti3 R R R R R R (sv R (Ii R R) (rm 1 R (ssI 6 h R (λh=>?_) (λh=>?_)))))))))
 ·refine son R R R (sv R (Aa Yd R) (son R R R (ld Ac4 R R R R (son R R R ?_))))
  obtain⟨v1,hv1,h⟩:=Ae h
  refine Bb R A46 (Ac R Ag) (Ao R) (R1 hv1) (rm 2 R (ssI 11 h R (λh=>?_) (λh=>?_)))
  ·refine son R R R (sv R (Aa Yd R) (son R R R (ld Ac4 R R R R (son R R R ?_))))
   obtain⟨v2,hv2,h⟩:=Ae h
   refine Bb R A4x (Ac R Ag) (Ao R) (Vm hv2) (son R R R (sv R (Bz R) (rm 2 R (Ah (Bq ?_)))))
   obtain rfl:=SJ h
   exact dnT R R R R
  ·refine rm 6 R (Ah (Bq ?_))
   obtain rfl:=SJ h
   exact dnT R R R R
 ·refine rm 11 R (Ah (Bq ?_))
  obtain rfl:=SJ h
  exact dnT R R R R
def J0 (a0:A4):Option Cn :=
 some (Cn.mk a0.Tx a0.Rng.Lo a0.Rng.Hi a0.Rng.Open)
theorem Sa {a0:A4} {r:Cn} (h:J0 a0=some r):Bt Qx0 236 [.agg (EL.el a0)] (·=.s (.agg (EL.el r))):=by
 unfold J0 at h
 refine A1 Tryz.func236 R (nt:=17) R (Nbl R) ?_
 intro w0 S0
 refine csr (Er R R (Br R Axz (Ah (csr (fl Ab9 ti3 R R R R R R (sv R (Aa Yd R) (fl Aai L3 R R R R R R (sv R (Ma (l:=a0.Rng.Lo) Tryz.underlying56 Tryz.underlying5 Tryz.underlying9 R R R) (sv R (Aa Yd R) (fl Xh L3 R R R R R R (sv R (Ma (l:=a0.Rng.Hi) Tryz.underlying56 Tryz.underlying5 Tryz.underlying9 R R R) (sv R (Aa Yd R) (fl Ad5 ti4 R R R R R R (sv R (A2 Axz A3v (Aq R (Aq R (Aq R (Aq R A0)))) (.cons _ _ _ _ _ _ _ R R (Nbl R) (.cons _ _ _ _ _ _ _ R R (Nbl R) (.cons _ _ _ _ _ _ _ R R (Nbl R) (.cons _ _ _ _ _ _ _ R R (Nbl R) (.nil _)))))) (sst A3o R R R R R (Ah (Bq ?_)))))))))))))))))
 obtain rfl:=SJ h
 exact dnA R A2v R (.lp _ _ _ R) (Nbl R) R R
def Oo (b1:(List (Cn×Int))):Option (List (Cn×Int)) :=
 some b1
def Fi (a0:List A4) (s2:Int×(List (Cn×Int))):Option (LB (Int×(List (Cn×Int))) ((List (Cn×Int)))) :=
 if (decide (s2.1<(a0.length:Int))) then((idx a0 s2.1).bind λu3=>(J0 u3).bind λv4=>some (.cont ((wI (s2.1+1)),(Yc s2.2 v4 s2.1)))) else(some (.brk s2.2))
def H9 (a0:List A4):Option (List (Cn×Int)) :=
 (Cz (Fi a0) fuel (0,([]:List (Cn×Int)))).bind λe5=>Oo e5
theorem Ta {a0:List A4} {r:(List (Cn×Int))} (h:H9 a0=some r):Dw Qx0 185 [] [.one (SL a0 Ax)] (λy m'=>y=L7 (.mp 0 0)/\m'=[Xb Eb r]):=by
 unfold H9 at h
 refine Dn Tryz.func185 R (nt:=20) R (Nbl R) ?_
 intro w0 S0 X0 H0
 refine csr (rm 1 R (Ah (csr (Asp Eb R (rm 1 R (Ah (Bj (csr (rm 1 R (sv R (Ap Acb R) (rm 1 R (Ah (cj ((List (Cn×Int))) (λb1=>[(3,L7 (.mp 0 0))]) (λb1=>[Xb Eb b1]) (λb1=>Oo b1=some r) (λ_=>R) (λb1 h=>?_) ?_)))))))))))))
 ·unfold Oo at h
  refine csr (rm 2 R (Ah (Bq ?_)))
  obtain rfl:=SJ h
  exact⟨Or.inr R,_,[0],[.one (.mp 0 0)],[Xb Eb b1],(Ad (rt R) Aj),R,R,⟨by decide,R⟩,R,R,⟨R,R⟩⟩
 ·skip
  refine Bl ?_
  obtain⟨x2,hx2,ho2⟩:=Ae h
  refine lpo (G:=Nat×(Int×(List (Cn×Int)))) (λg=>[(3,L7 (.mp 0 0)),(7,L7 (SL a0 Ax)),(8,L7 (Ii6 (a0.length:Int))),(9,L7 (Ii6 g.2.1))]) (λg=>[Xb Eb g.2.2]) (λg=>Cz (Fi a0) g.1 g.2=some x2) (λg=>g.1) (fuel,(0,([]:List (Cn×Int)))) hx2 ⟨R,R,R,R,trivial⟩ [] R (λ_=>R) ?_
  clear hx2 h
  rintro⟨n2,s2⟩ h
  obtain⟨n2,y2,rfl,h,hk2⟩:=Cw h
  unfold Fi at h
  refine csr (sv R (Bv R R) (Ah (Bj (ccI h R (λh=>?_) (λh=>?_)))))
  ·refine Bf (Ab (Bj (Bl (csr (sv R (Az R) ?_)))))
   obtain⟨u3,hu3,h⟩:=Ae h
   refine sv R (B4 (f:=Ax) Acb (λ_=>R) R R R R hu3) ?_
   refine sv R (Bs (ys:=[Ii6 u3.Tx,SL u3.Rng.Lo eU8,SL u3.Rng.Hi eU8,.b u3.Rng.Open]) Adj R (.cp _) R R) (Br R Amu (rm 1 R (sst Aqm R R R R R (Ah (Au (rm 1 R (sv R (lo Adj R R R) ?_)))))))
   obtain⟨v4,hv4,h⟩:=Ae h
   refine Bb R Azt (Ac R Ag) (Ao R) (Sa hv4) (rm 1 R (Awj (M:=s2.2) (k:=v4) (i:=s2.1) A0g Tryz.underlying299 R R R R (Ql [Xb Eb (Yc s2.2 v4 s2.1),.box (EL.el u3)] R (Jb (Ar (Ab (Au (sv R (Bp R R) (rm 1 R (Ah ?_))))))))))
   obtain rfl:=SJ h
   exact⟨(n2,((wI (s2.1+1)),(Yc s2.2 v4 s2.1))),_,hk2,⟨R,R,R,R,trivial⟩,R,zG _⟩
  ·refine C3 (As (As (Bi (Ab ?_))))
   obtain rfl:=SJ h
   obtain rfl:_=x2:=hk2
   exact⟨s2.2,_,ho2,⟨R,trivial⟩,R⟩
def Jh (a0:B3) (b1:Unit):Option Bool :=
 if (decide ((a0.L.length:Int)<=128)) then((H9 a0.L).bind λv3=>some (decide ((v3.length:Int)=(a0.L.length:Int)))) else(some false)
def Gy (a0:B3) (s4:Int):Option (LR (Int) (Unit) (Bool)) :=
 if (decide (s4<(a0.L.length:Int))) then((idx a0.L s4).bind λu5=>(Dv u5).bind λv6=>if (!v6) then(some (.ret false)) else(some (.cont (wI (s4+1))))) else(some (.brk ()))
def Gg (a0:B3):Option Bool :=
 (Iz (Gy a0) fuel 0).bind λx=>match x with | .inl r=>some r | .inr e7=>Jh a0 e7
theorem Us {a0:B3} {r:Bool} (h:Gg a0=some r):Bt Qx0 110 [.agg [SL a0.L Ax]] (·=L7 (.b r)):=by
 unfold Gg at h
 refine A1 Tryz.func110 R (nt:=30) R (Nbl R) ?_
 intro w0 S0
 refine csr (Er R R (rm 1 R (Ah (Bj (csr (fl Uc Ah8 R R R R R R (sv R (Ap Acb R) (rm 1 R (Ah (cj (Unit) (λb1=>[(1,L7 (.lp 0 0))]) (λb1=>[.box [SL a0.L Ax]]) (λb1=>Jh a0 b1=some r) (λ_=>R) (λb1 h=>?_) ?_))))))))))
 ·unfold Jh at h
  refine Bj (Adc ?_)
  rcases Bool.eq_false_or_eq_true (decide ((a0.L.length:Int)<=128)) with hg2|hg2
  ·replace h:=Q5 hg2 h
   obtain⟨v3,hv3,h⟩:=Ae h
   refine Kb [7] [0,1,3,7,15,31,63,127,255,31,543,1567,4095,8191,16383] [[.box [SL a0.L Ax],.hole],[.box [SL a0.L Ax],Xb Eb v3]] (by kernel_rfl) mixed (by kernel_rfl) (by decide) R R R R ?_
   refine ev (A6 0 R R) R R (Aa Uc R) (ev (A6 0 R R) R R (l1 Ah8 R R R) (ev (A6 0 R R) R R (Ap Acb R) (ev (A6 0 R R) R R (Dk R R) (ev (A6 0 R R) R R (Az R) (Aug 20 R (λ_=>?_) (λhx=>Bool.noConfusion (hg2.symm.trans hx)))))))
   refine evg (A6 0 R R) R R R R (Aa Uc R) (evg (A6 0 R R) R R R R (l1 Ah8 R R R) (eeg (x:=L7 (.mp 0 1)) 0 R R R R R R R (λζ=>?_) ?_))
   ·refine Agm 1 R Azk (.func _) (Ac R Ag) (Ta hv3) R R R ?_
    exact U9
   refine evg (A6 1 R R) R R R R (Amr (e:=Eb) (M:=v3) Tryz.underlying299 R R) (evg (B9 (md:=[.box [SL a0.L Ax],.dead]) ⟨⟨R,⟨trivial,trivial⟩⟩,⟨⟨R,⟨trivial,trivial⟩⟩,trivial⟩⟩) R R R R (Aa Uc R) (evg (B9 (md:=[.box [SL a0.L Ax],.dead]) ⟨⟨R,⟨trivial,trivial⟩⟩,⟨⟨R,⟨trivial,trivial⟩⟩,trivial⟩⟩) R R R R (l1 Ah8 R R R) (evg (B9 (md:=[.box [SL a0.L Ax],.dead]) ⟨⟨R,⟨trivial,trivial⟩⟩,⟨⟨R,⟨trivial,trivial⟩⟩,trivial⟩⟩) R R R R (Ap Acb R) (evg (A6 1 R R) R R R R (B6 R R) (ev (A6 1 R R) R R (Ch R R) (ev (A6 1 R R) R R (G0 R) (Adr (Ab (Bq ?_)))))))))
   obtain rfl:=SJ h
   exact dnT R R R R
  ·replace h:=Qy hg2 h
   refine Kb [] [0,1,3,7,15,31,63,127,255,31,543,1567,4095,8191,16383] [[.box [SL a0.L Ax],.hole]] (by kernel_rfl) mixed (by kernel_rfl) (by decide) R R R R ?_
   refine ev (A6 0 R R) R R (Aa Uc R) (ev (A6 0 R R) R R (l1 Ah8 R R R) (ev (A6 0 R R) R R (Ap Acb R) (ev (A6 0 R R) R R (Dk R R) (ev (A6 0 R R) R R (Az R) (Aug 20 R (λhx=>Bool.noConfusion (hg2.symm.trans hx)) (λ_=>?_))))))
   refine Ahy R R R R R (Ahy R R R R R (Ahy R R R R R (Ahy R R R R R (Ahy R R R R R (Ahy R R R R R (Ahy R R R R R (Ahy R R R R R (ev (A6 0 R R) R R (Cl R R) (ev (A6 0 R R) R R (G0 R) (Adr (Ab (Bq ?_))))))))))))
   obtain rfl:=SJ h
   exact dnT R R R R
 ·skip
  refine Bl ?_
  obtain⟨x4,hx4,ho4⟩:=Ae h
  refine lpo (G:=Nat×(Int)) (λg=>[(1,L7 (.lp 0 0)),(6,L7 (SL a0.L Ax)),(7,L7 (Ii6 (a0.L.length:Int))),(8,L7 (Ii6 g.2))]) (λg=>[.box [SL a0.L Ax]]) (λg=>Iz (Gy a0) g.1 g.2=some x4) (λg=>g.1) (fuel,0) hx4 ⟨R,R,R,R,trivial⟩ [] R (λ_=>R) ?_
  clear hx4 h
  rintro⟨n4,s4⟩ h
  obtain⟨n4,y4,rfl,h,hk4⟩:=Dj h
  unfold Gy at h
  refine csr (sv R (Bv R R) (Ah (Bj (ccI h R (λh=>?_) (λh=>?_)))))
  ·refine Bf (Ab (Bj (Bl (Bj (Au ?_)))))
   obtain⟨u5,hu5,h⟩:=Ae h
   refine sv R (B4 (f:=Ax) Acb (λ_=>R) R R R R hu5) ?_
   refine sv R (Bs (ys:=[Ii6 u5.Tx,SL u5.Rng.Lo eU8,SL u5.Rng.Hi eU8,.b u5.Rng.Open]) Adj R (.cp _) R R) (Br R Amu (sst Aqm R R R R R (Ah (csr (sv R (lo Adj R R R) ?_)))))
   obtain⟨v6,hv6,h⟩:=Ae h
   refine Bb R Ax1 (Ac R Ag) (Ao R) (Re hv6) (sv R (Bz R) (Ah (ccI h R (λh=>?_) (λh=>?_))))
   ·refine csr (rm 1 R (Ah (Bq (Av (Af (Af (Av (Af ?_))))))))
    obtain rfl:=SJ h
    obtain rfl:Sum.inl _=x4:=hk4
    replace ho4:some _=some _:=ho4
    obtain rfl:=zD ho4
    exact dnT R R R R
   ·refine Bf (Ar (Ab (Au (sv R (Bp R R) (rm 1 R (Ah ?_))))))
    obtain rfl:=SJ h
    exact⟨(n4,(wI (s4+1))),_,hk4,⟨R,R,R,R,trivial⟩,R,zG _⟩
  ·refine C3 (As (As (Bi (Ab ?_))))
   obtain rfl:=SJ h
   obtain rfl:_=x4:=hk4
   exact⟨(),_,ho4,⟨R,trivial⟩,R⟩
def Hd (a0:List (List UInt8)) (b1:Unit):Option Bool :=
 (Cr a0).bind λv2=>some v2
def Fg (a0:List (List UInt8)) (s3:Int):Option (LR (Int) (Unit) (Bool)) :=
 if (decide (s3<(a0.length:Int))) then((idx a0 s3).bind λu4=>(Fa u4).bind λv5=>if (!v5) then(some (.ret false)) else(some (.cont (wI (s3+1))))) else(some (.brk ()))
def Hy (a0:List (List UInt8)):Option Bool :=
 (Iz (Fg a0) fuel 0).bind λx=>match x with | .inl r=>some r | .inr e6=>Hd a0 e6
theorem Sr {a0:List (List UInt8)} {r:Bool} (h:Hy a0=some r):Bt Qx0 186 [.one (SL a0 (eL eU8))] (·=L7 (.b r)):=by
 unfold Hy at h
 refine A1 Tryz.func186 R (nt:=17) R (Nbl R) ?_
 intro w0 S0
 refine csr (rm 1 R (Ah (Bj (csr (rm 1 R (sv R (Ap Se R) (rm 1 R (Ah (cj (Unit) (λb1=>[(0,L7 (SL a0 (eL eU8)))]) (λb1=>[]) (λb1=>Hd a0 b1=some r) (λ_=>R) (λb1 h=>?_) ?_)))))))))
 ·unfold Hd at h
  refine csr (sv R (Az R) ?_)
  obtain⟨v2,hv2,h⟩:=Ae h
  refine Bb R Asb (Ac R Ag) (Ao R) (Mu hv2) (rm 1 R (Ah (Bq ?_)))
  obtain rfl:=SJ h
  exact dnT R R R R
 ·skip
  refine Bl ?_
  obtain⟨x3,hx3,ho3⟩:=Ae h
  refine lpo (G:=Nat×(Int)) (λg=>[(0,L7 (SL a0 (eL eU8))),(5,L7 (SL a0 (eL eU8))),(6,L7 (Ii6 (a0.length:Int))),(7,L7 (Ii6 g.2))]) (λg=>[]) (λg=>Iz (Fg a0) g.1 g.2=some x3) (λg=>g.1) (fuel,0) hx3 ⟨R,R,R,R,trivial⟩ [] R (λ_=>R) ?_
  clear hx3 h
  rintro⟨n3,s3⟩ h
  obtain⟨n3,y3,rfl,h,hk3⟩:=Dj h
  unfold Fg at h
  refine csr (sv R (Bv R R) (Ah (Bj (ccI h R (λh=>?_) (λh=>?_)))))
  ·refine Bf (Ab (Bj (Bl (Bj (Au ?_)))))
   obtain⟨u4,hu4,h⟩:=Ae h
   refine sv R (B4 (f:=(eL eU8)) Se (λ_=>R) R R R R hu4) ?_
   refine sv R (B0 L3 R (.cp _) R) (rm 1 R (Ah (csr (sv R (Az R) ?_))))
   obtain⟨v5,hv5,h⟩:=Ae h
   refine Bb R A01 (Ac R Ag) (Ao R) (Pz hv5) (sv R (Bz R) (Ah (ccI h R (λh=>?_) (λh=>?_))))
   ·refine csr (rm 1 R (Ah (Bq (Av (Af (Af (Av (Af ?_))))))))
    obtain rfl:=SJ h
    obtain rfl:Sum.inl _=x3:=hk3
    replace ho3:some _=some _:=ho3
    obtain rfl:=zD ho3
    exact dnT R R R R
   ·refine Bf (Ar (Ab (Au (sv R (Bp R R) (rm 1 R (Ah ?_))))))
    obtain rfl:=SJ h
    exact⟨(n3,(wI (s3+1))),_,hk3,⟨R,R,R,R,trivial⟩,R,zG _⟩
  ·refine C3 (As (As (Bi (Ab ?_))))
   obtain rfl:=SJ h
   obtain rfl:_=x3:=hk3
   exact⟨(),_,ho3,⟨R,trivial⟩,R⟩
def Mp (a0:A3) (b1:Unit):Option Bool :=
 if (decide (a0.State=1)) then(if (decide (a0.End=0)) then(some (decide ((a0.Keys.length:Int)=0))) else(some false)) else(if (decide (a0.State=2)) then(if (decide (a0.Begin<a0.End)) then(if (decide (a0.End<=1099511627776)) then((Hy a0.Keys).bind λv2=>if v2 then(if a0.RO then(some (!(decide (0<(a0.Keys.length:Int))))) else(some true)) else(some false)) else(some false)) else(some false)) else(some false))
def K6 (a0:A3):Option Bool :=
 if (decide (a0.ID<0)) then(some false) else(if (decide (a0.Begin<0)) then(some false) else(if (decide (1099511627776<a0.Begin)) then(some false) else(Mp a0 ())))
theorem Un {a0:A3} {r:Bool} (h:K6 a0=some r):Bt Qx0 111 [.agg (EL.el a0)] (·=L7 (.b r)):=by
 unfold K6 at h
 refine A1 Tryz.func111 R (nt:=57) R (Nbl R) ?_
 intro w0 S0
 refine csr (Er R R (rm 1 R (Ah (Bj (Bj (cj3 (Unit) (λb1=>[(1,L7 (.lp 0 0))]) (λb1=>[.box (EL.el a0)]) (λb1=>Mp a0 b1=some r) (λ_=>R) (λb1 h=>?_) ?_))))))
 ·unfold Mp at h
  refine Bj (csr (fl Qb ti3 R R R R R R (Ah (Bl (csr (sv R (B6 R R) (rm 1 R (Ah (ccI h R (λh=>?_) (λh=>?_))))))))))
  ·refine csr (fl Rq ti3 R R R R R R (sv R (B6 R R) (rm 1 R (ssI 23 h R (λh=>?_) (λh=>?_)))))
   ·refine son R R R (sv R (Aa Ve R) (son R R R (sv R (l1 Xo R R R) (son R R R (sv R (Ap Se R) (son R R R (sv R (B6 R R) (rm 2 R (Ah (Bq (Av (Af ?_))))))))))))
    obtain rfl:=SJ h
    exact dnT R R R R
   ·refine rm 6 R (Ah (Bq (Av (Af ?_))))
    obtain rfl:=SJ h
    exact dnT R R R R
  ·refine csr (sv R (B6 R R) (rm 1 R (Ah (ccI h R (λh=>?_) (λh=>?_)))))
   ·refine csr (fl Rq ti3 R R R R R R (fl Wk ti3 R R R R R R (sv R (Dr R R) (rm 1 R (ssI 36 h R (λh=>?_) (λh=>?_))))))
    ·refine son R R R (sv R (Aa Rq R) (son R R R (sv R (l1 ti3 R R R) (son R R R (sv R (Dk R R) (rm 2 R (ssI 41 h R (λh=>?_) (λh=>?_))))))))
     ·refine son R R R (sv R (Aa Ve R) (son R R R (sv R (l1 Xo R R R) (son R R R ?_))))
      obtain⟨v2,hv2,h⟩:=Ae h
      refine Bb R Azl (Ac R Ag) (Ao R) (Sr hv2) (rm 2 R (ssI 46 h R (λh=>?_) (λh=>?_)))
      ·refine son R R R (sv R (Aa Afa R) (son R R R (sv R (l1 ti4 R R R) (rm 1 R (ssI 49 h R (λh=>?_) (λh=>?_))))))
       ·refine son R R R (sv R (Aa Ve R) (son R R R (sv R (l1 Xo R R R) (son R R R (sv R (Ap Se R) (son R R R (sv R (Dr R R) (rm 1 R (son R R R (sv R (Bz R) (rm 2 R (Ah (Bq (Av (Af ?_)))))))))))))))
        obtain rfl:=SJ h
        exact dnT R R R R
       ·refine rm 5 R (son R R R (sv R (Bz R) (rm 2 R (Ah (Bq (Av (Af ?_)))))))
        obtain rfl:=SJ h
        exact dnT R R R R
      ·refine rm 3 R (Cp R R R (Cp R R R (Cp R R R (Cp R R R (rm 4 R (Ah (Bq (Av (Af ?_)))))))))
       obtain rfl:=SJ h
       exact dnT R R R R
     ·refine rm 8 R (Cp R R R (Cp R R R (Cp R R R (Cp R R R (rm 4 R (Ah (Bq (Av (Af ?_)))))))))
      obtain rfl:=SJ h
      exact dnT R R R R
    ·refine rm 13 R (Cp R R R (Cp R R R (Cp R R R (Cp R R R (rm 4 R (Ah (Bq (Av (Af ?_)))))))))
     obtain rfl:=SJ h
     exact dnT R R R R
   ·refine Bf (Ar (Ab (csr (rm 1 R (Ah (Bq ?_))))))
    obtain rfl:=SJ h
    exact dnT R R R R
 ·skip
  refine Au (fl Vb ti3 R R R R R R (sv R (Bv R R) (rm 1 R (ssI 6 h R (λh=>?_) (λh=>?_)))))
  ·refine rm 9 R (Ah (Ce R (λ_=>?_) (λhx=>Bool.noConfusion hx)))
   refine csr (rm 1 R (Ah (Bq (Af ?_))))
   obtain rfl:=SJ h
   exact dnT R R R R
  ·refine son R R R (sv R (Aa Wk R) (son R R R (sv R (l1 ti3 R R R) (son R R R (sv R (Bv R R) (rm 2 R (ssI 11 h R (λh=>?_) (λh=>?_))))))))
   ·refine rm 4 R (Ah (Ce R (λ_=>?_) (λhx=>Bool.noConfusion hx)))
    refine csr (rm 1 R (Ah (Bq (Af ?_))))
    obtain rfl:=SJ h
    exact dnT R R R R
   ·refine son R R R (sv R (Aa Wk R) (son R R R (sv R (l1 ti3 R R R) (son R R R (sv R (Dr R R) (rm 1 R (Ah (ccI h R (λh=>?_) (λh=>?_)))))))))
    ·refine csr (rm 1 R (Ah (Bq (Af ?_))))
     obtain rfl:=SJ h
     exact dnT R R R R
    ·refine Bf (Ab ?_)
     exact⟨(),_,h,⟨R,trivial⟩,R⟩
def Ig (a0:A3) (a1:A3) (b1:Bool):Option Bool :=
 if (decide (a0.ID=a1.ID)) then(some true) else(if (decide (a0.State=2)) then(if (decide (a1.State=2)) then(if (decide (a0.End=a1.End)) then(some b1) else(some false)) else(some false)) else(some false))
def O1 (a0:A3) (a1:A3):Option Bool :=
 if (decide (0<(a0.Keys.length:Int))) then(Ig a0 a1 true) else(Ig a0 a1 (decide (0<(a1.Keys.length:Int))))
theorem Aas {a0:A3} {a1:A3} {r:Bool} (h:O1 a0 a1=some r):Bt Qx0 112 [.agg (EL.el a0),.agg (EL.el a1)] (·=L7 (.b r)):=by
 unfold O1 at h
 refine A1 Tryz.func112 R (nt:=41) R (Nbl R) ?_
 intro w0 S0
 refine csr (Er R R (Er R R (rm 1 R (Ah (Bj (cj (Bool) (λb1=>[(2,L7 (.lp 0 0)),(3,L7 (.lp 1 0)),(5,L7 (.b b1))]) (λb1=>[.box (EL.el a0),.box (EL.el a1)]) (λb1=>Ig a0 a1 b1=some r) (λ_=>R) (λb1 h=>?_) ?_))))))
 ·unfold Ig at h
  refine csr (fl Vb ti3 R R R R R R (fl Vb ti3 R R R R R R (sv R (B6 R R) (rm 1 R (ssI 21 h R (λh=>?_) (λh=>?_))))))
  ·refine rm 4 R (Cp R R R (Cp R R R (Cp R R R (rm 2 R (Cp R R R (Cp R R R (Cp R R R (Cp R R R (Cp R R R (rm 2 R (Cp R R R (rm 3 R (Ah (Bq ?_))))))))))))))
   obtain rfl:=SJ h
   exact dnT R R R R
  ·refine son R R R (sv R (Aa Qb R) (son R R R (sv R (l1 ti3 R R R) (son R R R (sv R (B6 R R) (rm 1 R (ssI 25 h R (λh=>?_) (λh=>?_))))))))
   ·refine son R R R (sv R (Aa Qb R) (son R R R (sv R (l1 ti3 R R R) (son R R R (sv R (B6 R R) (rm 2 R (ssI 30 h R (λh=>?_) (λh=>?_))))))))
    ·refine son R R R (sv R (Aa Rq R) (son R R R (sv R (l1 ti3 R R R) (son R R R (sv R (Aa Rq R) (son R R R (sv R (l1 ti3 R R R) (son R R R (sv R (B6 R R) (rm 2 R (ssI 37 h R (λh=>?_) (λh=>?_))))))))))))
     ·refine rm 4 R (Ah (Bq ?_))
      obtain rfl:=SJ h
      exact dnT R R R R
     ·refine rm 4 R (Ah (Bq ?_))
      obtain rfl:=SJ h
      exact dnT R R R R
    ·refine rm 11 R (Ah (Bq ?_))
     obtain rfl:=SJ h
     exact dnT R R R R
   ·refine rm 16 R (Ah (Bq ?_))
    obtain rfl:=SJ h
    exact dnT R R R R
 ·skip
  refine Au (fl Ve Xo R R R R R R (sv R (Ap Se R) (sv R (Dr R R) (rm 1 R (ssI 10 h R (λh=>?_) (λh=>?_))))))
  ·refine rm 6 R (Ah ?_)
   exact⟨true,_,h,⟨R,R,R,trivial⟩,R⟩
  ·refine son R R R (sv R (Aa Ve R) (son R R R (sv R (l1 Xo R R R) (son R R R (sv R (Ap Se R) (son R R R (sv R (Dr R R) (rm 2 R (Ah ?_)))))))))
   exact⟨(decide (0<(a1.Keys.length:Int))),_,h,⟨R,R,R,trivial⟩,R⟩
def Ss (b1:(List Int)):Option (List Int) :=
 some b1
def Lk (a0:List A3) (s2:Int×(List Int)):Option (LB (Int×(List Int)) ((List Int))) :=
 if (decide (s2.1<(a0.length:Int))) then((idx a0 s2.1).bind λu3=>if (s2.2.length+[u3.ID].length)*8<=140737488355328 then(some (.cont ((wI (s2.1+1)),(s2.2++[u3.ID])))) else none) else(some (.brk s2.2))
def Pk (a0:List A3):Option (List Int) :=
 (Cz (Lk a0) fuel (0,([]:List Int))).bind λe5=>Ss e5
theorem Xm {a0:List A3} {r:(List Int)} (h:Pk a0=some r):Bt Qx0 114 [.one (SL a0 Bc)] (·=L7 (SL r eI)):=by
 unfold Pk at h
 refine A1 Tryz.func114 R (nt:=19) R (Nbl R) ?_
 intro w0 S0
 refine csr (rm 1 R (Ah (csr (rm 1 R (Ah (Bj (csr (rm 1 R (sv R (Ap R8 R) (rm 1 R (Ah ?_)))))))))))
 refine Dl 3 1 3 (by decide) R ?_
 refine cj ((List Int)) (λb1=>[(3,L7 (.ls 0 b1.length))]) (λb1=>[.arr 3 1 0 (b1.flatMap eI)]) (λb1=>Ss b1=some r) (λ_=>R) (λb1 h=>?_) ?_
 ·unfold Ss at h
  refine csr (rm 2 R (Ah (Bq ?_)))
  obtain rfl:=SJ h
  refine⟨Or.inr R,_,_,_,(Ad (rt R) Aj),(by(repeat' first|exact Ho.nil _|apply Ho.cons|apply Hl.one|apply Hl.agg|exact C5.nil|exact C5.ls _ _ _ _ _ _ R (Aw (f:=eI) (λ_=>R) _).symm|exact C5.id _ R|exact Cv.nil _|apply Cv.cons)),?_⟩
  rfl
 ·skip
  refine Bl ?_
  obtain⟨x2,hx2,ho2⟩:=Ae h
  refine lpo (G:=Nat×(Int×(List Int))) (λg=>[(3,L7 (.ls 0 g.2.2.length)),(6,L7 (SL a0 Bc)),(7,L7 (Ii6 (a0.length:Int))),(8,L7 (Ii6 g.2.1))]) (λg=>[.arr 3 1 0 (g.2.2.flatMap eI)]) (λg=>Cz (Lk a0) g.1 g.2=some x2) (λg=>g.1) (fuel,(0,([]:List Int))) hx2 ⟨R,R,R,R,trivial⟩ [] R (λ_=>R) ?_
  clear hx2 h
  rintro⟨n2,s2⟩ h
  obtain⟨n2,y2,rfl,h,hk2⟩:=Cw h
  unfold Lk at h
  refine csr (sv R (Bv R R) (Ah (Bj (ccI h R (λh=>?_) (λh=>?_)))))
  ·refine Bf (Ab (Bj (Bl (Bj (Au ?_)))))
   obtain⟨u3,hu3,h⟩:=Ae h
   refine sv R (B4 (f:=Bc) R8 (λ_=>R) R R R R hu3) ?_
   refine sv R (Bs (ys:=[Ii6 u3.ID,Ii6 u3.Begin,Ii6 u3.End,Ii6 u3.State,.b u3.In,.b u3.Out,.b u3.RO,SL u3.Keys (eL eU8)]) J8 R (.cp _) R R) (Br R U7 (sst Ub R R R R R (Ah (Au (rm 1 R (sv R (Aa Vb R) (sv R (l1 ti3 R R R) ?_)))))))
   refine D7 R Tryz.underlying225 ei3 R R (zI.1 R) (by decide) ?_
   refine Ql [.arr 3 1 0 (s2.2.flatMap eI),.box (EL.el u3),.arr 3 1 0 ([u3.ID].flatMap eI)] R ?_
   obtain⟨hb4,h⟩:=Cs h
   refine U1 (f:=eI) (xs:=s2.2) (us:=[u3.ID]) R Tryz.underlying225 ei3 Aos (λ_=>R) R R (.one _ _ _ _ (.ls _ _ _ _ _ _ R (Aw (f:=eI) (λ_=>R) [u3.ID]).symm)) R R R (.sl _ _ _ (Aw (f:=eI) (λ_=>R) _)) R R hb4 (by decide) ?_
   refine rm 1 R (Jb (Ar (Ab (Au (sv R (Bp R R) (rm 1 R (Ah ?_)))))))
   obtain rfl:=SJ h
   exact⟨(n2,((wI (s2.1+1)),(s2.2++[u3.ID]))),_,hk2,⟨R,R,R,R,trivial⟩,R,zG _⟩
  ·refine C3 (As (As (Bi (Ab ?_))))
   obtain rfl:=SJ h
   obtain rfl:_=x2:=hk2
   exact⟨s2.2,_,ho2,⟨R,trivial⟩,R⟩
def Ou (b1:Unit):Option Int :=
 some (-1)
def D5 (a0:List Int) (a1:Int) (s2:Int):Option (LR (Int) (Unit) (Int)) :=
 if (decide (s2<(a0.length:Int))) then((idx a0 s2).bind λu3=>if (decide (a1=u3)) then(some (.ret s2)) else(some (.cont (wI (s2+1))))) else(some (.brk ()))
def Ew (a0:List Int) (a1:Int):Option Int :=
 (Iz (D5 a0 a1) fuel 0).bind λx=>match x with | .inl r=>some r | .inr e4=>Ou e4
theorem S6 {a0:List Int} {a1:Int} {r:Int} (h:Ew a0 a1=some r):Bt Qx0 197 [.one (SL a0 eI),.one (Ii6 a1)] (·=L7 (Ii6 r)):=by
 unfold Ew at h
 refine A1 Tryz.func197 R (nt:=19) R (Nbl R) ?_
 intro w0 S0
 refine csr (rm 1 R (Ah (Bj (csr (rm 1 R (sv R (Ap Ava R) (rm 1 R (Ah (cj (Unit) (λb1=>[]) (λb1=>[]) (λb1=>Ou b1=some r) (λ_=>R) (λb1 h=>?_) ?_)))))))))
 ·unfold Ou at h
  refine csr (rm 1 R (Ah (Bq ?_)))
  obtain rfl:=SJ h
  exact dnT R R R R
 ·skip
  refine Bl ?_
  obtain⟨x2,hx2,ho2⟩:=Ae h
  refine lpo (G:=Nat×(Int)) (λg=>[(0,L7 (SL a0 eI)),(1,L7 (Ii6 a1)),(7,L7 (Ii6 (a0.length:Int))),(8,L7 (Ii6 g.2))]) (λg=>[]) (λg=>Iz (D5 a0 a1) g.1 g.2=some x2) (λg=>g.1) (fuel,0) hx2 ⟨R,R,R,R,trivial⟩ [] R (λ_=>R) ?_
  clear hx2 h
  rintro⟨n2,s2⟩ h
  obtain⟨n2,y2,rfl,h,hk2⟩:=Dj h
  unfold D5 at h
  refine csr (sv R (Bv R R) (Ah (Bj (ccI h R (λh=>?_) (λh=>?_)))))
  ·refine Bf (Ab (Bj (Bl (csr (rm 2 R (Ah (csr (rm 2 R (sv R (Az R) ?_)))))))))
   obtain⟨u3,hu3,h⟩:=Ae h
   refine sv R (B4 (f:=eI) Ava (λ_=>R) R R R R hu3) ?_
   refine sv R (B0 ti3 R (.cp _) R) (sv R (B6 R R) (Ah (ccI h R (λh=>?_) (λh=>?_))))
   ·refine csr (rm 2 R (Ah (Bq (Av (Af (Af (Av (Af ?_))))))))
    obtain rfl:=SJ h
    obtain rfl:Sum.inl _=x2:=hk2
    replace ho2:some _=some _:=ho2
    obtain rfl:=zD ho2
    exact dnT R R R R
   ·refine Bf (Ar (Ab (Au (sv R (Bp R R) (rm 1 R (Ah ?_))))))
    obtain rfl:=SJ h
    exact⟨(n2,(wI (s2+1))),_,hk2,⟨R,R,R,R,trivial⟩,R,zG _⟩
  ·refine C3 (As (As (Bi (Ab ?_))))
   obtain rfl:=SJ h
   obtain rfl:_=x2:=hk2
   exact⟨(),_,ho2,trivial,R⟩
def D4 (a0:List Int) (a1:Int):Option Bool :=
 (Ew a0 a1).bind λv1=>some (decide (0<=v1))
theorem Mm {a0:List Int} {a1:Int} {r:Bool} (h:D4 a0 a1=some r):Bt Qx0 237 [.one (SL a0 eI),.one (Ii6 a1)] (·=L7 (.b r)):=by
 unfold D4 at h
 refine A1 Tryz.func237 R (nt:=9) R (Nbl R) ?_
 intro w0 S0
 refine csr (rm 1 R (Ah (csr (rm 1 R (sv R (Az R) ?_)))))
 obtain⟨v1,hv1,h⟩:=Ae h
 refine Bb R Ax9 (Ac R (Ac R Ag)) (Ao R) (S6 hv1) (sv R (Ii R R) (rm 1 R (Ah (Bq ?_))))
 obtain rfl:=SJ h
 exact dnT R R R R
def P6 (b1:(List A4)):Option B3 :=
 some (B3.mk b1)
def Gr (a0:B3) (a1:List Int) (a2:Bool) (s2:Int×(List A4)):Option (LB (Int×(List A4)) ((List A4))) :=
 if (decide (s2.1<(a0.L.length:Int))) then((idx a0.L s2.1).bind λu3=>(D4 a1 u3.Tx).bind λv4=>if (v4==a2) then(if (s2.2.length+[u3].length)*64<=140737488355328 then(some (.cont ((wI (s2.1+1)),(s2.2++[u3])))) else none) else(some (.cont ((wI (s2.1+1)),s2.2)))) else(some (.brk s2.2))
def N2 (a0:B3) (a1:List Int) (a2:Bool):Option B3 :=
 (Cz (Gr a0 a1 a2) fuel (0,([]:List A4))).bind λe6=>P6 e6
theorem Z3 {a0:B3} {a1:List Int} {a2:Bool} {r:B3} (h:N2 a0 a1 a2=some r):Bt Qx0 187 [.agg [SL a0.L Ax],.one (SL a1 eI),.one (.b a2)] (·=.s (.agg [SL r.L Ax])):=by
 unfold N2 at h
 refine A1 Tryz.func187 R (nt:=30) R (Nbl R) ?_
 intro w0 S0
 refine csr (Er R R (Br R As2 (Ah (csr (rm 1 R (Ah (Bj (csr (fl Uc Ah8 R R R R R R (sv R (Ap Acb R) (rm 1 R (Ah ?_))))))))))))
 refine Dl 142 4 7 (by decide) R ?_
 refine cj ((List A4)) (λb1=>[(6,L7 (.lp 1 0)),(7,L7 (.ls 2 b1.length))]) (λb1=>[.box [SL a0.L Ax],.box [Znl],.arr 142 4 0 (b1.flatMap Ax)]) (λb1=>P6 b1=some r) (λ_=>R) (λb1 h=>?_) ?_
 ·unfold P6 at h
  refine csr (rm 1 R (sv R (A2 As2 Ayb (Aq R A0) (.cons _ _ _ _ _ _ _ R R (Nbl R) (.nil _))) (sst Auj R R R R R (Ah (Bq ?_)))))
  obtain rfl:=SJ h
  refine⟨Or.inr R,_,_,_,(Ad (ra Afg R R R) Aj),(by(repeat' first|exact Ho.nil _|apply Ho.cons|apply Hl.one|apply Hl.agg|exact C5.nil|exact C5.ls _ _ _ _ _ _ R (Aw (f:=Ax) (λ_=>R) _).symm|exact C5.id _ R|exact Cv.nil _|apply Cv.cons)),?_⟩
  rfl
 ·skip
  refine Bl ?_
  obtain⟨x2,hx2,ho2⟩:=Ae h
  refine lpo (G:=Nat×(Int×(List A4))) (λg=>[(1,L7 (SL a1 eI)),(2,L7 (.b a2)),(6,L7 (.lp 1 0)),(7,L7 (.ls 2 g.2.2.length)),(11,L7 (SL a0.L Ax)),(12,L7 (Ii6 (a0.L.length:Int))),(13,L7 (Ii6 g.2.1))]) (λg=>[.box [SL a0.L Ax],.box [Znl],.arr 142 4 0 (g.2.2.flatMap Ax)]) (λg=>Cz (Gr a0 a1 a2) g.1 g.2=some x2) (λg=>g.1) (fuel,(0,([]:List A4))) hx2 ⟨R,R,R,R,R,R,R,trivial⟩ [] R (λ_=>R) ?_
  clear hx2 h
  rintro⟨n2,s2⟩ h
  obtain⟨n2,y2,rfl,h,hk2⟩:=Cw h
  unfold Gr at h
  refine csr (sv R (Bv R R) (Ah (Bj (ccI h R (λh=>?_) (λh=>?_)))))
  ·refine Bf (Ab (Bj (Bl (Bj (Au ?_)))))
   obtain⟨u3,hu3,h⟩:=Ae h
   refine sv R (B4 (f:=Ax) Acb (λ_=>R) R R R R hu3) ?_
   refine sv R (Bs (ys:=[Ii6 u3.Tx,SL u3.Rng.Lo eU8,SL u3.Rng.Hi eU8,.b u3.Rng.Open]) Adj R (.cp _) R R) (Br R Amu (sst Aqm R R R R R (Ah (csr (rm 1 R (sv R (Aa Ab9 R) (sv R (l1 ti3 R R R) ?_)))))))
   obtain⟨v4,hv4,h⟩:=Ae h
   refine Bb R Aur (Ac R (Ac R Ag)) (Ao R) (Mm hv4) (rm 1 R (sv R (Abh Tryz.underlying4 R R) (Ah (ccI h R (λh=>?_) (λh=>?_)))))
   ·refine Au (rm 1 R (sv R (lo Adj R R R) ?_))
    refine D7 R Tryz.underlying30 Anc R R (zI.1 R) (by decide) ?_
    refine Ql [.box [SL a0.L Ax],.box [Znl],.arr 142 4 0 (s2.2.flatMap Ax),.box (EL.el u3),.arr 142 4 0 ([u3].flatMap Ax)] R ?_
    obtain⟨hb5,h⟩:=Cs h
    refine U1 (f:=Ax) (xs:=s2.2) (us:=[u3]) R Tryz.underlying30 Anc A4p (λ_=>R) R R (.one _ _ _ _ (.ls _ _ _ _ _ _ R (Aw (f:=Ax) (λ_=>R) [u3]).symm)) R R R (.sl _ _ _ (Aw (f:=Ax) (λ_=>R) _)) R R hb5 (by decide) ?_
    refine rm 1 R (Jb (Ar (Ab (Au (sv R (Bp R R) (rm 1 R (Ah ?_)))))))
    obtain rfl:=SJ h
    exact⟨(n2,((wI (s2.1+1)),(s2.2++[u3]))),_,hk2,⟨R,R,R,R,R,R,R,trivial⟩,R,zG _⟩
   ·refine Bf (Ar (Ab (Au (sv R (Bp R R) (rm 1 R (Ah ?_))))))
    obtain rfl:=SJ h
    exact⟨(n2,((wI (s2.1+1)),s2.2)),_,hk2,⟨R,R,R,R,R,R,R,trivial⟩,R,zG _⟩
  ·refine C3 (As (As (Bi (Ab ?_))))
   obtain rfl:=SJ h
   obtain rfl:_=x2:=hk2
   exact⟨s2.2,_,ho2,⟨R,R,trivial⟩,R⟩
def Kx (a0:B3) (a1:List Int):Option B3 :=
 (N2 a0 a1 false).bind λv1=>some v1
theorem Uj {a0:B3} {a1:List Int} {r:B3} (h:Kx a0 a1=some r):Bt Qx0 113 [.agg [SL a0.L Ax],.one (SL a1 eI)] (·=.s (.agg [SL r.L Ax])):=by
 unfold Kx at h
 refine A1 Tryz.func113 R (nt:=8) R (Nbl R) ?_
 intro w0 S0
 refine csr (Er R R (Br R As2 (Ah (csr (ld Afg R R R R (sv R (Az R) ?_))))))
 obtain⟨v1,hv1,h⟩:=Ae h
 refine Bb R A3l (Ac R (Ac R (Ac R Ag))) (Ao R) (Z3 hv1) (sst Auj R R R R R (Ah (Bq ?_)))
 obtain rfl:=SJ h
 exact dnA R Afg R (.lp _ _ _ R) (Nbl R) R R
def Nq (a0:Be) (b2:Unit):Option Bool :=
 (Pk a0.Txs).bind λv3=>(Kx a0.Reads v3).bind λv4=>some (decide ((v4.L.length:Int)=0))
def M6 (s5:Int) (b9:Unit):Option (LR (Int) (Unit) (Bool)) :=
 some (.cont (wI (s5+1)))
def I7 (u6:A3) (c8:List A3) (s10:Int):Option (LR (Int) (Unit) (Bool)) :=
 if (decide (s10<(c8.length:Int))) then((idx c8 s10).bind λu11=>(O1 u6 u11).bind λv12=>if v12 then(some (.ret false)) else(some (.cont (wI (s10+1))))) else(some (.brk ()))
def K4 (a0:Be) (s5:Int):Option (LR (Int) (Unit) (Bool)) :=
 if (decide (s5<(a0.Txs.length:Int))) then((idx a0.Txs s5).bind λu6=>(K6 u6).bind λv7=>if (!v7) then(some (.ret false)) else((cut a0.Txs 0 s5).bind λc8=>(Iz (I7 u6 c8) fuel 0).bind λx=>match x with | .inl r=>some (.ret r) | .inr e13=>M6 s5 e13)) else(some (.brk ()))
def Qk (a0:Be) (b1:Unit):Option Bool :=
 (Iz (K4 a0) fuel 0).bind λx=>match x with | .inl r=>some r | .inr e14=>Nq a0 e14
def Lq (a0:Be):Option Bool :=
 if (decide (64<(a0.Txs.length:Int))) then(some false) else((Gg a0.Reads).bind λv15=>if (!v15) then(some false) else(Qk a0 ()))
theorem Q7 {a0:Be} {r:Bool} (h:Lq a0=some r):Bt Qx0 46 [.agg (EL.el a0)] (·=L7 (.b r)):=by
 unfold Lq at h
 refine A1 Tryz.func46 R (nt:=51) R (Nbl R) ?_
 intro w0 S0
 refine csr (Er R R (rm 1 R (Ah (Bj (Bj (cj3 (Unit) (λb1=>[(1,L7 (.lp 0 0))]) (λb1=>[.box (EL.el a0)]) (λb1=>Qk a0 b1=some r) (λ_=>R) (λb1 h=>?_) ?_))))))
 ·unfold Qk at h
  refine Bj (csr (fl Oy Abz R R R R R R (sv R (Ap R8 R) (rm 1 R (Ah (cj (Unit) (λb2=>[(1,L7 (.lp 0 0))]) (λb2=>[.box (EL.el a0)]) (λb2=>Nq a0 b2=some r) (λ_=>R) (λb2 h=>?_) ?_))))))
  ·unfold Nq at h
   refine Bj ?_
   refine Ue mixed (by kernel_rfl) ?_
   refine dv R (Aa Vy R) (dv R (lo Afg R R R) (dv R (Aa Oy R) (dv R (l1 Abz R R R) ?_)))
   obtain⟨v3,hv3,h⟩:=Ae h
   refine dd R (Cm A0i (Ac R Ag) R (Xm hv3)) ?_
   obtain⟨v4,hv4,h⟩:=Ae h
   refine dd R (Cm Az4 (Ac R (Ac R Ag)) R (Uj hv4)) (dv R (Alt Azq Ah8 R R) (dv R (Ap Acb R) (dv R (B6 R R) (dv R (G0 R) (U8 (Ab (Bq ?_)))))))
   obtain rfl:=SJ h
   exact dnT R R R R
  ·skip
   refine Bl ?_
   obtain⟨x5,hx5,ho5⟩:=Ae h
   refine lpo (G:=Nat×(Int)) (λg=>[(1,L7 (.lp 0 0)),(18,L7 (SL a0.Txs Bc)),(19,L7 (Ii6 (a0.Txs.length:Int))),(20,L7 (Ii6 g.2))]) (λg=>[.box (EL.el a0)]) (λg=>Iz (K4 a0) g.1 g.2=some x5) (λg=>g.1) (fuel,0) hx5 ⟨R,R,R,R,trivial⟩ [] R (λ_=>R) ?_
   clear hx5 h
   rintro⟨n5,s5⟩ h
   obtain⟨n5,y5,rfl,h,hk5⟩:=Dj h
   unfold K4 at h
   refine csr (sv R (Bv R R) (Ah (Bj (ccI h R (λh=>?_) (λh=>?_)))))
   ·refine Bf (Ab (Bj (Bl (csr (sv R (Az R) ?_)))))
    obtain⟨u6,hu6,h⟩:=Ae h
    refine sv R (B4 (f:=Bc) R8 (λ_=>R) R R R R hu6) ?_
    refine sv R (Bs (ys:=[Ii6 u6.ID,Ii6 u6.Begin,Ii6 u6.End,Ii6 u6.State,.b u6.In,.b u6.Out,.b u6.RO,SL u6.Keys (eL eU8)]) J8 R (.cp _) R R) (Br R U7 (rm 1 R (sst Ub R R R R R (Ah (Bj (csr (sv R (lo J8 R R R) ?_)))))))
    obtain⟨v7,hv7,h⟩:=Ae h
    refine Bb R Ay9 (Ac R Ag) (Ao R) (Un hv7) (sv R (Bz R) (Ah (ccI h R (λh=>?_) (λh=>?_))))
    ·refine csr (rm 1 R (Ah (Bq (Af (Av (Af (Af (Av (Af ?_)))))))))
     obtain rfl:=SJ h
     obtain rfl:Sum.inl _=x5:=hk5
     replace ho5:some _=some _:=ho5
     obtain rfl:=zD ho5
     exact dnT R R R R
    ·refine Bf (Ab (csr (fl Oy Abz R R R R R R (sv R (Az R) ?_))))
     obtain⟨c8,hc8,h⟩:=Ae h
     refine sv R (Zn (f:=Bc) (lo:=0) (hi:=s5) R8 (λ_=>R) R R R Wr (Sm R (Int.le_trans (Wl hc8).1.1 (Wl hc8).1.2.1)) hc8) ?_
     refine sv R (Ap R8 R) (rm 1 R (Ah (Atu (Unit) (λb9=>[(1,L7 (.lp 0 0)),(18,L7 (SL a0.Txs Bc)),(19,L7 (Ii6 (a0.Txs.length:Int))),(20,L7 (Ii6 s5))]) (λb9=>[.box (EL.el a0),.box (EL.el u6)]) (λb9=>M6 s5 b9=some y5) (λ_ _=>Acn R) (λ_ _=>Uz R) (λ_ _=>Nbl R) (λb9 h=>?_) ?_)))
     ·unfold M6 at h
      refine Au (sv R (Bp R R) (rm 1 R (Ah ?_)))
      obtain rfl:=SJ h
      exact⟨(n5,(wI (s5+1))),_,hk5,⟨R,R,R,R,trivial⟩,R,zG _⟩
     ·skip
      refine Bl ?_
      obtain⟨x10,hx10,ho10⟩:=Ae h
      refine lpo (G:=Nat×(Int)) (λg=>[(1,L7 (.lp 0 0)),(4,L7 (.lp 1 0)),(18,L7 (SL a0.Txs Bc)),(19,L7 (Ii6 (a0.Txs.length:Int))),(20,L7 (Ii6 s5)),(31,L7 (SL c8 Bc)),(32,L7 (Ii6 (c8.length:Int))),(33,L7 (Ii6 g.2))]) (λg=>[.box (EL.el a0),.box (EL.el u6)]) (λg=>Iz (I7 u6 c8) g.1 g.2=some x10) (λg=>g.1) (fuel,0) hx10 ⟨R,R,R,R,R,R,R,R,trivial⟩ [] R (λ_=>R) ?_
      clear hx10 h
      rintro⟨n10,s10⟩ h
      obtain⟨n10,y10,rfl,h,hk10⟩:=Dj h
      unfold I7 at h
      refine csr (sv R (Bv R R) (Ah (Bj (ccI h R (λh=>?_) (λh=>?_)))))
      ·refine Bf (Ab (Bj (Bl (Bj (Au ?_)))))
       obtain⟨u11,hu11,h⟩:=Ae h
       refine sv R (B4 (f:=Bc) R8 (λ_=>R) R R R R hu11) ?_
       refine sv R (Bs (ys:=[Ii6 u11.ID,Ii6 u11.Begin,Ii6 u11.End,Ii6 u11.State,.b u11.In,.b u11.Out,.b u11.RO,SL u11.Keys (eL eU8)]) J8 R (.cp _) R R) (Br R U7 (sst Ub R R R R R (Ah (csr (ld J8 R R R R (sv R (lo J8 R R R) ?_))))))
       obtain⟨v12,hv12,h⟩:=Ae h
       refine Bb R A4e (Ac R (Ac R Ag)) (Ao R) (Aas hv12) (Ah (ccI h R (λh=>?_) (λh=>?_)))
       ·refine csr (rm 1 R (Ah (Bq (Av (Af (Af (Av (Av (Af (Af (Av (Af ?_))))))))))))
        obtain rfl:=SJ h
        obtain rfl:Sum.inl _=x10:=hk10
        replace ho10:some _=some _:=ho10
        obtain rfl:=zD ho10
        obtain rfl:Sum.inl _=x5:=hk5
        replace ho5:some _=some _:=ho5
        obtain rfl:=zD ho5
        exact dnT R R R R
       ·refine Bf (Ar (Ab (Au (sv R (Bp R R) (rm 1 R (Ah ?_))))))
        obtain rfl:=SJ h
        exact⟨(n10,(wI (s10+1))),_,hk10,⟨R,R,R,R,R,R,R,R,trivial⟩,R,zG _⟩
      ·refine C3 (As (As (Bi (Ar (Ab ?_)))))
       obtain rfl:=SJ h
       obtain rfl:_=x10:=hk10
       exact⟨(),_,ho10,⟨R,R,R,R,trivial⟩,R⟩
   ·refine C3 (As (As (Bi (Ab ?_))))
    obtain rfl:=SJ h
    obtain rfl:_=x5:=hk5
    exact⟨(),_,ho5,⟨R,trivial⟩,R⟩
 ·skip
  refine Au (fl Oy Abz R R R R R R (sv R (Ap R8 R) (sv R (Dr R R) (rm 1 R (ssI 11 h R (λh=>?_) (λh=>?_))))))
  ·refine rm 5 R (Ah (Ce R (λ_=>?_) (λhx=>Bool.noConfusion hx)))
   refine csr (rm 1 R (Ah (Bq (Af ?_))))
   obtain rfl:=SJ h
   exact dnT R R R R
  ·refine son R R R (sv R (Aa Vy R) (son R R R (ld Afg R R R R (son R R R ?_))))
   obtain⟨v15,hv15,h⟩:=Ae h
   refine Bb R A0a (Ac R Ag) (Ao R) (Us hv15) (son R R R (sv R (Bz R) (rm 1 R (Ah (ccI h R (λh=>?_) (λh=>?_))))))
   ·refine csr (rm 1 R (Ah (Bq (Af ?_))))
    obtain rfl:=SJ h
    exact dnT R R R R
   ·refine Bf (Ab ?_)
    exact⟨(),_,h,⟨R,trivial⟩,R⟩
def Cy (a0:Int) (a1:Int):Option Bool :=
 if (decide (0<=a0)) then(if (decide (a0<=1099511627776)) then(if (decide (0<=a1)) then(some (decide (a1<=65535))) else(some false)) else(some false)) else(some false)
theorem Ee {a0:Int} {a1:Int} {r:Bool} (h:Cy a0 a1=some r):Bt Qx0 130 [.one (Ii6 a0),.one (Ii6 a1)] (·=L7 (.b r)):=by
 unfold Cy at h
 refine A1 Tryz.func130 R (nt:=19) R (Nbl R) ?_
 intro w0 S0
 refine csr (rm 1 R (Ah (csr (rm 1 R (sv R (Ii R R) (rm 1 R (ssI 7 h R (λh=>?_) (λh=>?_))))))))
 ·refine rm 1 R (son R R R (sv R (Dk R R) (rm 2 R (ssI 11 h R (λh=>?_) (λh=>?_)))))
  ·refine rm 1 R (son R R R (sv R (Ii R R) (rm 2 R (ssI 15 h R (λh=>?_) (λh=>?_)))))
   ·refine rm 1 R (son R R R (sv R (Dk R R) (rm 2 R (Ah (Bq ?_)))))
    obtain rfl:=SJ h
    exact dnT R R R R
   ·refine rm 4 R (Ah (Bq ?_))
    obtain rfl:=SJ h
    exact dnT R R R R
  ·refine rm 8 R (Ah (Bq ?_))
   obtain rfl:=SJ h
   exact dnT R R R R
 ·refine rm 12 R (Ah (Bq ?_))
  obtain rfl:=SJ h
  exact dnT R R R R
def G4 (a0:Int):Option Bool :=
 if (decide (1<=a0)) then(some (decide (a0<=1099511627776))) else(some false)
theorem R5 {a0:Int} {r:Bool} (h:G4 a0=some r):Bt Qx0 188 [.one (Ii6 a0)] (·=L7 (.b r)):=by
 unfold G4 at h
 refine A1 Tryz.func188 R (nt:=9) R (Nbl R) ?_
 intro w0 S0
 refine csr (rm 1 R (Ah (csr (rm 1 R (sv R (Ii R R) (rm 1 R (ssI 5 h R (λh=>?_) (λh=>?_))))))))
 ·refine rm 1 R (son R R R (sv R (Dk R R) (rm 2 R (Ah (Bq ?_)))))
  obtain rfl:=SJ h
  exact dnT R R R R
 ·refine rm 4 R (Ah (Bq ?_))
  obtain rfl:=SJ h
  exact dnT R R R R
def E2 (a0:Ba) (b1:Bool):Option Bool :=
 if b1 then((Cy a0.Tok a0.Attempt).bind λv2=>if v2 then(some (decide (a0.Ts=0))) else(some false)) else(if (decide (a0.State=2)) then((Cy a0.Tok a0.Attempt).bind λv3=>if v3 then((G4 a0.Ts).bind λv4=>some v4) else(some false)) else(some false))
def Gl (a0:Ba):Option Bool :=
 if (decide (a0.State=1)) then(E2 a0 (decide (a0.State=1))) else(E2 a0 (decide (a0.State=3)))
theorem Vj {a0:Ba} {r:Bool} (h:Gl a0=some r):Bt Qx0 115 [.agg (EL.el a0)] (·=L7 (.b r)):=by
 unfold Gl at h
 refine A1 Tryz.func115 R (nt:=30) R (Nbl R) ?_
 intro w0 S0
 refine csr (Er R R (rm 1 R (Ah (Bj (csr (fl Wj ti3 R R R R R R (Ah (Bl (Bj (csr (sv R (B6 R R) (rm 1 R (Ah (cj (Bool) (λb1=>[(1,L7 (.lp 0 0)),(4,L7 (Ii6 a0.State)),(5,L7 (.b b1))]) (λb1=>[.box (EL.el a0)]) (λb1=>E2 a0 b1=some r) (λ_=>R) (λb1 h=>?_) ?_))))))))))))))
 ·unfold E2 at h
  refine ccI h R (λh=>?_) (λh=>?_)
  ·refine csr (fl Z2 ti3 R R R R R R (sv R (Aa V0 R) (sv R (l1 ti3 R R R) ?_)))
   obtain⟨v2,hv2,h⟩:=Ae h
   refine Bb R Al4 (Ac R (Ac R Ag)) (Ao R) (Ee hv2) (rm 1 R (ssI 13 h R (λh=>?_) (λh=>?_)))
   ·refine son R R R (sv R (Aa Aff R) (son R R R (sv R (l1 ti3 R R R) (son R R R (sv R (B6 R R) (rm 2 R (Ah (Bq (Av (Af ?_))))))))))
    obtain rfl:=SJ h
    exact dnT R R R R
   ·refine rm 5 R (Ah (Bq (Av (Af ?_))))
    obtain rfl:=SJ h
    exact dnT R R R R
  ·refine csr (sv R (B6 R R) (rm 1 R (Ah (ccI h R (λh=>?_) (λh=>?_)))))
   ·refine csr (fl Z2 ti3 R R R R R R (sv R (Aa V0 R) (sv R (l1 ti3 R R R) ?_)))
    obtain⟨v3,hv3,h⟩:=Ae h
    refine Bb R Al4 (Ac R (Ac R Ag)) (Ao R) (Ee hv3) (rm 1 R (ssI 25 h R (λh=>?_) (λh=>?_)))
    ·refine son R R R (sv R (Aa Aff R) (son R R R (sv R (l1 ti3 R R R) (son R R R ?_))))
     obtain⟨v4,hv4,h⟩:=Ae h
     refine Bb R Aym (Ac R Ag) (Ao R) (R5 hv4) (rm 2 R (Ah (Bq (Av (Af ?_)))))
     obtain rfl:=SJ h
     exact dnT R R R R
    ·refine rm 5 R (Ah (Bq (Av (Af ?_))))
     obtain rfl:=SJ h
     exact dnT R R R R
   ·refine Bf (Ar (Ab (csr (rm 1 R (Ah (Bq ?_))))))
    obtain rfl:=SJ h
    exact dnT R R R R
 ·skip
  refine ccI h R (λh=>?_) (λh=>?_)
  ·refine Bf (Ab ?_)
   exact⟨(decide (a0.State=1)),_,h,⟨R,R,R,trivial⟩,R⟩
  ·refine Au (sv R (B6 R R) (rm 1 R (Ah ?_)))
   exact⟨(decide (a0.State=3)),_,h,⟨R,R,R,trivial⟩,R⟩
def Oq (a0:Bn) (b1:Unit):Option Int :=
 some (a0.L.length:Int)
def Hk (a0:Bn) (a1:Int) (s2:Int):Option (LR (Int) (Unit) (Int)) :=
 if (decide (s2<(a0.L.length:Int))) then((idx a0.L s2).bind λu3=>if (decide (u3.Tok=a1)) then(some (.ret s2)) else(some (.cont (wI (s2+1))))) else(some (.brk ()))
def Ez (a0:Bn) (a1:Int):Option Int :=
 (Iz (Hk a0 a1) fuel 0).bind λx=>match x with | .inl r=>some r | .inr e4=>Oq a0 e4
theorem Lx {a0:Bn} {a1:Int} {r:Int} (h:Ez a0 a1=some r):Bt Qx0 116 [.agg [SL a0.L Al],.one (Ii6 a1)] (·=L7 (Ii6 r)):=by
 unfold Ez at h
 refine A1 Tryz.func116 R (nt:=24) R (Nbl R) ?_
 intro w0 S0
 refine csr (Er R R (rm 1 R (Ah (Bj (csr (fl Wc Amj R R R R R R (sv R (Ap Adi R) (rm 1 R (Ah (cj (Unit) (λb1=>[(2,L7 (.lp 0 0))]) (λb1=>[.box [SL a0.L Al]]) (λb1=>Oq a0 b1=some r) (λ_=>R) (λb1 h=>?_) ?_))))))))))
 ·unfold Oq at h
  refine csr (fl Wc Amj R R R R R R (sv R (Ap Adi R) (rm 1 R (Ah (Bq ?_)))))
  obtain rfl:=SJ h
  exact dnT R R R R
 ·skip
  refine Bl ?_
  obtain⟨x2,hx2,ho2⟩:=Ae h
  refine lpo (G:=Nat×(Int)) (λg=>[(1,L7 (Ii6 a1)),(2,L7 (.lp 0 0)),(8,L7 (SL a0.L Al)),(9,L7 (Ii6 (a0.L.length:Int))),(10,L7 (Ii6 g.2))]) (λg=>[.box [SL a0.L Al]]) (λg=>Iz (Hk a0 a1) g.1 g.2=some x2) (λg=>g.1) (fuel,0) hx2 ⟨R,R,R,R,R,trivial⟩ [] R (λ_=>R) ?_
  clear hx2 h
  rintro⟨n2,s2⟩ h
  obtain⟨n2,y2,rfl,h,hk2⟩:=Dj h
  unfold Hk at h
  refine csr (sv R (Bv R R) (Ah (Bj (ccI h R (λh=>?_) (λh=>?_)))))
  ·refine Bf (Ab (Bj (Bl (csr (sv R (Az R) ?_)))))
   obtain⟨u3,hu3,h⟩:=Ae h
   refine sv R (B4 (f:=Al) Adi (λ_=>R) R R R R hu3) ?_
   refine sv R (Bs (ys:=[Ii6 u3.Tok,Ii6 u3.Attempt,Ii6 u3.State,Ii6 u3.Ts]) Adk R (.cp _) R R) (Br R W5 (rm 1 R (sst Ab6 R R R R R (Ah (csr (fl Z2 ti3 R R R R R R (rm 1 R (sv R (B6 R R) (Ah (ccI h R (λh=>?_) (λh=>?_)))))))))))
   ·refine csr (rm 2 R (Ah (Bq (Av (Af (Af (Av (Af ?_))))))))
    obtain rfl:=SJ h
    obtain rfl:Sum.inl _=x2:=hk2
    replace ho2:some _=some _:=ho2
    obtain rfl:=zD ho2
    exact dnT R R R R
   ·refine Bf (Ar (Ab (Au (sv R (Bp R R) (rm 1 R (Ah ?_))))))
    obtain rfl:=SJ h
    exact⟨(n2,(wI (s2+1))),_,hk2,⟨R,R,R,R,R,trivial⟩,R,zG _⟩
  ·refine C3 (As (As (Bi (Ab ?_))))
   obtain rfl:=SJ h
   obtain rfl:_=x2:=hk2
   exact⟨(),_,ho2,⟨R,trivial⟩,R⟩
def Qj (a0:Bn) (b1:Unit):Option Bool :=
 some (decide ((a0.L.length:Int)<=32))
def Jk (a0:Bn) (s2:Int):Option (LR (Int) (Unit) (Bool)) :=
 if (decide (s2<(a0.L.length:Int))) then((idx a0.L s2).bind λu3=>(Gl u3).bind λv4=>if (!v4) then(some (.ret false)) else((Ez a0 u3.Tok).bind λv5=>if (!decide (v5=s2)) then(some (.ret false)) else(some (.cont (wI (s2+1)))))) else(some (.brk ()))
def De (a0:Bn):Option Bool :=
 (Iz (Jk a0) fuel 0).bind λx=>match x with | .inl r=>some r | .inr e6=>Qj a0 e6
theorem Ll {a0:Bn} {r:Bool} (h:De a0=some r):Bt Qx0 47 [.agg [SL a0.L Al]] (·=L7 (.b r)):=by
 unfold De at h
 refine A1 Tryz.func47 R (nt:=29) R (Nbl R) ?_
 intro w0 S0
 refine csr (Er R R (rm 1 R (Ah (Bj (csr (fl Wc Amj R R R R R R (sv R (Ap Adi R) (rm 1 R (Ah (cj (Unit) (λb1=>[(1,L7 (.lp 0 0))]) (λb1=>[.box [SL a0.L Al]]) (λb1=>Qj a0 b1=some r) (λ_=>R) (λb1 h=>?_) ?_))))))))))
 ·unfold Qj at h
  refine csr (fl Wc Amj R R R R R R (sv R (Ap Adi R) (sv R (Dk R R) (rm 1 R (Ah (Bq ?_))))))
  obtain rfl:=SJ h
  exact dnT R R R R
 ·skip
  refine Bl ?_
  obtain⟨x2,hx2,ho2⟩:=Ae h
  refine lpo (G:=Nat×(Int)) (λg=>[(1,L7 (.lp 0 0)),(6,L7 (SL a0.L Al)),(7,L7 (Ii6 (a0.L.length:Int))),(8,L7 (Ii6 g.2))]) (λg=>[.box [SL a0.L Al]]) (λg=>Iz (Jk a0) g.1 g.2=some x2) (λg=>g.1) (fuel,0) hx2 ⟨R,R,R,R,trivial⟩ [] R (λ_=>R) ?_
  clear hx2 h
  rintro⟨n2,s2⟩ h
  obtain⟨n2,y2,rfl,h,hk2⟩:=Dj h
  unfold Jk at h
  refine csr (sv R (Bv R R) (Ah (Bj (ccI h R (λh=>?_) (λh=>?_)))))
  ·refine Bf (Ab (Bj (Bl (csr (sv R (Az R) ?_)))))
   obtain⟨u3,hu3,h⟩:=Ae h
   refine sv R (B4 (f:=Al) Adi (λ_=>R) R R R R hu3) ?_
   refine sv R (Bs (ys:=[Ii6 u3.Tok,Ii6 u3.Attempt,Ii6 u3.State,Ii6 u3.Ts]) Adk R (.cp _) R R) (Br R W5 (rm 1 R (sst Ab6 R R R R R (Ah (csr (sv R (lo Adk R R R) ?_))))))
   obtain⟨v4,hv4,h⟩:=Ae h
   refine Bb R A11 (Ac R Ag) (Ao R) (Vj hv4) (sv R (Bz R) (rm 1 R (ssI 16 h R (λh=>?_) (λh=>?_))))
   ·refine rm 7 R (Ah (Ce R (λ_=>?_) (λhx=>Bool.noConfusion hx)))
    refine csr (rm 1 R (Ah (Bq (Av (Af (Af (Av (Af ?_))))))))
    obtain rfl:=SJ h
    obtain rfl:Sum.inl _=x2:=hk2
    replace ho2:some _=some _:=ho2
    obtain rfl:=zD ho2
    exact dnT R R R R
   ·refine son R R R (ld P3 R R R R (son R R R (sv R (Aa Z2 R) (son R R R (sv R (l1 ti3 R R R) (son R R R ?_))))))
    obtain⟨v5,hv5,h⟩:=Ae h
    refine Bb R Asm (Ac R (Ac R Ag)) (Ao R) (Lx hv5) (rm 1 R (son R R R (sv R (Cc R R) (rm 1 R (Ah (ccI h R (λh=>?_) (λh=>?_)))))))
    ·refine csr (rm 1 R (Ah (Bq (Av (Af (Af (Av (Af ?_))))))))
     obtain rfl:=SJ h
     obtain rfl:Sum.inl _=x2:=hk2
     replace ho2:some _=some _:=ho2
     obtain rfl:=zD ho2
     exact dnT R R R R
    ·refine Bf (Ar (Ab (Au (sv R (Bp R R) (rm 1 R (Ah ?_))))))
     obtain rfl:=SJ h
     exact⟨(n2,(wI (s2+1))),_,hk2,⟨R,R,R,R,trivial⟩,R,zG _⟩
  ·refine C3 (As (As (Bi (Ab ?_))))
   obtain rfl:=SJ h
   obtain rfl:_=x2:=hk2
   exact⟨(),_,ho2,⟨R,trivial⟩,R⟩
def Ry (b1:Unit):Option Int :=
 some (-1)
def G7 (a0:Ai) (a1:Int) (s2:Int):Option (LR (Int) (Unit) (Int)) :=
 if (decide (s2<(a0.Open.length:Int))) then((idx a0.Open s2).bind λu3=>if (decide (u3.ID=a1)) then(some (.ret s2)) else(some (.cont (wI (s2+1))))) else(some (.brk ()))
def Es (a0:Ai) (a1:Int):Option Int :=
 (Iz (G7 a0 a1) fuel 0).bind λx=>match x with | .inl r=>some r | .inr e4=>Ry e4
theorem S9 {a0:Ai} {a1:Int} {r:Int} (h:Es a0 a1=some r):Bt Qx0 48 [.agg (EL.el a0),.one (Ii6 a1)] (·=L7 (Ii6 r)):=by
 unfold Es at h
 refine A1 Tryz.func48 R (nt:=21) R (Nbl R) ?_
 intro w0 S0
 refine csr (Er R R (rm 1 R (Ah (Bj (csr (fl Td Ai9 R R R R R R (sv R (Ap Aay R) (rm 1 R (Ah (cj (Unit) (λb1=>[]) (λb1=>[.box (EL.el a0)]) (λb1=>Ry b1=some r) (λ_=>R) (λb1 h=>?_) ?_))))))))))
 ·unfold Ry at h
  refine csr (rm 1 R (Ah (Bq ?_)))
  obtain rfl:=SJ h
  exact dnT R R R R
 ·skip
  refine Bl ?_
  obtain⟨x2,hx2,ho2⟩:=Ae h
  refine lpo (G:=Nat×(Int)) (λg=>[(1,L7 (Ii6 a1)),(8,L7 (SL a0.Open Bu)),(9,L7 (Ii6 (a0.Open.length:Int))),(10,L7 (Ii6 g.2))]) (λg=>[.box (EL.el a0)]) (λg=>Iz (G7 a0 a1) g.1 g.2=some x2) (λg=>g.1) (fuel,0) hx2 ⟨R,R,R,R,trivial⟩ [] R (λ_=>R) ?_
  clear hx2 h
  rintro⟨n2,s2⟩ h
  obtain⟨n2,y2,rfl,h,hk2⟩:=Dj h
  unfold G7 at h
  refine csr (sv R (Bv R R) (Ah (Bj (ccI h R (λh=>?_) (λh=>?_)))))
  ·refine Bf (Ab (Bj (Bl (csr (sv R (Az R) ?_)))))
   obtain⟨u3,hu3,h⟩:=Ae h
   refine sv R (B4 (f:=Bu) Aay (λ_=>R) R R R R hu3) ?_
   refine sv R (Bs (ys:=[Ii6 u3.ID,Ii6 u3.Token,Ii6 u3.Attempt,Ii6 u3.Snap,.b u3.RO,SL u3.Buf.L A5]) Zc R (.cp _) R R) (Br R Ad7 (rm 1 R (sst Adv R R R R R (Ah (csr (fl Tv ti3 R R R R R R (rm 1 R (sv R (B6 R R) (Ah (ccI h R (λh=>?_) (λh=>?_)))))))))))
   ·refine csr (rm 2 R (Ah (Bq (Av (Af (Af (Av (Af ?_))))))))
    obtain rfl:=SJ h
    obtain rfl:Sum.inl _=x2:=hk2
    replace ho2:some _=some _:=ho2
    obtain rfl:=zD ho2
    exact dnT R R R R
   ·refine Bf (Ar (Ab (Au (sv R (Bp R R) (rm 1 R (Ah ?_))))))
    obtain rfl:=SJ h
    exact⟨(n2,(wI (s2+1))),_,hk2,⟨R,R,R,R,trivial⟩,R,zG _⟩
  ·refine C3 (As (As (Bi (Ab ?_))))
   obtain rfl:=SJ h
   obtain rfl:_=x2:=hk2
   exact⟨(),_,ho2,trivial,R⟩
def Hr (a0:Be) (a1:Int):Option Int :=
 (Pk a0.Txs).bind λv1=>(Ew v1 a1).bind λv2=>some v2
theorem Rx {a0:Be} {a1:Int} {r:Int} (h:Hr a0 a1=some r):Bt Qx0 132 [.agg (EL.el a0),.one (Ii6 a1)] (·=L7 (Ii6 r)):=by
 unfold Hr at h
 refine A1 Tryz.func132 R (nt:=10) R (Nbl R) ?_
 intro w0 S0
 refine csr (Er R R (rm 1 R (Ah (csr (sv R (Aa Oy R) (sv R (l1 Abz R R R) ?_))))))
 obtain⟨v1,hv1,h⟩:=Ae h
 refine Bb R A0i (Ac R Ag) (Ao R) (Xm hv1) (sv R (Az R) ?_)
 obtain⟨v2,hv2,h⟩:=Ae h
 refine Bb R Ax9 (Ac R (Ac R Ag)) (Ao R) (S6 hv2) (rm 1 R (Ah (Bq ?_)))
 obtain rfl:=SJ h
 exact dnT R R R R
def N3 (a0:Be) (a1:Int):Option (A3×Bool) :=
 (Hr a0 a1).bind λv1=>if (decide (v1<0)) then(some (Aab,false)) else((idx a0.Txs v1).bind λu2=>some (u2,true))
theorem Acp {a0:Be} {a1:Int} {r:A3×Bool} (h:N3 a0 a1=some r):Bt Qx0 189 [.agg (EL.el a0),.one (Ii6 a1)] (·=.tup [.agg (EL.el r.1),.one (.b r.2)]):=by
 unfold N3 at h
 refine A1 Tryz.func189 R (nt:=18) R (Nbl R) ?_
 intro w0 S0
 refine csr (Er R R (Br R U7 (rm 1 R (Ah (csr (ld Sx R R R R (sv R (Az R) ?_)))))))
 obtain⟨v1,hv1,h⟩:=Ae h
 refine Bb R Avx (Ac R (Ac R Ag)) (Ao R) (Rx hv1) (rm 1 R (Ah (Bj (csr (rm 1 R (sv R (Bv R R) (Ah (ccI h R (λh=>?_) (λh=>?_)))))))))
 ·refine csr (sv R (A2 U7 Ayp A0 (.nil _)) (sst Ub R R R R R (rm 1 R (Ah (Bq (Af ?_))))))
  obtain rfl:=SJ h
  exact dn (Ad (ra J8 R R R) (Ad (rt R) Aj)) (I8 R) R
 ·refine Bf (Ab (csr (fl Oy Abz R R R R R R (sv R (Az R) ?_))))
  obtain⟨u2,hu2,h⟩:=Ae h
  refine sv R (B4 (f:=Bc) R8 (λ_=>R) R R R R hu2) ?_
  refine sv R (Bs (ys:=[Ii6 u2.ID,Ii6 u2.Begin,Ii6 u2.End,Ii6 u2.State,.b u2.In,.b u2.Out,.b u2.RO,SL u2.Keys (eL eU8)]) J8 R (.cp _) R R) (sst Ub R R R R R (rm 1 R (Ah (Bq ?_))))
  obtain rfl:=SJ h
  exact dn (Ad (ra J8 R R R) (Ad (rt R) Aj)) (Ao R) R
def Kr (a0:Ai) (a1:Bg):Option Bool :=
 (N3 a0.Cert a1.ID).bind λv1=>if (decide (v1.1.State=1)) then(if (decide (v1.1.Begin=a1.Snap)) then(if (v1.1.RO==a1.RO) then(if (decide (a1.Snap<=a0.Store.Ts)) then((Ft a1.Buf).bind λv2=>if v2 then(if a1.RO then(some (!(decide (0<(a1.Buf.L.length:Int))))) else(some true)) else(some false)) else(some false)) else(some false)) else(some false)) else(some false)
theorem X2 {a0:Ai} {a1:Bg} {r:Bool} (h:Kr a0 a1=some r):Bt Qx0 117 [.agg (EL.el a0),.agg (EL.el a1)] (·=L7 (.b r)):=by
 unfold Kr at h
 refine A1 Tryz.func117 R (nt:=57) R (Nbl R) ?_
 intro w0 S0
 refine csr (Er R R (Er R R (rm 1 R (Ah (csr (sv R (Aa R7 R) (ld Sx R R R R (sv R (Aa Tv R) (sv R (l1 ti3 R R R) ?_)))))))))
 obtain⟨v1,hv1,h⟩:=Ae h
 refine Bb R A1h (Ac R (Ac R Ag)) (Ao R) (Acp hv1) (sv R (Cf R) (sv R (Ak R R) (sv R (Ak R R) (Br R U7 (sst Ub R R R R R (rm 1 R (Ah (csr (fl Qb ti3 R R R R R R (sv R (B6 R R) (rm 1 R (ssI 18 h R (λh=>?_) (λh=>?_)))))))))))))
 ·refine son R R R (sv R (Aa Wk R) (son R R R (sv R (l1 ti3 R R R) (son R R R (sv R (Aa Afr R) (son R R R (sv R (l1 ti3 R R R) (son R R R (sv R (B6 R R) (rm 2 R (ssI 25 h R (λh=>?_) (λh=>?_))))))))))))
  ·refine son R R R (sv R (Aa Afa R) (son R R R (sv R (l1 ti4 R R R) (son R R R (sv R (Aa Akh R) (son R R R (sv R (l1 ti4 R R R) (son R R R (sv R (Abh Tryz.underlying4 R R) (rm 2 R (ssI 32 h R (λh=>?_) (λh=>?_))))))))))))
   ·refine son R R R (sv R (Aa Afr R) (son R R R (sv R (l1 ti3 R R R) (son R R R (sv R (Aa K5 R) (son R R R (sv R (Aa M8 R) (son R R R (sv R (l1 ti3 R R R) (son R R R (sv R (Dk R R) (rm 2 R (ssI 40 h R (λh=>?_) (λh=>?_))))))))))))))
    ·refine son R R R (sv R (Aa Yr R) (son R R R (ld Ajb R R R R (son R R R ?_))))
     obtain⟨v2,hv2,h⟩:=Ae h
     refine Bb R Au7 (Ac R Ag) (Ao R) (Py hv2) (rm 2 R (ssI 45 h R (λh=>?_) (λh=>?_)))
     ·refine son R R R (sv R (Aa Akh R) (son R R R (sv R (l1 ti4 R R R) (rm 1 R (ssI 48 h R (λh=>?_) (λh=>?_))))))
      ·refine son R R R (sv R (Aa Yr R) (son R R R (sv R (Aa Xn R) (son R R R (sv R (l1 Am4 R R R) (son R R R (sv R (Ap Zh R) (son R R R (sv R (Dr R R) (rm 1 R (son R R R (sv R (Bz R) (rm 2 R (Ah (Bq ?_)))))))))))))))
       obtain rfl:=SJ h
       exact dnT R R R R
      ·refine rm 6 R (son R R R (sv R (Bz R) (rm 2 R (Ah (Bq ?_)))))
       obtain rfl:=SJ h
       exact dnT R R R R
     ·refine rm 3 R (Cp R R R (Cp R R R (Cp R R R (Cp R R R (Cp R R R (rm 4 R (Ah (Bq ?_))))))))
      obtain rfl:=SJ h
      exact dnT R R R R
    ·refine rm 8 R (Cp R R R (Cp R R R (Cp R R R (Cp R R R (Cp R R R (rm 4 R (Ah (Bq ?_))))))))
     obtain rfl:=SJ h
     exact dnT R R R R
   ·refine rm 16 R (Cp R R R (Cp R R R (Cp R R R (Cp R R R (Cp R R R (rm 4 R (Ah (Bq ?_))))))))
    obtain rfl:=SJ h
    exact dnT R R R R
  ·refine rm 23 R (Cp R R R (Cp R R R (Cp R R R (Cp R R R (Cp R R R (rm 4 R (Ah (Bq ?_))))))))
   obtain rfl:=SJ h
   exact dnT R R R R
 ·refine rm 30 R (Cp R R R (Cp R R R (Cp R R R (Cp R R R (Cp R R R (rm 4 R (Ah (Bq ?_))))))))
  obtain rfl:=SJ h
  exact dnT R R R R
def Hj (a0:Ai) (b1:Unit):Option Bool :=
 some (decide ((a0.Open.length:Int)<=16))
def Hf (s2:Int×Int) (u3:Bg) (b6:Unit):Option (LR (Int×Int) (Unit) (Bool)) :=
 some (.cont (u3.ID,(wI (s2.2+1))))
def He (u3:Bg) (c5:List Bg) (s7:Int):Option (LR (Int) (Unit) (Bool)) :=
 if (decide (s7<(c5.length:Int))) then((idx c5 s7).bind λu8=>if (decide (u8.Token=u3.Token)) then(some (.ret false)) else(some (.cont (wI (s7+1))))) else(some (.brk ()))
def Ko (a0:Ai) (s2:Int×Int) (u3:Bg) (b4:Unit):Option (LR (Int×Int) (Unit) (Bool)) :=
 (cut a0.Open 0 s2.2).bind λc5=>(Iz (He u3 c5) fuel 0).bind λx=>match x with | .inl r=>some (.ret r) | .inr e9=>Hf s2 u3 e9
def Hb (a0:Ai) (s2:Int×Int):Option (LR (Int×Int) (Unit) (Bool)) :=
 if (decide (s2.2<(a0.Open.length:Int))) then((idx a0.Open s2.2).bind λu3=>if (decide (u3.ID<=s2.1)) then(some (.ret false)) else(if (decide (a0.Next<=u3.ID)) then(some (.ret false)) else((Kr a0 u3).bind λv10=>if (!v10) then(some (.ret false)) else(Ko a0 s2 u3 ())))) else(some (.brk ()))
def Lm (a0:Ai):Option Bool :=
 (Iz (Hb a0) fuel ((-1),0)).bind λx=>match x with | .inl r=>some r | .inr e11=>Hj a0 e11
theorem Yg {a0:Ai} {r:Bool} (h:Lm a0=some r):Bt Qx0 49 [.agg (EL.el a0)] (·=L7 (.b r)):=by
 unfold Lm at h
 refine A1 Tryz.func49 R (nt:=55) R (Nbl R) ?_
 intro w0 S0
 refine csr (Er R R (rm 1 R (Ah (csr (rm 1 R (Ah (Bj (csr (fl Td Ai9 R R R R R R (sv R (Ap Aay R) (rm 1 R (Ah (cj (Unit) (λb1=>[(1,L7 (.lp 0 0))]) (λb1=>[.box (EL.el a0)]) (λb1=>Hj a0 b1=some r) (λ_=>R) (λb1 h=>?_) ?_)))))))))))))
 ·unfold Hj at h
  refine csr (fl Td Ai9 R R R R R R (sv R (Ap Aay R) (sv R (Dk R R) (rm 1 R (Ah (Bq ?_))))))
  obtain rfl:=SJ h
  exact dnT R R R R
 ·skip
  refine Bl ?_
  obtain⟨x2,hx2,ho2⟩:=Ae h
  refine lpo (G:=Nat×(Int×Int)) (λg=>[(1,L7 (.lp 0 0)),(3,L7 (Ii6 g.2.1)),(9,L7 (SL a0.Open Bu)),(10,L7 (Ii6 (a0.Open.length:Int))),(11,L7 (Ii6 g.2.2))]) (λg=>[.box (EL.el a0)]) (λg=>Iz (Hb a0) g.1 g.2=some x2) (λg=>g.1) (fuel,((-1),0)) hx2 ⟨R,R,R,R,R,trivial⟩ [] R (λ_=>R) ?_
  clear hx2 h
  rintro⟨n2,s2⟩ h
  obtain⟨n2,y2,rfl,h,hk2⟩:=Dj h
  unfold Hb at h
  refine csr (sv R (Bv R R) (Ah (Bj (ccI h R (λh=>?_) (λh=>?_)))))
  ·refine Bf (Ab (Bj (Bl (csr (sv R (Az R) ?_)))))
   obtain⟨u3,hu3,h⟩:=Ae h
   refine sv R (B4 (f:=Bu) Aay (λ_=>R) R R R R hu3) ?_
   refine sv R (Bs (ys:=[Ii6 u3.ID,Ii6 u3.Token,Ii6 u3.Attempt,Ii6 u3.Snap,.b u3.RO,SL u3.Buf.L A5]) Zc R (.cp _) R R) (Br R Ad7 (rm 1 R (sst Adv R R R R R (Ah (Bj (Bj (cj3 (Unit) (λb4=>[(1,L7 (.lp 0 0)),(4,L7 (Ii6 s2.2)),(5,L7 (.lp 1 0)),(9,L7 (SL a0.Open Bu)),(10,L7 (Ii6 (a0.Open.length:Int))),(11,L7 (Ii6 s2.2))]) (λb4=>[.box (EL.el a0),.box (EL.el u3)]) (λb4=>Ko a0 s2 u3 b4=some y2) (λ_=>R) (λb4 h=>?_) ?_)))))))
   ·unfold Ko at h
    refine Bj (csr (fl Td Ai9 R R R R R R (sv R (Az R) ?_)))
    obtain⟨c5,hc5,h⟩:=Ae h
    refine sv R (Zn (f:=Bu) (lo:=0) (hi:=s2.2) Aay (λ_=>R) R R R Wr (Sm R (Int.le_trans (Wl hc5).1.1 (Wl hc5).1.2.1)) hc5) ?_
    refine sv R (Ap Aay R) (rm 1 R (Ah (cj (Unit) (λb6=>[(1,L7 (.lp 0 0)),(5,L7 (.lp 1 0)),(9,L7 (SL a0.Open Bu)),(10,L7 (Ii6 (a0.Open.length:Int))),(11,L7 (Ii6 s2.2))]) (λb6=>[.box (EL.el a0),.box (EL.el u3)]) (λb6=>Hf s2 u3 b6=some y2) (λ_=>R) (λb6 h=>?_) ?_)))
    ·unfold Hf at h
     refine Au (fl Tv ti3 R R R R R R (rm 1 R (Jb (Ar (Ab (Au (sv R (Bp R R) (rm 1 R (Ah ?_)))))))))
     obtain rfl:=SJ h
     exact⟨(n2,(u3.ID,(wI (s2.2+1)))),_,hk2,⟨R,R,R,R,R,trivial⟩,R,zG _⟩
    ·skip
     refine Bl ?_
     obtain⟨x7,hx7,ho7⟩:=Ae h
     refine lpo (G:=Nat×(Int)) (λg=>[(1,L7 (.lp 0 0)),(5,L7 (.lp 1 0)),(9,L7 (SL a0.Open Bu)),(10,L7 (Ii6 (a0.Open.length:Int))),(11,L7 (Ii6 s2.2)),(36,L7 (SL c5 Bu)),(37,L7 (Ii6 (c5.length:Int))),(38,L7 (Ii6 g.2))]) (λg=>[.box (EL.el a0),.box (EL.el u3)]) (λg=>Iz (He u3 c5) g.1 g.2=some x7) (λg=>g.1) (fuel,0) hx7 ⟨R,R,R,R,R,R,R,R,trivial⟩ [] R (λ_=>R) ?_
     clear hx7 h
     rintro⟨n7,s7⟩ h
     obtain⟨n7,y7,rfl,h,hk7⟩:=Dj h
     unfold He at h
     refine csr (sv R (Bv R R) (Ah (Bj (ccI h R (λh=>?_) (λh=>?_)))))
     ·refine Bf (Ab (Bj (Bl (Bj (Au ?_)))))
      obtain⟨u8,hu8,h⟩:=Ae h
      refine sv R (B4 (f:=Bu) Aay (λ_=>R) R R R R hu8) ?_
      refine sv R (Bs (ys:=[Ii6 u8.ID,Ii6 u8.Token,Ii6 u8.Attempt,Ii6 u8.Snap,.b u8.RO,SL u8.Buf.L A5]) Zc R (.cp _) R R) (Br R Ad7 (sst Adv R R R R R (Ah (csr (fl Adw ti3 R R R R R R (fl Adw ti3 R R R R R R (sv R (B6 R R) (Ah (ccI h R (λh=>?_) (λh=>?_))))))))))
      ·refine csr (rm 1 R (Ah (Bq (Av (Af (Af (Av (Af (Av (Af (Af (Av (Af ?_)))))))))))))
       obtain rfl:=SJ h
       obtain rfl:Sum.inl _=x7:=hk7
       replace ho7:some _=some _:=ho7
       obtain rfl:=zD ho7
       obtain rfl:Sum.inl _=x2:=hk2
       replace ho2:some _=some _:=ho2
       obtain rfl:=zD ho2
       exact dnT R R R R
      ·refine Bf (Ar (Ab (Au (sv R (Bp R R) (rm 1 R (Ah ?_))))))
       obtain rfl:=SJ h
       exact⟨(n7,(wI (s7+1))),_,hk7,⟨R,R,R,R,R,R,R,R,trivial⟩,R,zG _⟩
     ·refine C3 (As (As (Bi (Ab ?_))))
      obtain rfl:=SJ h
      obtain rfl:_=x7:=hk7
      exact⟨(),_,ho7,⟨R,R,R,R,R,trivial⟩,R⟩
   ·skip
    refine Au (fl Tv ti3 R R R R R R (rm 1 R (sv R (Dk R R) (rm 1 R (ssI 20 h R (λh=>?_) (λh=>?_))))))
    ·refine rm 12 R (Ah (Ce R (λ_=>?_) (λhx=>Bool.noConfusion hx)))
     refine csr (rm 1 R (Ah (Bq (Af (Av (Af (Af (Av (Af ?_)))))))))
     obtain rfl:=SJ h
     obtain rfl:Sum.inl _=x2:=hk2
     replace ho2:some _=some _:=ho2
     obtain rfl:=zD ho2
     exact dnT R R R R
    ·refine son R R R (sv R (Aa Tv R) (son R R R (sv R (l1 ti3 R R R) (son R R R (sv R (Aa Xr R) (son R R R (sv R (l1 ti3 R R R) (son R R R (sv R (Ii R R) (rm 2 R (ssI 27 h R (λh=>?_) (λh=>?_))))))))))))
     ·refine rm 5 R (Ah (Ce R (λ_=>?_) (λhx=>Bool.noConfusion hx)))
      refine csr (rm 1 R (Ah (Bq (Af (Av (Af (Af (Av (Af ?_)))))))))
      obtain rfl:=SJ h
      obtain rfl:Sum.inl _=x2:=hk2
      replace ho2:some _=some _:=ho2
      obtain rfl:=zD ho2
      exact dnT R R R R
     ·refine son R R R (ld Dq R R R R (son R R R (ld Zc R R R R (son R R R ?_))))
      obtain⟨v10,hv10,h⟩:=Ae h
      refine Bb R A06 (Ac R (Ac R Ag)) (Ao R) (X2 hv10) (son R R R (sv R (Bz R) (rm 1 R (Ah (ccI h R (λh=>?_) (λh=>?_))))))
      ·refine csr (rm 1 R (Ah (Bq (Af (Av (Af (Af (Av (Af ?_)))))))))
       obtain rfl:=SJ h
       obtain rfl:Sum.inl _=x2:=hk2
       replace ho2:some _=some _:=ho2
       obtain rfl:=zD ho2
       exact dnT R R R R
      ·refine Bf (Ab ?_)
       exact⟨(),_,h,⟨R,R,R,R,R,R,trivial⟩,R⟩
  ·refine C3 (As (As (Bi (Ab ?_))))
   obtain rfl:=SJ h
   obtain rfl:_=x2:=hk2
   exact⟨(),_,ho2,⟨R,trivial⟩,R⟩
def Nf (a0:Ai) (b2:Unit):Option Bool :=
 (Lm a0).bind λv3=>some v3
def M7 (a0:Ai) (s4:Int):Option (LR (Int) (Unit) (Bool)) :=
 if (decide (s4<(a0.Cert.Txs.length:Int))) then((idx a0.Cert.Txs s4).bind λu5=>if (decide (a0.Store.Ts<u5.End)) then(some (.ret false)) else(if (decide (u5.State=1)) then((Es a0 u5.ID).bind λv6=>if (decide (v6<0)) then(some (.ret false)) else(some (.cont (wI (s4+1))))) else(some (.cont (wI (s4+1)))))) else(some (.brk ()))
def Pr (a0:Ai) (b1:Unit):Option Bool :=
 (Iz (M7 a0) fuel 0).bind λx=>match x with | .inl r=>some r | .inr e7=>Nf a0 e7
def Hv (a0:Ai):Option Bool :=
 (Dh a0.Store).bind λv8=>if (!v8) then(some false) else((Lq a0.Cert).bind λv9=>if (!v9) then(some false) else((De a0.Toks).bind λv10=>if (!v10) then(some false) else(if (decide (a0.Next<0)) then(some false) else(if (decide (1099511627776<a0.Next)) then(some false) else(Pr a0 ())))))
theorem Mh {a0:Ai} {r:Bool} (h:Hv a0=some r):Bt Qx0 16 [.agg (EL.el a0)] (·=L7 (.b r)):=by
 unfold Hv at h
 refine A1 Tryz.func16 R (nt:=60) R (Nbl R) ?_
 intro w0 S0
 refine csr (Er R R (rm 1 R (Ah (Bj (Bj (cj3 (Unit) (λb1=>[(1,L7 (.lp 0 0))]) (λb1=>[.box (EL.el a0)]) (λb1=>Pr a0 b1=some r) (λ_=>R) (λb1 h=>?_) ?_))))))
 ·unfold Pr at h
  refine Bj (csr (sv R (Aa R7 R) (fl Oy Abz R R R R R R (sv R (Ap R8 R) (rm 1 R (Ah (cj (Unit) (λb2=>[(1,L7 (.lp 0 0))]) (λb2=>[.box (EL.el a0)]) (λb2=>Nf a0 b2=some r) (λ_=>R) (λb2 h=>?_) ?_)))))))
  ·unfold Nf at h
   refine csr (sv R (lo Dq R R R) ?_)
   obtain⟨v3,hv3,h⟩:=Ae h
   refine Bb R A5e (Ac R Ag) (Ao R) (Yg hv3) (rm 1 R (Ah (Bq ?_)))
   obtain rfl:=SJ h
   exact dnT R R R R
  ·skip
   refine Bl ?_
   obtain⟨x4,hx4,ho4⟩:=Ae h
   refine lpo (G:=Nat×(Int)) (λg=>[(1,L7 (.lp 0 0)),(33,L7 (SL a0.Cert.Txs Bc)),(34,L7 (Ii6 (a0.Cert.Txs.length:Int))),(35,L7 (Ii6 g.2))]) (λg=>[.box (EL.el a0)]) (λg=>Iz (M7 a0) g.1 g.2=some x4) (λg=>g.1) (fuel,0) hx4 ⟨R,R,R,R,trivial⟩ [] R (λ_=>R) ?_
   clear hx4 h
   rintro⟨n4,s4⟩ h
   obtain⟨n4,y4,rfl,h,hk4⟩:=Dj h
   unfold M7 at h
   refine csr (sv R (Bv R R) (Ah (Bj (ccI h R (λh=>?_) (λh=>?_)))))
   ·refine Bf (Ab (Bj (Bl (Bj (Au ?_)))))
    obtain⟨u5,hu5,h⟩:=Ae h
    refine sv R (B4 (f:=Bc) R8 (λ_=>R) R R R R hu5) ?_
    refine sv R (Bs (ys:=[Ii6 u5.ID,Ii6 u5.Begin,Ii6 u5.End,Ii6 u5.State,.b u5.In,.b u5.Out,.b u5.RO,SL u5.Keys (eL eU8)]) J8 R (.cp _) R R) (Br R U7 (sst Ub R R R R R (Ah (csr (fl Rq ti3 R R R R R R (sv R (Aa K5 R) (fl M8 ti3 R R R R R R (sv R (Dr R R) (rm 1 R (ssI 45 h R (λh=>?_) (λh=>?_)))))))))))
    ·refine rm 4 R (Cp R R R (Cp R R R (Cp R R R (Cp R R R (Cp R R R (rm 2 R (Ah (Ce R (λ_=>?_) (λhx=>Bool.noConfusion hx)))))))))
     refine csr (rm 1 R (Ah (Bq (Av (Af (Af (Av (Af ?_))))))))
     obtain rfl:=SJ h
     obtain rfl:Sum.inl _=x4:=hk4
     replace ho4:some _=some _:=ho4
     obtain rfl:=zD ho4
     exact dnT R R R R
    ·refine son R R R (sv R (Aa Qb R) (son R R R (sv R (l1 ti3 R R R) (son R R R (sv R (B6 R R) (rm 1 R (ssI 49 h R (λh=>?_) (λh=>?_))))))))
     ·refine son R R R (ld Dq R R R R (son R R R (sv R (Aa Vb R) (son R R R (sv R (l1 ti3 R R R) (son R R R ?_))))))
      obtain⟨v6,hv6,h⟩:=Ae h
      refine Bb R A16 (Ac R (Ac R Ag)) (Ao R) (S9 hv6) (son R R R (sv R (Bv R R) (rm 2 R (Ah (ccI h R (λh=>?_) (λh=>?_))))))
      ·refine csr (rm 1 R (Ah (Bq (Av (Af (Af (Av (Af ?_))))))))
       obtain rfl:=SJ h
       obtain rfl:Sum.inl _=x4:=hk4
       replace ho4:some _=some _:=ho4
       obtain rfl:=zD ho4
       exact dnT R R R R
      ·refine Bf (Ar (Ab (Au (sv R (Bp R R) (rm 1 R (Ah ?_))))))
       obtain rfl:=SJ h
       exact⟨(n4,(wI (s4+1))),_,hk4,⟨R,R,R,R,trivial⟩,R,zG _⟩
     ·refine rm 7 R (Ah (Ce R (λhx=>Bool.noConfusion hx) (λ_=>?_)))
      refine Bf (Ar (Ab (Au (sv R (Bp R R) (rm 1 R (Ah ?_))))))
      obtain rfl:=SJ h
      exact⟨(n4,(wI (s4+1))),_,hk4,⟨R,R,R,R,trivial⟩,R,zG _⟩
   ·refine C3 (As (As (Bi (Ab ?_))))
    obtain rfl:=SJ h
    obtain rfl:_=x4:=hk4
    exact⟨(),_,ho4,⟨R,trivial⟩,R⟩
 ·skip
  refine Au (sv R (Aa K5 R) (sv R (lo Yw R R R) ?_))
  obtain⟨v8,hv8,h⟩:=Ae h
  refine Bb R Ax7 (Ac R Ag) (Ao R) (L9 hv8) (sv R (Bz R) (rm 1 R (ssI 9 h R (λh=>?_) (λh=>?_))))
  ·refine rm 21 R (Ah (Ce R (λ_=>?_) (λhx=>Bool.noConfusion hx)))
   refine csr (rm 1 R (Ah (Bq (Af ?_))))
   obtain rfl:=SJ h
   exact dnT R R R R
  ·refine son R R R (sv R (Aa R7 R) (son R R R (ld Sx R R R R (son R R R ?_))))
   obtain⟨v9,hv9,h⟩:=Ae h
   refine Bb R A0y (Ac R Ag) (Ao R) (Q7 hv9) (son R R R (sv R (Bz R) (rm 2 R (ssI 15 h R (λh=>?_) (λh=>?_)))))
   ·refine rm 15 R (Ah (Ce R (λ_=>?_) (λhx=>Bool.noConfusion hx)))
    refine csr (rm 1 R (Ah (Bq (Af ?_))))
    obtain rfl:=SJ h
    exact dnT R R R R
   ·refine son R R R (sv R (Aa Vl R) (son R R R (ld P3 R R R R (son R R R ?_))))
    obtain⟨v10,hv10,h⟩:=Ae h
    refine Bb R Az0 (Ac R Ag) (Ao R) (Ll hv10) (son R R R (sv R (Bz R) (rm 2 R (ssI 21 h R (λh=>?_) (λh=>?_)))))
    ·refine rm 9 R (Ah (Ce R (λ_=>?_) (λhx=>Bool.noConfusion hx)))
     refine csr (rm 1 R (Ah (Bq (Af ?_))))
     obtain rfl:=SJ h
     exact dnT R R R R
    ·refine son R R R (sv R (Aa Xr R) (son R R R (sv R (l1 ti3 R R R) (son R R R (sv R (Bv R R) (rm 2 R (ssI 26 h R (λh=>?_) (λh=>?_))))))))
     ·refine rm 4 R (Ah (Ce R (λ_=>?_) (λhx=>Bool.noConfusion hx)))
      refine csr (rm 1 R (Ah (Bq (Af ?_))))
      obtain rfl:=SJ h
      exact dnT R R R R
     ·refine son R R R (sv R (Aa Xr R) (son R R R (sv R (l1 ti3 R R R) (son R R R (sv R (Dr R R) (rm 1 R (Ah (ccI h R (λh=>?_) (λh=>?_)))))))))
      ·refine csr (rm 1 R (Ah (Bq (Af ?_))))
       obtain rfl:=SJ h
       exact dnT R R R R
      ·refine Bf (Ab ?_)
       exact⟨(),_,h,⟨R,trivial⟩,R⟩
def Qc (b1:Unit):Option (Bg×Bool) :=
 some (Rp,false)
def Jt (a0:Ai) (a1:Int) (s2:Int):Option (LR (Int) (Unit) (Bg×Bool)) :=
 if (decide (s2<(a0.Open.length:Int))) then((idx a0.Open s2).bind λu3=>if (decide (u3.Token=a1)) then(some (.ret (u3,true))) else(some (.cont (wI (s2+1))))) else(some (.brk ()))
def La (a0:Ai) (a1:Int):Option (Bg×Bool) :=
 (Iz (Jt a0 a1) fuel 0).bind λx=>match x with | .inl r=>some r | .inr e4=>Qc e4
theorem T7 {a0:Ai} {a1:Int} {r:Bg×Bool} (h:La a0 a1=some r):Bt Qx0 56 [.agg (EL.el a0),.one (Ii6 a1)] (·=.tup [.agg (EL.el r.1),.one (.b r.2)]):=by
 unfold La at h
 refine A1 Tryz.func56 R (nt:=22) R (Nbl R) ?_
 intro w0 S0
 refine csr (Er R R (Br R Ad7 (rm 1 R (Ah (Bj (csr (fl Td Ai9 R R R R R R (sv R (Ap Aay R) (rm 1 R (Ah (cj (Unit) (λb1=>[(4,L7 (.lp 1 0))]) (λb1=>[.box (EL.el a0),.box [Ii6 0,Ii6 0,Ii6 0,Ii6 0,.b false,Znl]]) (λb1=>Qc b1=some r) (λ_=>R) (λb1 h=>?_) ?_)))))))))))
 ·unfold Qc at h
  refine csr (sv R (A2 Ad7 A0r A0 (.nil _)) (sst Adv R R R R R (rm 1 R (Ah (Bq ?_)))))
  obtain rfl:=SJ h
  exact dn (Ad (ra Zc R R R) (Ad (rt R) Aj)) (I8 R) R
 ·skip
  refine Bl ?_
  obtain⟨x2,hx2,ho2⟩:=Ae h
  refine lpo (G:=Nat×(Int)) (λg=>[(1,L7 (Ii6 a1)),(4,L7 (.lp 1 0)),(9,L7 (SL a0.Open Bu)),(10,L7 (Ii6 (a0.Open.length:Int))),(11,L7 (Ii6 g.2))]) (λg=>[.box (EL.el a0),.box [Ii6 0,Ii6 0,Ii6 0,Ii6 0,.b false,Znl]]) (λg=>Iz (Jt a0 a1) g.1 g.2=some x2) (λg=>g.1) (fuel,0) hx2 ⟨R,R,R,R,R,trivial⟩ [] R (λ_=>R) ?_
  clear hx2 h
  rintro⟨n2,s2⟩ h
  obtain⟨n2,y2,rfl,h,hk2⟩:=Dj h
  unfold Jt at h
  refine csr (sv R (Bv R R) (Ah (Bj (ccI h R (λh=>?_) (λh=>?_)))))
  ·refine Bf (Ab (Bj (Bl (Bj (Au ?_)))))
   obtain⟨u3,hu3,h⟩:=Ae h
   refine sv R (B4 (f:=Bu) Aay (λ_=>R) R R R R hu3) ?_
   refine sv R (Bs (ys:=[Ii6 u3.ID,Ii6 u3.Token,Ii6 u3.Attempt,Ii6 u3.Snap,.b u3.RO,SL u3.Buf.L A5]) Zc R (.cp _) R R) (Br R Ad7 (sst Adv R R R R R (Ah (csr (fl Adw ti3 R R R R R R (rm 1 R (sv R (B6 R R) (Ah (ccI h R (λh=>?_) (λh=>?_))))))))))
   ·refine csr (ld Zc R R R R (sst Adv R R R R R (rm 1 R (Ah (Bq (Av (Af (Af (Av (Af ?_))))))))))
    obtain rfl:=SJ h
    obtain rfl:Sum.inl _=x2:=hk2
    replace ho2:some _=some _:=ho2
    obtain rfl:=zD ho2
    exact dn (Ad (ra Zc R R R) (Ad (rt R) Aj)) (Ao R) R
   ·refine Bf (Ar (Ab (Au (sv R (Bp R R) (rm 1 R (Ah ?_))))))
    obtain rfl:=SJ h
    exact⟨(n2,(wI (s2+1))),_,hk2,⟨R,R,R,R,R,trivial⟩,R,zG _⟩
  ·refine C3 (As (As (Bi (Ab ?_))))
   obtain rfl:=SJ h
   obtain rfl:_=x2:=hk2
   exact⟨(),_,ho2,⟨R,trivial⟩,R⟩
def Qa (a0:Ai) (b1:(List Bg)):Option Ai :=
 some ({a0 with Open:=b1})
def Jy (a0:Ai) (a1:Int) (s2:Int×(List Bg)):Option (LB (Int×(List Bg)) ((List Bg))) :=
 if (decide (s2.1<(a0.Open.length:Int))) then((idx a0.Open s2.1).bind λu3=>if (!decide (u3.ID=a1)) then(if (s2.2.length+[u3].length)*64<=140737488355328 then(some (.cont ((wI (s2.1+1)),(s2.2++[u3])))) else none) else(some (.cont ((wI (s2.1+1)),s2.2)))) else(some (.brk s2.2))
def Lc (a0:Ai) (a1:Int):Option Ai :=
 (Cz (Jy a0 a1) fuel (0,([]:List Bg))).bind λe5=>Qa a0 e5
theorem T6 {a0:Ai} {a1:Int} {r:Ai} (h:Lc a0 a1=some r):Bt Qx0 128 [.agg (EL.el a0),.one (Ii6 a1)] (·=.s (.agg (EL.el r))):=by
 unfold Lc at h
 refine A1 Tryz.func128 R (nt:=27) R (Nbl R) ?_
 intro w0 S0
 refine csr (Er R R (Br R Tg (Ah (csr (rm 1 R (Ah (Bj (csr (fl Td Ai9 R R R R R R (sv R (Ap Aay R) (rm 1 R (Ah ?_))))))))))))
 refine Dl 88 6 5 (by decide) R ?_
 refine cj ((List Bg)) (λb1=>[(2,L7 (.lp 0 0)),(4,L7 (.lp 1 0)),(5,L7 (.ls 2 b1.length))]) (λb1=>[.box (EL.el a0),.box Zba,.arr 88 6 0 (b1.flatMap Bu)]) (λb1=>Qa a0 b1=some r) (λ_=>R) (λb1 h=>?_) ?_
 ·unfold Qa at h
  refine csr (rm 1 R (sv R (Aa Td R) (sst A4j R R R R R (Ah (csr (ld Dq R R R R (sst Kn R R R R R (Ah (Bq ?_)))))))))
  obtain rfl:=SJ h
  refine⟨Or.inr R,_,_,_,(Ad (ra Dq R R R) Aj),(by(repeat' first|exact Ho.nil _|apply Ho.cons|apply Hl.one|apply Hl.agg|exact C5.nil|exact C5.ls _ _ _ _ _ _ R (Aw (f:=Bu) (λ_=>R) _).symm|exact C5.id _ R|exact Cv.nil _|apply Cv.cons)),?_⟩
  rfl
 ·skip
  refine Bl ?_
  obtain⟨x2,hx2,ho2⟩:=Ae h
  refine lpo (G:=Nat×(Int×(List Bg))) (λg=>[(1,L7 (Ii6 a1)),(2,L7 (.lp 0 0)),(4,L7 (.lp 1 0)),(5,L7 (.ls 2 g.2.2.length)),(9,L7 (SL a0.Open Bu)),(10,L7 (Ii6 (a0.Open.length:Int))),(11,L7 (Ii6 g.2.1))]) (λg=>[.box (EL.el a0),.box Zba,.arr 88 6 0 (g.2.2.flatMap Bu)]) (λg=>Cz (Jy a0 a1) g.1 g.2=some x2) (λg=>g.1) (fuel,(0,([]:List Bg))) hx2 ⟨R,R,R,R,R,R,R,trivial⟩ [] R (λ_=>R) ?_
  clear hx2 h
  rintro⟨n2,s2⟩ h
  obtain⟨n2,y2,rfl,h,hk2⟩:=Cw h
  unfold Jy at h
  refine csr (sv R (Bv R R) (Ah (Bj (ccI h R (λh=>?_) (λh=>?_)))))
  ·refine Bf (Ab (Bj (Bl (Bj (Au ?_)))))
   obtain⟨u3,hu3,h⟩:=Ae h
   refine sv R (B4 (f:=Bu) Aay (λ_=>R) R R R R hu3) ?_
   refine sv R (Bs (ys:=[Ii6 u3.ID,Ii6 u3.Token,Ii6 u3.Attempt,Ii6 u3.Snap,.b u3.RO,SL u3.Buf.L A5]) Zc R (.cp _) R R) (Br R Ad7 (sst Adv R R R R R (Ah (csr (fl Tv ti3 R R R R R R (rm 1 R (sv R (Cc R R) (Ah (ccI h R (λh=>?_) (λh=>?_))))))))))
   ·refine Au (rm 1 R (sv R (lo Zc R R R) ?_))
    refine D7 R Tryz.underlying38 Auu R R (zI.1 R) (by decide) ?_
    refine Ql [.box (EL.el a0),.box Zba,.arr 88 6 0 (s2.2.flatMap Bu),.box (EL.el u3),.arr 88 6 0 ([u3].flatMap Bu)] R ?_
    obtain⟨hb4,h⟩:=Cs h
    refine U1 (f:=Bu) (xs:=s2.2) (us:=[u3]) R Tryz.underlying38 Auu A3m (λ_=>R) R R (.one _ _ _ _ (.ls _ _ _ _ _ _ R (Aw (f:=Bu) (λ_=>R) [u3]).symm)) R R R (.sl _ _ _ (Aw (f:=Bu) (λ_=>R) _)) R R hb4 (by decide) ?_
    refine rm 1 R (Jb (Ar (Ab (Au (sv R (Bp R R) (rm 1 R (Ah ?_)))))))
    obtain rfl:=SJ h
    exact⟨(n2,((wI (s2.1+1)),(s2.2++[u3]))),_,hk2,⟨R,R,R,R,R,R,R,trivial⟩,R,zG _⟩
   ·refine Bf (Ar (Ab (Au (sv R (Bp R R) (rm 1 R (Ah ?_))))))
    obtain rfl:=SJ h
    exact⟨(n2,((wI (s2.1+1)),s2.2)),_,hk2,⟨R,R,R,R,R,R,R,trivial⟩,R,zG _⟩
  ·refine C3 (As (As (Bi (Ab ?_))))
   obtain rfl:=SJ h
   obtain rfl:_=x2:=hk2
   exact⟨s2.2,_,ho2,⟨R,R,R,trivial⟩,R⟩
def Gf (a0:Be) (a1:Int):Option Int :=
 (Hr a0 a1).bind λv1=>if (decide (v1<0)) then(some (-1)) else((idx a0.Txs v1).bind λu2=>if (!decide (u2.State=1)) then(some (-1)) else(some v1))
theorem Qr {a0:Be} {a1:Int} {r:Int} (h:Gf a0 a1=some r):Bt Qx0 194 [.agg (EL.el a0),.one (Ii6 a1)] (·=L7 (Ii6 r)):=by
 unfold Gf at h
 refine A1 Tryz.func194 R (nt:=21) R (Nbl R) ?_
 intro w0 S0
 refine csr (Er R R (rm 1 R (Ah (csr (ld Sx R R R R (sv R (Az R) ?_))))))
 obtain⟨v1,hv1,h⟩:=Ae h
 refine Bb R Avx (Ac R (Ac R Ag)) (Ao R) (Rx hv1) (rm 1 R (Ah (Bj (csr (rm 1 R (sv R (Bv R R) (rm 1 R (ssI 11 h R (λh=>?_) (λh=>?_)))))))))
 ·refine rm 8 R (Ah (Ce R (λ_=>?_) (λhx=>Bool.noConfusion hx)))
  refine csr (rm 1 R (Ah (Bq (Af ?_))))
  obtain rfl:=SJ h
  exact dnT R R R R
 ·refine son R R R (sv R (Aa Oy R) (son R R R (sv R (l1 Abz R R R) (rm 1 R (son R R R ?_)))))
  obtain⟨u2,hu2,h⟩:=Ae h
  refine sv R (B4 (f:=Bc) R8 (λ_=>R) R R R R hu2) ?_
  refine son R R R (sv R (Bw Qb R) (son R R R (sv R (B0 ti3 R (.cp _) R) (son R R R (sv R (Cc R R) (rm 1 R (Ah (ccI h R (λh=>?_) (λh=>?_)))))))))
  ·refine csr (rm 1 R (Ah (Bq (Af ?_))))
   obtain rfl:=SJ h
   exact dnT R R R R
  ·refine Bf (Ab (csr (rm 2 R (Ah (Bq ?_)))))
   obtain rfl:=SJ h
   exact dnT R R R R
def L4 (a0:Be) (a1:List Int) (b1:(List A3)):Option Be :=
 (Kx a0.Reads a1).bind λv2=>some (Be.mk b1 v2)
def F3 (a0:Be) (a1:List Int) (s3:Int×(List A3)):Option (LB (Int×(List A3)) ((List A3))) :=
 if (decide (s3.1<(a0.Txs.length:Int))) then((idx a0.Txs s3.1).bind λu4=>(D4 a1 u4.ID).bind λv5=>if (!v5) then(if (s3.2.length+[u4].length)*64<=140737488355328 then(some (.cont ((wI (s3.1+1)),(s3.2++[u4])))) else none) else(some (.cont ((wI (s3.1+1)),s3.2)))) else(some (.brk s3.2))
def I3 (a0:Be) (a1:List Int):Option Be :=
 (Cz (F3 a0 a1) fuel (0,([]:List A3))).bind λe7=>L4 a0 a1 e7
theorem Tu {a0:Be} {a1:List Int} {r:Be} (h:I3 a0 a1=some r):Bt Qx0 195 [.agg (EL.el a0),.one (SL a1 eI)] (·=.s (.agg (EL.el r))):=by
 unfold I3 at h
 refine A1 Tryz.func195 R (nt:=31) R (Nbl R) ?_
 intro w0 S0
 refine csr (Er R R (Br R Zq (Ah (csr (rm 1 R (Ah (Bj (csr (fl Oy Abz R R R R R R (sv R (Ap R8 R) (rm 1 R (Ah ?_))))))))))))
 refine Dl 139 8 5 (by decide) R ?_
 refine cj ((List A3)) (λb1=>[(1,L7 (SL a1 eI)),(2,L7 (.lp 0 0)),(4,L7 (.lp 1 0)),(5,L7 (.ls 2 b1.length))]) (λb1=>[.box (EL.el a0),.box [Znl,Znl],.arr 139 8 0 (b1.flatMap Bc)]) (λb1=>L4 a0 a1 b1=some r) (λ_=>R) (λb1 h=>?_) ?_
 ·unfold L4 at h
  refine csr (rm 1 R (sv R (Aa Vy R) (ld Afg R R R R (sv R (Az R) ?_))))
  obtain⟨v2,hv2,h⟩:=Ae h
  refine Bb R Az4 (Ac R (Ac R Ag)) (Ao R) (Uj hv2) (sv R (A2 Zq Afp (Aq R (Aq R A0)) (.cons _ _ _ _ _ _ _ R R (Nbl R) (.cons _ _ _ _ _ _ _ R R (Nbl R) (.nil _)))) (sst Z6 R R R R R (Ah (Bq ?_))))
  obtain rfl:=SJ h
  refine⟨Or.inr R,_,_,_,(Ad (ra Sx R R R) Aj),(by(repeat' first|exact Ho.nil _|apply Ho.cons|apply Hl.one|apply Hl.agg|exact C5.nil|exact C5.ls _ _ _ _ _ _ R (Aw (f:=Bc) (λ_=>R) _).symm|exact C5.id _ R|exact Cv.nil _|apply Cv.cons)),?_⟩
  rfl
 ·skip
  refine Bl ?_
  obtain⟨x3,hx3,ho3⟩:=Ae h
  refine lpo (G:=Nat×(Int×(List A3))) (λg=>[(1,L7 (SL a1 eI)),(2,L7 (.lp 0 0)),(4,L7 (.lp 1 0)),(5,L7 (.ls 2 g.2.2.length)),(9,L7 (SL a0.Txs Bc)),(10,L7 (Ii6 (a0.Txs.length:Int))),(11,L7 (Ii6 g.2.1))]) (λg=>[.box (EL.el a0),.box [Znl,Znl],.arr 139 8 0 (g.2.2.flatMap Bc)]) (λg=>Cz (F3 a0 a1) g.1 g.2=some x3) (λg=>g.1) (fuel,(0,([]:List A3))) hx3 ⟨R,R,R,R,R,R,R,trivial⟩ [] R (λ_=>R) ?_
  clear hx3 h
  rintro⟨n3,s3⟩ h
  obtain⟨n3,y3,rfl,h,hk3⟩:=Cw h
  unfold F3 at h
  refine csr (sv R (Bv R R) (Ah (Bj (ccI h R (λh=>?_) (λh=>?_)))))
  ·refine Bf (Ab (Bj (Bl (Bj (Au ?_)))))
   obtain⟨u4,hu4,h⟩:=Ae h
   refine sv R (B4 (f:=Bc) R8 (λ_=>R) R R R R hu4) ?_
   refine sv R (Bs (ys:=[Ii6 u4.ID,Ii6 u4.Begin,Ii6 u4.End,Ii6 u4.State,.b u4.In,.b u4.Out,.b u4.RO,SL u4.Keys (eL eU8)]) J8 R (.cp _) R R) (Br R U7 (sst Ub R R R R R (Ah (csr (rm 1 R (sv R (Aa Vb R) (sv R (l1 ti3 R R R) ?_)))))))
   obtain⟨v5,hv5,h⟩:=Ae h
   refine Bb R Aur (Ac R (Ac R Ag)) (Ao R) (Mm hv5) (sv R (Bz R) (Ah (ccI h R (λh=>?_) (λh=>?_))))
   ·refine Au (rm 1 R (sv R (lo J8 R R R) ?_))
    refine D7 R Tryz.underlying29 Ajy R R (zI.1 R) (by decide) ?_
    refine Ql [.box (EL.el a0),.box [Znl,Znl],.arr 139 8 0 (s3.2.flatMap Bc),.box (EL.el u4),.arr 139 8 0 ([u4].flatMap Bc)] R ?_
    obtain⟨hb6,h⟩:=Cs h
    refine U1 (f:=Bc) (xs:=s3.2) (us:=[u4]) R Tryz.underlying29 Ajy A2f (λ_=>R) R R (.one _ _ _ _ (.ls _ _ _ _ _ _ R (Aw (f:=Bc) (λ_=>R) [u4]).symm)) R R R (.sl _ _ _ (Aw (f:=Bc) (λ_=>R) _)) R R hb6 (by decide) ?_
    refine rm 1 R (Jb (Ar (Ab (Au (sv R (Bp R R) (rm 1 R (Ah ?_)))))))
    obtain rfl:=SJ h
    exact⟨(n3,((wI (s3.1+1)),(s3.2++[u4]))),_,hk3,⟨R,R,R,R,R,R,R,trivial⟩,R,zG _⟩
   ·refine Bf (Ar (Ab (Au (sv R (Bp R R) (rm 1 R (Ah ?_))))))
    obtain rfl:=SJ h
    exact⟨(n3,((wI (s3.1+1)),s3.2)),_,hk3,⟨R,R,R,R,R,R,R,trivial⟩,R,zG _⟩
  ·refine C3 (As (As (Bi (Ab ?_))))
   obtain rfl:=SJ h
   obtain rfl:_=x3:=hk3
   exact⟨s3.2,_,ho3,⟨R,R,R,R,trivial⟩,R⟩
def Ep (a0:Be) (a1:Int):Option Be :=
 (Gf a0 a1).bind λv1=>if (decide (v1<0)) then(some a0) else((I3 a0 [a1]).bind λv2=>some v2)
theorem Aa0 {a0:Be} {a1:Int} {r:Be} (h:Ep a0 a1=some r):Bt Qx0 129 [.agg (EL.el a0),.one (Ii6 a1)] (·=.s (.agg (EL.el r))):=by
 unfold Ep at h
 refine A1 Tryz.func129 R (nt:=14) R (Nbl R) ?_
 intro w0 S0
 refine csr (Er R R (Br R Zq (Ah (Bj (csr (ld Sx R R R R (sv R (Az R) ?_)))))))
 obtain⟨v1,hv1,h⟩:=Ae h
 refine Bb R Avu (Ac R (Ac R Ag)) (Ao R) (Qr hv1) (sv R (Bv R R) (Ah (ccI h R (λh=>?_) (λh=>?_))))
 ·refine csr (ld Sx R R R R (sst Z6 R R R R R (Ah (Bq (Af ?_)))))
  obtain rfl:=SJ h
  exact dnA R Sx R (.lp _ _ _ R) (Nbl R) R R
 ·refine Bf (Ab (csr (ld Sx R R R R (sv R (Az R) ?_))))
  refine D7 R Tryz.underlying225 ei3 R R (zI.1 R) (by decide) ?_
  refine Ql [.box (EL.el a0),.box [Znl,Znl],.arr 3 1 0 ([a1].flatMap eI)] R ?_
  refine Aif 12 R (by(repeat' first|exact Ho.nil _|apply Ho.cons|apply Hl.one|apply Hl.agg|exact C5.nil|exact C5.ls _ _ _ _ _ _ R (Aw (f:=eI) (λ_=>R) ([a1]:List Int)).symm|exact C5.ls _ _ _ _ _ _ R (Aw (f:=eI) (λ_=>R) _).symm|exact C5.id _ R|exact Cv.nil _|apply Cv.cons)) ?_
  obtain⟨v2,hv2,h⟩:=Ae h
  refine Bb R Axu (Ac R (Ac R Ag)) (Ao R) (Tu hv2) (sst Z6 R R R R R (Ah (Bq ?_)))
  obtain rfl:=SJ h
  exact dnA R Sx R (.lp _ _ _ R) (Nbl R) R R
def E8 (a0:Bn) (a1:Int):Option (Ba×Bool) :=
 (Ez a0 a1).bind λv1=>if (decide (v1=(a0.L.length:Int))) then(some ((Ba.mk 0 0 0 0),false)) else((idx a0.L v1).bind λu2=>some (u2,true))
theorem Li {a0:Bn} {a1:Int} {r:Ba×Bool} (h:E8 a0 a1=some r):Bt Qx0 74 [.agg [SL a0.L Al],.one (Ii6 a1)] (·=.tup [.agg (EL.el r.1),.one (.b r.2)]):=by
 unfold E8 at h
 refine A1 Tryz.func74 R (nt:=21) R (Nbl R) ?_
 intro w0 S0
 refine csr (Er R R (Br R W5 (rm 1 R (Ah (csr (ld P3 R R R R (sv R (Az R) ?_)))))))
 obtain⟨v1,hv1,h⟩:=Ae h
 refine Bb R Asm (Ac R (Ac R Ag)) (Ao R) (Lx hv1) (rm 1 R (Ah (Bj (csr (rm 1 R (fl Wc Amj R R R R R R (sv R (Ap Adi R) (sv R (B6 R R) (Ah (ccI h R (λh=>?_) (λh=>?_)))))))))))
 ·refine csr (sv R (A2 W5 Aj0 A0 (.nil _)) (sst Ab6 R R R R R (rm 1 R (Ah (Bq (Af ?_))))))
  obtain rfl:=SJ h
  exact dn (Ad (ra Adk R R R) (Ad (rt R) Aj)) (Ao R) R
 ·refine Bf (Ab (csr (fl Wc Amj R R R R R R (sv R (Az R) ?_))))
  obtain⟨u2,hu2,h⟩:=Ae h
  refine sv R (B4 (f:=Al) Adi (λ_=>R) R R R R hu2) ?_
  refine sv R (Bs (ys:=[Ii6 u2.Tok,Ii6 u2.Attempt,Ii6 u2.State,Ii6 u2.Ts]) Adk R (.cp _) R R) (sst Ab6 R R R R R (rm 1 R (Ah (Bq ?_))))
  obtain rfl:=SJ h
  exact dn (Ad (ra Adk R R R) (Ad (rt R) Aj)) (Ao R) R
def Jq (a0:List Ba):Option (List Ba) :=
 if (([]:List Ba).length+a0.length)*32<=140737488355328 then(some (([]:List Ba)++a0)) else none
theorem Xa {a0:List Ba} {r:(List Ba)} (h:Jq a0=some r):Dw Qx0 249 [] [.one (SL a0 Al)] (λy m'=>y=L7 (.ls 0 r.length)/\m'=[.arr 145 4 0 (r.flatMap Al)]):=by
 unfold Jq at h
 refine Dn Tryz.func249 R (nt:=8) R (Nbl R) ?_
 intro w0 S0 X0 H0
 refine csr (rm 1 R (Ah (Bj (csr (rm 1 R (Afl R Tryz.underlying35 R (λnq hnq=>?_)))))))
 cases nq
 ·skip
  refine Ah (Ce R (λhx=>Bool.noConfusion hx) (λ_=>?_))
  refine Bf (Ab (csr (U2 R Tryz.underlying35 Amc (sv R (Az R) ?_))))
  obtain⟨hb1,h⟩:=Cs h
  refine U1 (f:=Al) (xs:=([]:List Ba)) (us:=a0) R Tryz.underlying35 Amc A04 (λ_=>R) R R (.one _ _ _ _ (.id _ R)) R R R (.sl _ _ _ (Aw (f:=Al) (λ_=>R) _)) R R hb1 (by decide) ?_
  refine rm 1 R (Ah (Bq ?_))
  obtain rfl:=SJ h
  exact⟨Or.inr R,_,[0],[.one (.ls 0 (([]:List Ba)++a0).length)],[.arr 145 4 0 ((([]:List Ba)++a0).flatMap Al)],(Ad (rt R) Aj),R,R,⟨by decide,R⟩,R,R,⟨R,R⟩⟩
 ·obtain rfl:=zY (hnq rfl)
  replace h:(some ([]:List Ba))=some r:=by first|exact h|(rw[if_pos (by decide)] at h;exact h)
  refine Ah (Ce R (λ_=>?_) (λhx=>Bool.noConfusion hx))
  refine csr (rm 1 R (Ah ?_))
  refine Dl 145 4 2 (by decide) R ?_
  refine Bq (Af ?_)
  obtain rfl:=SJ h
  exact⟨Or.inr R,_,[0],[.one (.ls 0 ([]:List Ba).length)],[.arr 145 4 0 (([]:List Ba).flatMap Al)],(Ad (rt R) Aj),R,R,⟨by decide,R⟩,R,R,⟨R,R⟩⟩
def Nj (a0:List Ba) (a1:Int) (a2:Ba):Option (List Ba) :=
 (Jq a0).bind λv1=>if (decide ((v1.length:Int)<=a1)) then(if (v1.length+[a2].length)*32<=140737488355328 then(some (v1++[a2])) else none) else((idx v1 a1).bind λu3=>some (v1.set a1.toNat a2))
theorem Zl {a0:List Ba} {a1:Int} {a2:Ba} {r:(List Ba)} (h:Nj a0 a1 a2=some r):Bt Qx0 196 [.one (SL a0 Al),.one (Ii6 a1),.agg (EL.el a2)] (·=L7 (SL r Al)):=by
 unfold Nj at h
 refine A1 Tryz.func196 R (nt:=23) R (Nbl R) ?_
 intro w0 S0
 refine csr (Er R R (rm 1 R (Ah (csr (sv R (Az R) ?_)))))
 obtain⟨v1,hv1,h⟩:=Ae h
 refine I0 (x':=L7 (.ls 1 v1.length)) (M':=[.box (EL.el a2),.arr 145 4 0 (v1.flatMap Al)]) [] R A07 (.func _) (Ac R Ag) (Xa hv1) R R (by decide) R R R ?_
 refine rm 1 R (Ah (Bj (csr (rm 2 R (sv R (H6 Adi R R (Aw (f:=Al) (λ_=>R) _).symm) ?_)))))
 refine sv R (Ii R R) (Ah (ccI h R (λh=>?_) (λh=>?_)))
 ·refine csr (rm 1 R (sv R (lo Adk R R R) ?_))
  refine D7 R Tryz.underlying35 Amc R R (zI.1 R) (by decide) ?_
  refine Ql [.box (EL.el a2),.arr 145 4 0 (v1.flatMap Al),.arr 145 4 0 ([a2].flatMap Al)] R ?_
  obtain⟨hb2,h⟩:=Cs h
  refine U1 (f:=Al) (xs:=v1) (us:=[a2]) R Tryz.underlying35 Amc A04 (λ_=>R) R R (.one _ _ _ _ (.ls _ _ _ _ _ _ R (Aw (f:=Al) (λ_=>R) [a2]).symm)) R R R (.sl _ _ _ (Aw (f:=Al) (λ_=>R) _)) R R hb2 (by decide) ?_
  refine rm 1 R (Ah (Bq (Af ?_)))
  obtain rfl:=SJ h
  refine⟨Or.inr R,_,_,_,(Ad (rt R) Aj),(by(repeat' first|exact Ho.nil _|apply Ho.cons|apply Hl.one|apply Hl.agg|exact C5.nil|exact C5.ls _ _ _ _ _ _ R (Aw (f:=Al) (λ_=>R) _).symm|exact C5.id _ R|exact Cv.nil _|apply Cv.cons)),?_⟩
  rfl
 ·refine Bf (Ab (csr (rm 2 R (sv R (lo Adk R R R) ?_))))
  obtain⟨u3,hu3,h⟩:=Ae h
  refine sv R (G8 (f:=Al) Adi (λ_=>R) R R R R R hu3) ?_
  refine Ab2 (f:=Al) (u':=a2) (sz:=4) 0 Ab6 (λ_=>R) R R R R R R R (zI.1 R) (Jd hu3).2 (Nbl R) R ?_
  refine Nn 9 (y:=L7 (.ls 1 v1.length)) (L7 (.ls 1 (v1.set a1.toNat a2).length)) R (congrArg (λn=>AV.s (.one (.ls 1 n))) List.length_set.symm) ?_
  refine Nn 7 (y:=L7 (.ls 1 v1.length)) (L7 (.ls 1 (v1.set a1.toNat a2).length)) R (congrArg (λn=>AV.s (.one (.ls 1 n))) List.length_set.symm) ?_
  refine Nn 11 (y:=L7 (.ls 1 v1.length)) (L7 (.ls 1 (v1.set a1.toNat a2).length)) R (congrArg (λn=>AV.s (.one (.ls 1 n))) List.length_set.symm) ?_
  refine Nn 18 (y:=L7 (.ls 1 v1.length)) (L7 (.ls 1 (v1.set a1.toNat a2).length)) R (congrArg (λn=>AV.s (.one (.ls 1 n))) List.length_set.symm) ?_
  refine Ah (csr (rm 2 R (Ah (Bq ?_))))
  obtain rfl:=SJ h
  refine⟨Or.inr R,_,_,_,(Ad (rt R) Aj),(by(repeat' first|exact Ho.nil _|apply Ho.cons|apply Hl.one|apply Hl.agg|exact C5.nil|exact C5.ls _ _ _ _ _ _ R (Aw (f:=Al) (λ_=>R) _).symm|exact C5.id _ R|exact Cv.nil _|apply Cv.cons)),?_⟩
  rfl
def Dd (a0:Bn) (a1:Ba):Option (Bn×Int) :=
 (Ez a0 a1.Tok).bind λv1=>if (decide (32<=v1)) then(some (Cx,8)) else((Nj a0.L v1 a1).bind λv2=>some ((Bn.mk v2),0))
theorem Ic {a0:Bn} {a1:Ba} {r:Bn×Int} (h:Dd a0 a1=some r):Bt Qx0 131 [.agg [SL a0.L Al],.agg (EL.el a1)] (·=.tup [.agg [SL r.1.L Al],.one (Ii6 r.2)]):=by
 unfold Dd at h
 refine A1 Tryz.func131 R (nt:=20) R (Nbl R) ?_
 intro w0 S0
 refine csr (Er R R (Er R R (Br R X1 (rm 1 R (Ah (csr (ld P3 R R R R (sv R (Aa Z2 R) (sv R (l1 ti3 R R R) ?_)))))))))
 obtain⟨v1,hv1,h⟩:=Ae h
 refine Bb R Asm (Ac R (Ac R Ag)) (Ao R) (Lx hv1) (rm 1 R (Ah (Bj (csr (rm 1 R (sv R (Ii R R) (Ah (ccI h R (λh=>?_) (λh=>?_)))))))))
 ·refine csr (sv R (A2 X1 Aec A0 (.nil _)) (sst Vr R R R R R (rm 1 R (Ah (Bq (Af ?_))))))
  obtain rfl:=SJ h
  exact dn (Ad (ra P3 R R R) (Ad (rt R) Aj)) (I8 R) R
 ·refine Bf (Ab (csr (fl Wc Amj R R R R R R (rm 1 R (sv R (lo Adk R R R) ?_)))))
  obtain⟨v2,hv2,h⟩:=Ae h
  refine Bb R A3s (Ac R (Ac R (Ac R Ag))) (Ao R) (Zl hv2) (sv R (A2 X1 Aec (Aq R A0) (.cons _ _ _ _ _ _ _ R R (Nbl R) (.nil _))) (sst Vr R R R R R (rm 1 R (Ah (Bq ?_)))))
  obtain rfl:=SJ h
  exact dn (Ad (ra P3 R R R) (Ad (rt R) Aj)) (Ao R) R
def Lz (a0:Bn) (a1:Int) (a2:Int) (b1:Unit):Option (Bn×Int×Int) :=
 (E8 a0 a1).bind λv2=>if (decide (v2.1.State=2)) then(some (a0,v2.1.Ts,0)) else((Dd a0 (Ba.mk a1 (if a2 > v2.1.Attempt then a2 else v2.1.Attempt) 3 0)).bind λv3=>some (v3.1,0,v3.2))
def C7 (a0:Bn) (a1:Int) (a2:Int):Option (Bn×Int×Int) :=
 (De a0).bind λv4=>if (!v4) then(some (Cx,0,1)) else((Cy a1 a2).bind λv5=>if (!v5) then(some (Cx,0,1)) else(Lz a0 a1 a2 ()))
theorem Tw {a0:Bn} {a1:Int} {a2:Int} {r:Bn×Int×Int} (h:C7 a0 a1 a2=some r):Bt Qx0 73 [.agg [SL a0.L Al],.one (Ii6 a1),.one (Ii6 a2)] (·=.tup [.agg [SL r.1.L Al],.one (Ii6 r.2.1),.one (Ii6 r.2.2)]):=by
 unfold C7 at h
 refine A1 Tryz.func73 R (nt:=48) R (Nbl R) ?_
 intro w0 S0
 refine csr (Er R R (Br R X1 (rm 2 R (Ah (Bj (Bj (cj3 (Unit) (λb1=>[(1,L7 (Ii6 a1)),(2,L7 (Ii6 a2)),(3,L7 (.lp 0 0)),(6,L7 (.lp 1 0))]) (λb1=>[.box [SL a0.L Al],.box [Znl]]) (λb1=>Lz a0 a1 a2 b1=some r) (λ_=>R) (λb1 h=>?_) ?_)))))))
 ·unfold Lz at h
  refine csr (ld P3 R R R R (sv R (Az R) ?_))
  obtain⟨v2,hv2,h⟩:=Ae h
  refine Bb R Azv (Ac R (Ac R Ag)) (Ao R) (Li hv2) (sv R (Cf R) (sv R (Ak R R) (sv R (Ak R R) (Br R W5 (sst Ab6 R R R R R (rm 1 R (Ah (Bj (csr (fl Wj ti3 R R R R R R (sv R (B6 R R) (Ah (ccI h R (λh=>?_) (λh=>?_))))))))))))))
  ·refine Bj ?_
   refine Kb [3] [0,0,2,1,15,31] [[.box [SL a0.L Al],.box [Znl],.box (EL.el v2.1)],[.box [SL a0.L Al],.box [SL a0.L Al],.box (EL.el v2.1)]] (by kernel_rfl) mixed (by kernel_rfl) (by decide) R R R R ?_
   refine evs (md:=[.box [SL a0.L Al],.dead,.box (EL.el v2.1)]) (λhS=>ev (A6 0 R R) R R (lo P3 R R R) (ev (B9 hS) R R (Aa Aff R) (ev (B9 hS) R R (l1 ti3 R R R) (ee0 0 R R R R (λζ=>?_) ?_)))) ⟨⟨R,⟨trivial,⟨R,trivial⟩⟩⟩,⟨⟨R,⟨trivial,⟨R,trivial⟩⟩⟩,trivial⟩⟩
   ·refine sst Vr R R R R R (Ql [.box [SL a0.L Al],.box [SL a0.L Al],.box (EL.el v2.1)] R ?_)
    exact U9
   refine ev (A6 1 R R) R R (G0 R) (ev (A6 1 R R) R R (G0 R) (Adr (Ab (Bq (Af ?_)))))
   obtain rfl:=SJ h
   exact dn (Ad (ra P3 R R R) (Ad (rt R) (Ad (rt R) Aj))) (Ao R) R
  ·refine Bf (Ab (csr (ld P3 R R R R (rm 1 R (fl V0 ti3 R R R R R R (rm 1 R (sv R (Av0 R R) (sv R (A2 W5 Aj0 (Aq R (Aq R (Aq R A0))) (.cons _ _ _ _ _ _ _ R R (Nbl R) (.cons _ _ _ _ _ _ _ R R (Nbl R) (.cons _ _ _ _ _ _ _ R R (Nbl R) (.nil _))))) ?_))))))))
   obtain⟨v3,hv3,h⟩:=Ae h
   refine Bb R Amt (Ac R (Ac R Ag)) (Ao R) (Ic hv3) (sv R (Cf R) (sv R (Ak R R) (sv R (Ak R R) (Br R X1 (sst Vr R R R R R (rm 1 R (Ah (csr (ld P3 R R R R (rm 1 R (sst Vr R R R R R (rm 2 R (Ah (Bq ?_))))))))))))))
   obtain rfl:=SJ h
   exact dn (Ad (ra P3 R R R) (Ad (rt R) (Ad (rt R) Aj))) (Ao R) R
 ·skip
  refine Au (sv R (lo P3 R R R) ?_)
  obtain⟨v4,hv4,h⟩:=Ae h
  refine Bb R Az0 (Ac R Ag) (Ao R) (Ll hv4) (sv R (Bz R) (rm 1 R (ssI 16 h R (λh=>?_) (λh=>?_))))
  ·refine rm 5 R (Ah (Ce R (λ_=>?_) (λhx=>Bool.noConfusion hx)))
   refine csr (sv R (A2 X1 Aec A0 (.nil _)) (sst Vr R R R R R (rm 2 R (Ah (Bq (Af ?_))))))
   obtain rfl:=SJ h
   exact dn (Ad (ra P3 R R R) (Ad (rt R) (Ad (rt R) Aj))) (I8 R) R
  ·refine rm 2 R (son R R R ?_)
   obtain⟨v5,hv5,h⟩:=Ae h
   refine Bb R Al4 (Ac R (Ac R Ag)) (Ao R) (Ee hv5) (son R R R (sv R (Bz R) (rm 1 R (Ah (ccI h R (λh=>?_) (λh=>?_))))))
   ·refine csr (sv R (A2 X1 Aec A0 (.nil _)) (sst Vr R R R R R (rm 2 R (Ah (Bq (Af ?_))))))
    obtain rfl:=SJ h
    exact dn (Ad (ra P3 R R R) (Ad (rt R) (Ad (rt R) Aj))) (I8 R) R
   ·refine Bf (Ab ?_)
    exact⟨(),_,h,⟨R,R,R,R,trivial⟩,R⟩
end Go.Proofs.YtkblaobhhoebaaaGreat.Abs
