/-
 t
-/
import Derived.Test.YtkblaobhhoebaaaGreatWAbsC
import Derived.Test.YtkblaobhhoebaaaGreatProg
set_option linter.unusedVariables false
set_option linter.unusedSimpArgs false
namespace Go.Proofs.YtkblaobhhoebaaaGreat.Abs
open Go.RowKit Go.Proofs
set_option maxRecDepth 100000
structure Av where
 Key:List UInt8
 Val:List UInt8
 Del:Bool
def Ao (x:Av):List Lf:=[.sl x.Key.length (x.Key.flatMap eU8),.sl x.Val.length (x.Val.flatMap eU8),.b x.Del]
structure B2 where
 L:List Av
def Ahq (x:B2):List Lf:=[.sl x.L.length (x.L.flatMap Ao)]
structure B3 where
 Key:List UInt8
 Val:List UInt8
def B7 (x:B3):List Lf:=[.sl x.Key.length (x.Key.flatMap eU8),.sl x.Val.length (x.Val.flatMap eU8)]
structure Bg where
 Lo:List UInt8
 Hi:List UInt8
 Open:Bool
def Abb (x:Bg):List Lf:=[.sl x.Lo.length (x.Lo.flatMap eU8),.sl x.Hi.length (x.Hi.flatMap eU8),.b x.Open]
structure Fq where
 What:Int
 N:Int
 Token:Int
 Attempt:Int
 RO:Bool
 Del:Bool
 Key:List UInt8
 Val:List UInt8
 Rng:Bg
def Dx (x:Fq):List Lf:=[.i .i64 x.What,.i .i64 x.N,.i .i64 x.Token,.i .i64 x.Attempt,.b x.RO,.b x.Del,.sl x.Key.length (x.Key.flatMap eU8),.sl x.Val.length (x.Val.flatMap eU8),.sl x.Rng.Lo.length (x.Rng.Lo.flatMap eU8),.sl x.Rng.Hi.length (x.Rng.Hi.flatMap eU8),.b x.Rng.Open]
structure A0 where
 Ts:Int
 Val:List UInt8
 Del:Bool
def A9 (x:A0):List Lf:=[.i .i64 x.Ts,.sl x.Val.length (x.Val.flatMap eU8),.b x.Del]
structure Al where
 L:List A0
def Ay (x:Al):List Lf:=[.sl x.L.length (x.L.flatMap A9)]
structure Bu where
 Keys:List (List UInt8)
 Chains:List Al
 Ts:Int
def Afm (x:Bu):List Lf:=[.sl x.Keys.length (x.Keys.flatMap (eL eU8)),.sl x.Chains.length (x.Chains.flatMap Ay),.i .i64 x.Ts]
structure A2 where
 ID:Int
 Begin:Int
 End:Int
 State:Int
 In:Bool
 Out:Bool
 RO:Bool
 Keys:List (List UInt8)
def Bb (x:A2):List Lf:=[.i .i64 x.ID,.i .i64 x.Begin,.i .i64 x.End,.i .i64 x.State,.b x.In,.b x.Out,.b x.RO,.sl x.Keys.length (x.Keys.flatMap (eL eU8))]
structure A3 where
 Tx:Int
 Rng:Bg
def Ar (x:A3):List Lf:=[.i .i64 x.Tx,.sl x.Rng.Lo.length (x.Rng.Lo.flatMap eU8),.sl x.Rng.Hi.length (x.Rng.Hi.flatMap eU8),.b x.Rng.Open]
structure Bv where
 L:List A3
def Af0 (x:Bv):List Lf:=[.sl x.L.length (x.L.flatMap Ar)]
structure Bc where
 Txs:List A2
 Reads:Bv
def Al8 (x:Bc):List Lf:=[.sl x.Txs.length (x.Txs.flatMap Bb),.sl x.Reads.L.length (x.Reads.L.flatMap Ar)]
structure A8 where
 Tok:Int
 Attempt:Int
 State:Int
 Ts:Int
def Am (x:A8):List Lf:=[.i .i64 x.Tok,.i .i64 x.Attempt,.i .i64 x.State,.i .i64 x.Ts]
structure Bi where
 L:List A8
def Adq (x:Bi):List Lf:=[.sl x.L.length (x.L.flatMap Am)]
structure Be where
 ID:Int
 Token:Int
 Attempt:Int
 Snap:Int
 RO:Bool
 Buf:B2
def Bm (x:Be):List Lf:=[.i .i64 x.ID,.i .i64 x.Token,.i .i64 x.Attempt,.i .i64 x.Snap,.b x.RO,.sl x.Buf.L.length (x.Buf.L.flatMap Ao)]
structure Ah where
 Store:Bu
 Cert:Bc
 Toks:Bi
 Open:List Be
 Next:Int
def Agf (x:Ah):List Lf:=[.sl x.Store.Keys.length (x.Store.Keys.flatMap (eL eU8)),.sl x.Store.Chains.length (x.Store.Chains.flatMap Ay),.i .i64 x.Store.Ts,.sl x.Cert.Txs.length (x.Cert.Txs.flatMap Bb),.sl x.Cert.Reads.L.length (x.Cert.Reads.L.flatMap Ar),.sl x.Toks.L.length (x.Toks.L.flatMap Am),.sl x.Open.length (x.Open.flatMap Bm),.i .i64 x.Next]
structure Cf where
 tx_:Int
 lo_:List UInt8
 hi_:List UInt8
 open_:Bool
def Dv (x:Cf):List Lf:=[.i .i64 x.tx_,.s ⟨x.lo_.toArray⟩,.s ⟨x.hi_.toArray⟩,.b x.open_]
structure B1 where
 id_:Int
 snap_:Int
 end_:Int
 acts_:Nat
def Bh (x:B1):List Lf:=[.i .i64 x.id_,.i .i64 x.snap_,.i .i64 x.end_,.jk 152 16 x.acts_]
structure Iv where
 n_:Int
 found_:Bool
 v_:List UInt8
 l_:List B3
 e_:Int
def Al9 (x:Iv):List Lf:=[.i .i64 x.n_,.b x.found_,.sl x.v_.length (x.v_.flatMap eU8),.sl x.l_.length (x.l_.flatMap B7),.i .i64 x.e_]
structure F8 where
 o_:Fq
 x_:Iv
def Acy (x:F8):List Lf:=[.i .i64 x.o_.What,.i .i64 x.o_.N,.i .i64 x.o_.Token,.i .i64 x.o_.Attempt,.b x.o_.RO,.b x.o_.Del,.sl x.o_.Key.length (x.o_.Key.flatMap eU8),.sl x.o_.Val.length (x.o_.Val.flatMap eU8),.sl x.o_.Rng.Lo.length (x.o_.Rng.Lo.flatMap eU8),.sl x.o_.Rng.Hi.length (x.o_.Rng.Hi.flatMap eU8),.b x.o_.Rng.Open,.i .i64 x.x_.n_,.b x.x_.found_,.sl x.x_.v_.length (x.x_.v_.flatMap eU8),.sl x.x_.l_.length (x.x_.l_.flatMap B7),.i .i64 x.x_.e_]
class EL (α:Type) where
 el:α→List Lf
instance:EL Av:=⟨Ao⟩
instance:EL B2:=⟨Ahq⟩
instance:EL B3:=⟨B7⟩
instance:EL Bg:=⟨Abb⟩
instance:EL Fq:=⟨Dx⟩
instance:EL A0:=⟨A9⟩
instance:EL Al:=⟨Ay⟩
instance:EL Bu:=⟨Afm⟩
instance:EL A2:=⟨Bb⟩
instance:EL A3:=⟨Ar⟩
instance:EL Bv:=⟨Af0⟩
instance:EL Bc:=⟨Al8⟩
instance:EL A8:=⟨Am⟩
instance:EL Bi:=⟨Adq⟩
instance:EL Be:=⟨Bm⟩
instance:EL Ah:=⟨Agf⟩
instance:EL Cf:=⟨Dv⟩
instance:EL B1:=⟨Bh⟩
instance:EL Iv:=⟨Al9⟩
instance:EL F8:=⟨Acy⟩
abbrev Aub:Bg:=(Bg.mk ([]:List UInt8) ([]:List UInt8) false)
abbrev Pv:Bu:=(Bu.mk ([]:List (List UInt8)) ([]:List Al) 0)
abbrev X7:A2:=(A2.mk 0 0 0 0 false false false ([]:List (List UInt8)))
abbrev Ra:A3:=(A3.mk 0 (Bg.mk ([]:List UInt8) ([]:List UInt8) false))
abbrev Ja:Bc:=(Bc.mk ([]:List A2) (Bv.mk ([]:List A3)))
abbrev Cm:Bi:=(Bi.mk ([]:List A8))
abbrev Pp:Be:=(Be.mk 0 0 0 0 false (B2.mk ([]:List Av)))
abbrev E4:Ah:=(Ah.mk (Bu.mk ([]:List (List UInt8)) ([]:List Al) 0) (Bc.mk ([]:List A2) (Bv.mk ([]:List A3))) (Bi.mk ([]:List A8)) ([]:List Be) 0)
abbrev Znl:Lf:=.raw (.slice none 0 0)
abbrev Ii6 (n:Int):Lf:=.i .i64 n
theorem SJ {α:Type} {a b:α} (h:some a=some b):a=b:=zD h
abbrev Nfu:Lf:=.raw .nilFunc
abbrev Zba:List Lf:=[Znl,Znl,Ii6 0,Znl,Znl,Znl,Znl,Ii6 0]
abbrev Zbb:List Lf:=[Ii6 0,Ii6 0,Ii6 0,Ii6 0,.b false,.b false,.b false,Znl]
theorem Nbl {n m:Nat} (h:Nat.ble n m=true):n≤m:=wZ h
theorem Xc:FI Tryz.prog 86 0 0:=⟨⟨_,_,1,Tryz.underlying86,rfl,rfl,by kernel_rfl,by decide⟩⟩
theorem Aot:TI Tryz.prog 84 false 1:=⟨⟨_,Tryz.underlying84,rfl⟩,by kernel_rfl⟩
theorem V5:SI Tryz.prog 84 99 3:=⟨Tryz.underlying84,by kernel_rfl,by decide⟩
theorem Ady:TI Tryz.prog 99 true 3:=⟨⟨_,Tryz.underlying99,rfl⟩,by kernel_rfl⟩
theorem Ajk:ZI Tryz.prog 99 ([Znl,Znl,.b false]):=Rc (by kernel_rfl)
theorem Al2:(Tryz.prog.info? 99).map (·.size)=some 3:=by kernel_rfl
theorem Qg:FI Tryz.prog 99 0 0:=⟨⟨_,_,1,Tryz.underlying99,rfl,rfl,by kernel_rfl,by decide⟩⟩
theorem Mz:TI Tryz.prog 56 false 1:=⟨⟨_,Tryz.underlying56,rfl⟩,by kernel_rfl⟩
theorem Yc:SI Tryz.prog 56 5 1:=⟨Tryz.underlying56,by kernel_rfl,by decide⟩
theorem Aw9:FnI Tryz.prog 62:=⟨⟨_,Tryz.func62,by kernel_rfl,by kernel_rfl⟩⟩
theorem Xa:FI Tryz.prog 99 1 1:=⟨⟨_,_,1,Tryz.underlying99,rfl,rfl,by kernel_rfl,by decide⟩⟩
theorem Abn:FI Tryz.prog 99 2 2:=⟨⟨_,_,1,Tryz.underlying99,rfl,rfl,by kernel_rfl,by decide⟩⟩
theorem ti4:TI Tryz.prog 4 false 1:=⟨⟨_,Tryz.underlying4,rfl⟩,by kernel_rfl⟩
theorem Awu:FnI Tryz.prog 124:=⟨⟨_,Tryz.func124,by kernel_rfl,by kernel_rfl⟩⟩
theorem Ag4:TI Tryz.prog 86 true 1:=⟨⟨_,Tryz.underlying86,rfl⟩,by kernel_rfl⟩
theorem Af4:EI Tryz.prog 56 1 24 [Znl]:=Tl (by kernel_rfl) (by decide)
theorem Ase:NI Tryz.prog 25:=⟨.inl ⟨_,Tryz.underlying25⟩⟩
theorem Aww:FnI Tryz.prog 125:=⟨⟨_,Tryz.func125,by kernel_rfl,by kernel_rfl⟩⟩
theorem S7:SI Tryz.prog 25 56 1:=⟨Tryz.underlying25,by kernel_rfl,by decide⟩
theorem mixed:Tryz.prog.follows .mixedOrders=true:=by kernel_rfl
theorem Avw:XI Tryz.prog 259 Extern.BytealgCompare.compare:=⟨⟨Tryz.f259,Tryz.func259,by kernel_rfl,by kernel_rfl,by kernel_rfl,by kernel_rfl⟩⟩
theorem Axr:FnI Tryz.prog 219:=⟨⟨_,Tryz.func219,by kernel_rfl,by kernel_rfl⟩⟩
theorem Al1:FnI Tryz.prog 150:=⟨⟨_,Tryz.func150,by kernel_rfl,by kernel_rfl⟩⟩
theorem Aph:FnI Tryz.prog 181:=⟨⟨_,Tryz.func181,by kernel_rfl,by kernel_rfl⟩⟩
theorem Ahz:SI Tryz.prog 61 157 2:=⟨Tryz.underlying61,by kernel_rfl,by decide⟩
theorem Aqf:TI Tryz.prog 157 true 2:=⟨⟨_,Tryz.underlying157,rfl⟩,by kernel_rfl⟩
theorem Ang:ZI Tryz.prog 157 ([Znl,Znl]):=Rc (by kernel_rfl)
theorem Ar3:(Tryz.prog.info? 157).map (·.size)=some 2:=by kernel_rfl
theorem Aaf:FI Tryz.prog 157 0 0:=⟨⟨_,_,1,Tryz.underlying157,rfl,rfl,by kernel_rfl,by decide⟩⟩
theorem Abg:FI Tryz.prog 58 0 0:=⟨⟨_,_,1,Tryz.underlying58,rfl,rfl,by kernel_rfl,by decide⟩⟩
theorem Ai8:FI Tryz.prog 58 2 2:=⟨⟨_,_,1,Tryz.underlying58,rfl,rfl,by kernel_rfl,by decide⟩⟩
theorem Yl:FI Tryz.prog 58 1 1:=⟨⟨_,_,1,Tryz.underlying58,rfl,rfl,by kernel_rfl,by decide⟩⟩
theorem Atm:(Tryz.prog.info? 86).map (·.size)=some 1:=by kernel_rfl
theorem Ada:TI Tryz.prog 58 true 3:=⟨⟨_,Tryz.underlying58,rfl⟩,by kernel_rfl⟩
theorem A1i:(Tryz.prog.info? 58).map (·.size)=some 3:=by kernel_rfl
theorem Apo:EI Tryz.prog 157 2 48 [Znl,Znl]:=Tl (by kernel_rfl) (by decide)
theorem Az7:NI Tryz.prog 61:=⟨.inl ⟨_,Tryz.underlying61⟩⟩
theorem Am3:FI Tryz.prog 157 1 1:=⟨⟨_,_,1,Tryz.underlying157,rfl,rfl,by kernel_rfl,by decide⟩⟩
theorem Av7:PI Tryz.prog 157 [(0,1),(1,1)]:=Sk Tryz.underlying157 (by kernel_rfl) (by kernel_rfl)
theorem Ary:FnI Tryz.prog 119:=⟨⟨_,Tryz.func119,by kernel_rfl,by kernel_rfl⟩⟩
theorem Ayy:FnI Tryz.prog 120:=⟨⟨_,Tryz.func120,by kernel_rfl,by kernel_rfl⟩⟩
theorem Amo:FnI Tryz.prog 121:=⟨⟨_,Tryz.func121,by kernel_rfl,by kernel_rfl⟩⟩
theorem Azz:FnI Tryz.prog 122:=⟨⟨_,Tryz.func122,by kernel_rfl,by kernel_rfl⟩⟩
theorem Qw:ZI Tryz.prog 40 (Zba):=Rc (by kernel_rfl)
theorem Ale:PI Tryz.prog 40 [(0,3),(3,2),(5,1),(6,1),(7,1)]:=Sk Tryz.underlying40 (by kernel_rfl) (by kernel_rfl)
theorem Dd:TI Tryz.prog 40 true 8:=⟨⟨_,Tryz.underlying40,rfl⟩,by kernel_rfl⟩
theorem Pr:FI Tryz.prog 40 0 0:=⟨⟨_,_,3,Tryz.underlying40,rfl,rfl,by kernel_rfl,by decide⟩⟩
theorem Vs:TI Tryz.prog 28 true 3:=⟨⟨_,Tryz.underlying28,rfl⟩,by kernel_rfl⟩
theorem Q7:FI Tryz.prog 28 2 2:=⟨⟨_,_,1,Tryz.underlying28,rfl,rfl,by kernel_rfl,by decide⟩⟩
theorem ti3:TI Tryz.prog 3 false 1:=⟨⟨_,Tryz.underlying3,rfl⟩,by kernel_rfl⟩
theorem Qz:FI Tryz.prog 28 0 0:=⟨⟨_,_,1,Tryz.underlying28,rfl,rfl,by kernel_rfl,by decide⟩⟩
theorem Abe:TI Tryz.prog 25 false 1:=⟨⟨_,Tryz.underlying25,rfl⟩,by kernel_rfl⟩
theorem Qs:FI Tryz.prog 28 1 1:=⟨⟨_,_,1,Tryz.underlying28,rfl,rfl,by kernel_rfl,by decide⟩⟩
theorem Akc:TI Tryz.prog 26 false 1:=⟨⟨_,Tryz.underlying26,rfl⟩,by kernel_rfl⟩
theorem Aov:SI Tryz.prog 26 134 1:=⟨Tryz.underlying26,by kernel_rfl,by decide⟩
theorem Ave:FnI Tryz.prog 107:=⟨⟨_,Tryz.func107,by kernel_rfl,by kernel_rfl⟩⟩
theorem O5:TI Tryz.prog 134 true 1:=⟨⟨_,Tryz.underlying134,rfl⟩,by kernel_rfl⟩
theorem Y8:ZI Tryz.prog 134 ([Znl]):=Rc (by kernel_rfl)
theorem Y4:(Tryz.prog.info? 134).map (·.size)=some 1:=by kernel_rfl
theorem Tu:FI Tryz.prog 134 0 0:=⟨⟨_,_,1,Tryz.underlying134,rfl,rfl,by kernel_rfl,by decide⟩⟩
theorem Aa5:TI Tryz.prog 132 false 1:=⟨⟨_,Tryz.underlying132,rfl⟩,by kernel_rfl⟩
theorem Ws:SI Tryz.prog 132 136 3:=⟨Tryz.underlying132,by kernel_rfl,by decide⟩
theorem zi4:ZI Tryz.prog 4 ([.b false]):=Rc (by kernel_rfl)
theorem zi3:ZI Tryz.prog 3 ([Ii6 0]):=Rc (by kernel_rfl)
theorem sz3:(Tryz.prog.info? 3).map (·.size)=some 1:=by kernel_rfl
theorem Atc:FnI Tryz.prog 182:=⟨⟨_,Tryz.func182,by kernel_rfl,by kernel_rfl⟩⟩
theorem Agy:TI Tryz.prog 136 true 3:=⟨⟨_,Tryz.underlying136,rfl⟩,by kernel_rfl⟩
theorem At0:FnI Tryz.prog 235:=⟨⟨_,Tryz.func235,by kernel_rfl,by kernel_rfl⟩⟩
theorem Ahf:ZI Tryz.prog 136 ([Ii6 0,Znl,.b false]):=Rc (by kernel_rfl)
theorem Ajm:(Tryz.prog.info? 136).map (·.size)=some 3:=by kernel_rfl
theorem Vw:FI Tryz.prog 136 0 0:=⟨⟨_,_,1,Tryz.underlying136,rfl,rfl,by kernel_rfl,by decide⟩⟩
theorem Agj:FI Tryz.prog 136 1 1:=⟨⟨_,_,1,Tryz.underlying136,rfl,rfl,by kernel_rfl,by decide⟩⟩
theorem Agh:FI Tryz.prog 136 2 2:=⟨⟨_,_,1,Tryz.underlying136,rfl,rfl,by kernel_rfl,by decide⟩⟩
theorem Aux:FnI Tryz.prog 183:=⟨⟨_,Tryz.func183,by kernel_rfl,by kernel_rfl⟩⟩
theorem sz4:(Tryz.prog.info? 4).map (·.size)=some 1:=by kernel_rfl
theorem Atd:FnI Tryz.prog 108:=⟨⟨_,Tryz.func108,by kernel_rfl,by kernel_rfl⟩⟩
theorem Avd:FnI Tryz.prog 109:=⟨⟨_,Tryz.func109,by kernel_rfl,by kernel_rfl⟩⟩
theorem Avu:FnI Tryz.prog 45:=⟨⟨_,Tryz.func45,by kernel_rfl,by kernel_rfl⟩⟩
theorem Uc:FI Tryz.prog 40 1 3:=⟨⟨_,_,2,Tryz.underlying40,rfl,rfl,by kernel_rfl,by decide⟩⟩
theorem Qq:TI Tryz.prog 34 true 2:=⟨⟨_,Tryz.underlying34,rfl⟩,by kernel_rfl⟩
theorem Oo:FI Tryz.prog 34 0 0:=⟨⟨_,_,1,Tryz.underlying34,rfl,rfl,by kernel_rfl,by decide⟩⟩
theorem Aa8:TI Tryz.prog 29 false 1:=⟨⟨_,Tryz.underlying29,rfl⟩,by kernel_rfl⟩
theorem Qm:SI Tryz.prog 29 139 8:=⟨Tryz.underlying29,by kernel_rfl,by decide⟩
theorem Yo:FI Tryz.prog 34 1 1:=⟨⟨_,_,1,Tryz.underlying34,rfl,rfl,by kernel_rfl,by decide⟩⟩
theorem Aco:TI Tryz.prog 32 true 1:=⟨⟨_,Tryz.underlying32,rfl⟩,by kernel_rfl⟩
theorem Vl:FI Tryz.prog 32 0 0:=⟨⟨_,_,1,Tryz.underlying32,rfl,rfl,by kernel_rfl,by decide⟩⟩
theorem Ajx:TI Tryz.prog 30 false 1:=⟨⟨_,Tryz.underlying30,rfl⟩,by kernel_rfl⟩
theorem Abf:SI Tryz.prog 30 142 4:=⟨Tryz.underlying30,by kernel_rfl,by decide⟩
theorem Aa0:TI Tryz.prog 142 true 4:=⟨⟨_,Tryz.underlying142,rfl⟩,by kernel_rfl⟩
theorem Akh:ZI Tryz.prog 142 ([Ii6 0,Znl,Znl,.b false]):=Rc (by kernel_rfl)
theorem Amj:(Tryz.prog.info? 142).map (·.size)=some 4:=by kernel_rfl
theorem Ado:FI Tryz.prog 142 0 0:=⟨⟨_,_,1,Tryz.underlying142,rfl,rfl,by kernel_rfl,by decide⟩⟩
theorem X4:FI Tryz.prog 142 1 1:=⟨⟨_,_,3,Tryz.underlying142,rfl,rfl,by kernel_rfl,by decide⟩⟩
theorem A0t:FnI Tryz.prog 71:=⟨⟨_,Tryz.func71,by kernel_rfl,by kernel_rfl⟩⟩
theorem ti5:TI Tryz.prog 5 false 1:=⟨⟨_,Tryz.underlying5,rfl⟩,by kernel_rfl⟩
theorem A0g:FnI Tryz.prog 72:=⟨⟨_,Tryz.func72,by kernel_rfl,by kernel_rfl⟩⟩
theorem Aw3:FnI Tryz.prog 184:=⟨⟨_,Tryz.func184,by kernel_rfl,by kernel_rfl⟩⟩
instance:DecidableEq Cf:=fun a b=>decidable_of_iff (a.tx_=b.tx_∧a.lo_=b.lo_∧a.hi_=b.hi_∧a.open_=b.open_) (by cases a;cases b;simp)
theorem Aw1:Aga Cf Tryz.prog 354 Dv [0,2,2,1]:=⟨⟨by kernel_rfl,by kernel_rfl,by kernel_rfl,by kernel_rfl⟩,fun _=>rfl,by decide,fun a b=>by cases a;cases b;simp [Dv,Aue,Axe,A1f,A1k]⟩
theorem Aw5:ZI Tryz.prog 354 ([Ii6 0,.s ByteArray.empty,.s ByteArray.empty,.b false]):=Rc (by kernel_rfl)
theorem Ax4:PI Tryz.prog 354 [(0,1),(1,1),(2,1),(3,1)]:=Sk Tryz.underlying354 (by kernel_rfl) (by kernel_rfl)
theorem Ayf:(Tryz.prog.info? 354).map (·.size)=some 4:=by kernel_rfl
theorem Azk:TI Tryz.prog 354 true 4:=⟨⟨_,Tryz.underlying354,rfl⟩,by kernel_rfl⟩
theorem Avb:FnI Tryz.prog 236:=⟨⟨_,Tryz.func236,by kernel_rfl,by kernel_rfl⟩⟩
theorem Avn:FnI Tryz.prog 185:=⟨⟨_,Tryz.func185,by kernel_rfl,by kernel_rfl⟩⟩
theorem Awd:FnI Tryz.prog 110:=⟨⟨_,Tryz.func110,by kernel_rfl,by kernel_rfl⟩⟩
theorem Ju:TI Tryz.prog 139 true 8:=⟨⟨_,Tryz.underlying139,rfl⟩,by kernel_rfl⟩
theorem Tj:ZI Tryz.prog 139 (Zbb):=Rc (by kernel_rfl)
theorem Tb:(Tryz.prog.info? 139).map (·.size)=some 8:=by kernel_rfl
theorem T1:FI Tryz.prog 139 0 0:=⟨⟨_,_,1,Tryz.underlying139,rfl,rfl,by kernel_rfl,by decide⟩⟩
theorem Vx:FI Tryz.prog 139 1 1:=⟨⟨_,_,1,Tryz.underlying139,rfl,rfl,by kernel_rfl,by decide⟩⟩
theorem Pj:FI Tryz.prog 139 3 3:=⟨⟨_,_,1,Tryz.underlying139,rfl,rfl,by kernel_rfl,by decide⟩⟩
theorem Q0:FI Tryz.prog 139 2 2:=⟨⟨_,_,1,Tryz.underlying139,rfl,rfl,by kernel_rfl,by decide⟩⟩
theorem Uh:FI Tryz.prog 139 7 7:=⟨⟨_,_,1,Tryz.underlying139,rfl,rfl,by kernel_rfl,by decide⟩⟩
theorem Aut:FnI Tryz.prog 186:=⟨⟨_,Tryz.func186,by kernel_rfl,by kernel_rfl⟩⟩
theorem Ahl:FI Tryz.prog 139 6 6:=⟨⟨_,_,1,Tryz.underlying139,rfl,rfl,by kernel_rfl,by decide⟩⟩
theorem Awi:FnI Tryz.prog 111:=⟨⟨_,Tryz.func111,by kernel_rfl,by kernel_rfl⟩⟩
theorem Ay1:FnI Tryz.prog 112:=⟨⟨_,Tryz.func112,by kernel_rfl,by kernel_rfl⟩⟩
theorem ei3:EI Tryz.prog 3 1 8 [Ii6 0]:=Tl (by kernel_rfl) (by decide)
theorem Am9:NI Tryz.prog 225:=⟨.inl ⟨_,Tryz.underlying225⟩⟩
theorem Aus:FnI Tryz.prog 114:=⟨⟨_,Tryz.func114,by kernel_rfl,by kernel_rfl⟩⟩
theorem Aow:ZI Tryz.prog 32 ([Znl]):=Rc (by kernel_rfl)
theorem Asb:SI Tryz.prog 225 3 1:=⟨Tryz.underlying225,by kernel_rfl,by decide⟩
theorem Avl:FnI Tryz.prog 197:=⟨⟨_,Tryz.func197,by kernel_rfl,by kernel_rfl⟩⟩
theorem Aty:FnI Tryz.prog 237:=⟨⟨_,Tryz.func237,by kernel_rfl,by kernel_rfl⟩⟩
theorem Amt:EI Tryz.prog 142 4 64 [Ii6 0,Znl,Znl,.b false]:=Tl (by kernel_rfl) (by decide)
theorem A0d:NI Tryz.prog 30:=⟨.inl ⟨_,Tryz.underlying30⟩⟩
theorem Au3:PI Tryz.prog 32 [(0,1)]:=Sk Tryz.underlying32 (by kernel_rfl) (by kernel_rfl)
theorem Arp:(Tryz.prog.info? 32).map (·.size)=some 1:=by kernel_rfl
theorem Axx:FnI Tryz.prog 187:=⟨⟨_,Tryz.func187,by kernel_rfl,by kernel_rfl⟩⟩
theorem Avf:FnI Tryz.prog 113:=⟨⟨_,Tryz.func113,by kernel_rfl,by kernel_rfl⟩⟩
theorem Av5:FT Tryz.prog 32 0 0 30:=⟨⟨_,_,Tryz.underlying32,rfl,rfl,rfl⟩⟩
theorem Axh:FnI Tryz.prog 46:=⟨⟨_,Tryz.func46,by kernel_rfl,by kernel_rfl⟩⟩
theorem Vd:FI Tryz.prog 40 2 5:=⟨⟨_,_,1,Tryz.underlying40,rfl,rfl,by kernel_rfl,by decide⟩⟩
theorem Ou:TI Tryz.prog 37 true 1:=⟨⟨_,Tryz.underlying37,rfl⟩,by kernel_rfl⟩
theorem Wp:FI Tryz.prog 37 0 0:=⟨⟨_,_,1,Tryz.underlying37,rfl,rfl,by kernel_rfl,by decide⟩⟩
theorem Ak9:TI Tryz.prog 35 false 1:=⟨⟨_,Tryz.underlying35,rfl⟩,by kernel_rfl⟩
theorem Acx:SI Tryz.prog 35 145 4:=⟨Tryz.underlying35,by kernel_rfl,by decide⟩
theorem Ac9:TI Tryz.prog 145 true 4:=⟨⟨_,Tryz.underlying145,rfl⟩,by kernel_rfl⟩
theorem V8:ZI Tryz.prog 145 ([Ii6 0,Ii6 0,Ii6 0,Ii6 0]):=Rc (by kernel_rfl)
theorem Aax:(Tryz.prog.info? 145).map (·.size)=some 4:=by kernel_rfl
theorem Wh:FI Tryz.prog 145 2 2:=⟨⟨_,_,1,Tryz.underlying145,rfl,rfl,by kernel_rfl,by decide⟩⟩
theorem Zo:FI Tryz.prog 145 0 0:=⟨⟨_,_,1,Tryz.underlying145,rfl,rfl,by kernel_rfl,by decide⟩⟩
theorem We:FI Tryz.prog 145 1 1:=⟨⟨_,_,1,Tryz.underlying145,rfl,rfl,by kernel_rfl,by decide⟩⟩
theorem Akm:FnI Tryz.prog 130:=⟨⟨_,Tryz.func130,by kernel_rfl,by kernel_rfl⟩⟩
theorem Ahr:FI Tryz.prog 145 3 3:=⟨⟨_,_,1,Tryz.underlying145,rfl,rfl,by kernel_rfl,by decide⟩⟩
theorem Avv:FnI Tryz.prog 188:=⟨⟨_,Tryz.func188,by kernel_rfl,by kernel_rfl⟩⟩
theorem Ayg:FnI Tryz.prog 115:=⟨⟨_,Tryz.func115,by kernel_rfl,by kernel_rfl⟩⟩
theorem Aqm:FnI Tryz.prog 116:=⟨⟨_,Tryz.func116,by kernel_rfl,by kernel_rfl⟩⟩
theorem Auu:FnI Tryz.prog 47:=⟨⟨_,Tryz.func47,by kernel_rfl,by kernel_rfl⟩⟩
theorem Yh:FI Tryz.prog 40 4 7:=⟨⟨_,_,1,Tryz.underlying40,rfl,rfl,by kernel_rfl,by decide⟩⟩
theorem Qt:FI Tryz.prog 40 3 6:=⟨⟨_,_,1,Tryz.underlying40,rfl,rfl,by kernel_rfl,by decide⟩⟩
theorem Ahe:TI Tryz.prog 38 false 1:=⟨⟨_,Tryz.underlying38,rfl⟩,by kernel_rfl⟩
theorem Y1:SI Tryz.prog 38 88 6:=⟨Tryz.underlying38,by kernel_rfl,by decide⟩
theorem X9:TI Tryz.prog 88 true 6:=⟨⟨_,Tryz.underlying88,rfl⟩,by kernel_rfl⟩
theorem Ab1:ZI Tryz.prog 88 ([Ii6 0,Ii6 0,Ii6 0,Ii6 0,.b false,Znl]):=Rc (by kernel_rfl)
theorem Ab7:(Tryz.prog.info? 88).map (·.size)=some 6:=by kernel_rfl
theorem R9:FI Tryz.prog 88 0 0:=⟨⟨_,_,1,Tryz.underlying88,rfl,rfl,by kernel_rfl,by decide⟩⟩
theorem Azn:FnI Tryz.prog 48:=⟨⟨_,Tryz.func48,by kernel_rfl,by kernel_rfl⟩⟩
theorem Ar2:FnI Tryz.prog 132:=⟨⟨_,Tryz.func132,by kernel_rfl,by kernel_rfl⟩⟩
theorem Awk:PI Tryz.prog 139 [(0,1),(1,1),(2,1),(3,1),(4,1),(5,1),(6,1),(7,1)]:=Sk Tryz.underlying139 (by kernel_rfl) (by kernel_rfl)
theorem Ayi:FnI Tryz.prog 189:=⟨⟨_,Tryz.func189,by kernel_rfl,by kernel_rfl⟩⟩
theorem Aiv:FI Tryz.prog 88 3 3:=⟨⟨_,_,1,Tryz.underlying88,rfl,rfl,by kernel_rfl,by decide⟩⟩
theorem Am0:FI Tryz.prog 88 4 4:=⟨⟨_,_,1,Tryz.underlying88,rfl,rfl,by kernel_rfl,by decide⟩⟩
theorem Yq:FI Tryz.prog 88 5 5:=⟨⟨_,_,1,Tryz.underlying88,rfl,rfl,by kernel_rfl,by decide⟩⟩
theorem Axp:FnI Tryz.prog 117:=⟨⟨_,Tryz.func117,by kernel_rfl,by kernel_rfl⟩⟩
theorem Aed:FI Tryz.prog 88 1 1:=⟨⟨_,_,1,Tryz.underlying88,rfl,rfl,by kernel_rfl,by decide⟩⟩
theorem A1c:FnI Tryz.prog 49:=⟨⟨_,Tryz.func49,by kernel_rfl,by kernel_rfl⟩⟩
theorem Avo:FnI Tryz.prog 16:=⟨⟨_,Tryz.func16,by kernel_rfl,by kernel_rfl⟩⟩
theorem Jn:(Tryz.prog.info? 40).map (·.size)=some 8:=by kernel_rfl
theorem Axa:PI Tryz.prog 88 [(0,1),(1,1),(2,1),(3,1),(4,1),(5,1)]:=Sk Tryz.underlying88 (by kernel_rfl) (by kernel_rfl)
theorem A0s:FnI Tryz.prog 56:=⟨⟨_,Tryz.func56,by kernel_rfl,by kernel_rfl⟩⟩
theorem Ai4:FI Tryz.prog 88 2 2:=⟨⟨_,_,1,Tryz.underlying88,rfl,rfl,by kernel_rfl,by decide⟩⟩
theorem Atz:EI Tryz.prog 88 6 64 [Ii6 0,Ii6 0,Ii6 0,Ii6 0,.b false,Znl]:=Tl (by kernel_rfl) (by decide)
theorem Ax2:NI Tryz.prog 38:=⟨.inl ⟨_,Tryz.underlying38⟩⟩
theorem Az9:(Tryz.prog.info? 38).map (·.size)=some 1:=by kernel_rfl
theorem Awv:FnI Tryz.prog 128:=⟨⟨_,Tryz.func128,by kernel_rfl,by kernel_rfl⟩⟩
theorem Ya:ZI Tryz.prog 34 ([Znl,Znl]):=Rc (by kernel_rfl)
theorem Asx:FnI Tryz.prog 194:=⟨⟨_,Tryz.func194,by kernel_rfl,by kernel_rfl⟩⟩
theorem Xu:(Tryz.prog.info? 34).map (·.size)=some 2:=by kernel_rfl
theorem Ahb:EI Tryz.prog 139 8 64 Zbb:=Tl (by kernel_rfl) (by decide)
theorem Ax0:NI Tryz.prog 29:=⟨.inl ⟨_,Tryz.underlying29⟩⟩
theorem Adx:PI Tryz.prog 34 [(0,1),(1,1)]:=Sk Tryz.underlying34 (by kernel_rfl) (by kernel_rfl)
theorem Auj:FnI Tryz.prog 195:=⟨⟨_,Tryz.func195,by kernel_rfl,by kernel_rfl⟩⟩
theorem Az1:FnI Tryz.prog 129:=⟨⟨_,Tryz.func129,by kernel_rfl,by kernel_rfl⟩⟩
theorem Wc:ZI Tryz.prog 37 ([Znl]):=Rc (by kernel_rfl)
theorem Abt:PI Tryz.prog 37 [(0,1)]:=Sk Tryz.underlying37 (by kernel_rfl) (by kernel_rfl)
theorem Tg:(Tryz.prog.info? 37).map (·.size)=some 1:=by kernel_rfl
theorem Ahi:PI Tryz.prog 145 [(0,1),(1,1),(2,1),(3,1)]:=Sk Tryz.underlying145 (by kernel_rfl) (by kernel_rfl)
theorem Av6:FnI Tryz.prog 74:=⟨⟨_,Tryz.func74,by kernel_rfl,by kernel_rfl⟩⟩
theorem Aky:EI Tryz.prog 145 4 32 [Ii6 0,Ii6 0,Ii6 0,Ii6 0]:=Tl (by kernel_rfl) (by decide)
theorem Ayv:NI Tryz.prog 35:=⟨.inl ⟨_,Tryz.underlying35⟩⟩
theorem Ax9:FnI Tryz.prog 249:=⟨⟨_,Tryz.func249,by kernel_rfl,by kernel_rfl⟩⟩
theorem Az4:FnI Tryz.prog 196:=⟨⟨_,Tryz.func196,by kernel_rfl,by kernel_rfl⟩⟩
theorem Ajo:FnI Tryz.prog 131:=⟨⟨_,Tryz.func131,by kernel_rfl,by kernel_rfl⟩⟩
theorem A0j:FnI Tryz.prog 73:=⟨⟨_,Tryz.func73,by kernel_rfl,by kernel_rfl⟩⟩
theorem Aud:FnI Tryz.prog 57:=⟨⟨_,Tryz.func57,by kernel_rfl,by kernel_rfl⟩⟩
theorem A0y:FnI Tryz.prog 58:=⟨⟨_,Tryz.func58,by kernel_rfl,by kernel_rfl⟩⟩
theorem A07:EI Tryz.prog 29 1 24 [Znl]:=Tl (by kernel_rfl) (by decide)
theorem Aou:SI Tryz.prog 312 29 1:=⟨Tryz.underlying312,by kernel_rfl,by decide⟩
theorem Ayl:FnI Tryz.prog 198:=⟨⟨_,Tryz.func198,by kernel_rfl,by kernel_rfl⟩⟩
theorem Axn:FnI Tryz.prog 133:=⟨⟨_,Tryz.func133,by kernel_rfl,by kernel_rfl⟩⟩
theorem A1w:FnI Tryz.prog 59:=⟨⟨_,Tryz.func59,by kernel_rfl,by kernel_rfl⟩⟩
theorem A0u:EI Tryz.prog 38 1 24 [Znl]:=Tl (by kernel_rfl) (by decide)
theorem Aoz:SI Tryz.prog 246 38 1:=⟨Tryz.underlying246,by kernel_rfl,by decide⟩
theorem Ay0:FnI Tryz.prog 134:=⟨⟨_,Tryz.func134,by kernel_rfl,by kernel_rfl⟩⟩
theorem A0v:FnI Tryz.prog 60:=⟨⟨_,Tryz.func60,by kernel_rfl,by kernel_rfl⟩⟩
theorem Axj:FnI Tryz.prog 23:=⟨⟨_,Tryz.func23,by kernel_rfl,by kernel_rfl⟩⟩
theorem ei5:EI Tryz.prog 5 1 1 [.i .u8 0]:=Tl (by kernel_rfl) (by decide)
theorem Awl:FnI Tryz.prog 55:=⟨⟨_,Tryz.func55,by kernel_rfl,by kernel_rfl⟩⟩
theorem Atb:FnI Tryz.prog 61:=⟨⟨_,Tryz.func61,by kernel_rfl,by kernel_rfl⟩⟩
theorem Ata:FnI Tryz.prog 135:=⟨⟨_,Tryz.func135,by kernel_rfl,by kernel_rfl⟩⟩
theorem Axi:PI Tryz.prog 99 [(0,1),(1,1),(2,1)]:=Sk Tryz.underlying99 (by kernel_rfl) (by kernel_rfl)
theorem A05:FnI Tryz.prog 63:=⟨⟨_,Tryz.func63,by kernel_rfl,by kernel_rfl⟩⟩
theorem Ax1:ZI Tryz.prog 58 ([Znl,Znl,.b false]):=Rc (by kernel_rfl)
theorem Ay9:FnI Tryz.prog 206:=⟨⟨_,Tryz.func206,by kernel_rfl,by kernel_rfl⟩⟩
theorem A1q:NI Tryz.prog 56:=⟨.inl ⟨_,Tryz.underlying56⟩⟩
theorem Ayw:FnI Tryz.prog 137:=⟨⟨_,Tryz.func137,by kernel_rfl,by kernel_rfl⟩⟩
theorem A0e:PI Tryz.prog 58 [(0,1),(1,1),(2,1)]:=Sk Tryz.underlying58 (by kernel_rfl) (by kernel_rfl)
theorem A1o:FnI Tryz.prog 65:=⟨⟨_,Tryz.func65,by kernel_rfl,by kernel_rfl⟩⟩
theorem Ayo:PI Tryz.prog 142 [(0,1),(1,3)]:=Sk Tryz.underlying142 (by kernel_rfl) (by kernel_rfl)
theorem zv3:(Tryz.prog.info? 3).bind (·.zero)=some (.int .i64 0):=by kernel_rfl
theorem A1u:EI Tryz.prog 30 1 24 [Znl]:=Tl (by kernel_rfl) (by decide)
theorem Aol:SI Tryz.prog 396 30 1:=⟨Tryz.underlying396,by kernel_rfl,by decide⟩
theorem Azm:FnI Tryz.prog 268:=⟨⟨_,Tryz.func268,by kernel_rfl,by kernel_rfl⟩⟩
theorem Ay4:FnI Tryz.prog 250:=⟨⟨_,Tryz.func250,by kernel_rfl,by kernel_rfl⟩⟩
theorem Ax6:FnI Tryz.prog 199:=⟨⟨_,Tryz.func199,by kernel_rfl,by kernel_rfl⟩⟩
theorem Avs:FnI Tryz.prog 200:=⟨⟨_,Tryz.func200,by kernel_rfl,by kernel_rfl⟩⟩
theorem Aur:FnI Tryz.prog 251:=⟨⟨_,Tryz.func251,by kernel_rfl,by kernel_rfl⟩⟩
theorem As2:FnI Tryz.prog 201:=⟨⟨_,Tryz.func201,by kernel_rfl,by kernel_rfl⟩⟩
theorem Azf:FnI Tryz.prog 202:=⟨⟨_,Tryz.func202,by kernel_rfl,by kernel_rfl⟩⟩
theorem Aw2:ZI Tryz.prog 320 ([Nfu,Nfu]):=Rc (by kernel_rfl)
theorem Axw:PI Tryz.prog 320 [(0,1),(1,1)]:=Sk Tryz.underlying320 (by kernel_rfl) (by kernel_rfl)
theorem Ay3:(Tryz.prog.info? 320).map (·.size)=some 2:=by kernel_rfl
theorem Axo:TI Tryz.prog 320 true 2:=⟨⟨_,Tryz.underlying320,rfl⟩,by kernel_rfl⟩
theorem Aun:FnI Tryz.prog 203:=⟨⟨_,Tryz.func203,by kernel_rfl,by kernel_rfl⟩⟩
theorem Ar8:FI Tryz.prog 320 0 0:=⟨⟨_,_,1,Tryz.underlying320,rfl,rfl,by kernel_rfl,by decide⟩⟩
theorem Auo:TI Tryz.prog 318 false 1:=⟨⟨_,Tryz.underlying318,rfl⟩,by kernel_rfl⟩
theorem Am6:FI Tryz.prog 139 5 5:=⟨⟨_,_,1,Tryz.underlying139,rfl,rfl,by kernel_rfl,by decide⟩⟩
theorem Azr:FnI Tryz.prog 252:=⟨⟨_,Tryz.func252,by kernel_rfl,by kernel_rfl⟩⟩
theorem Ar6:FI Tryz.prog 320 1 1:=⟨⟨_,_,1,Tryz.underlying320,rfl,rfl,by kernel_rfl,by decide⟩⟩
theorem Ant:FI Tryz.prog 139 4 4:=⟨⟨_,_,1,Tryz.underlying139,rfl,rfl,by kernel_rfl,by decide⟩⟩
theorem Az2:FnI Tryz.prog 253:=⟨⟨_,Tryz.func253,by kernel_rfl,by kernel_rfl⟩⟩
theorem Av3:FnI Tryz.prog 204:=⟨⟨_,Tryz.func204,by kernel_rfl,by kernel_rfl⟩⟩
theorem Aso:FnI Tryz.prog 205:=⟨⟨_,Tryz.func205,by kernel_rfl,by kernel_rfl⟩⟩
theorem Ayu:FnI Tryz.prog 136:=⟨⟨_,Tryz.func136,by kernel_rfl,by kernel_rfl⟩⟩
theorem A0k:FnI Tryz.prog 64:=⟨⟨_,Tryz.func64,by kernel_rfl,by kernel_rfl⟩⟩
theorem Awg:FnI Tryz.prog 148:=⟨⟨_,Tryz.func148,by kernel_rfl,by kernel_rfl⟩⟩
theorem Auy:FnI Tryz.prog 147:=⟨⟨_,Tryz.func147,by kernel_rfl,by kernel_rfl⟩⟩
theorem Axl:FnI Tryz.prog 69:=⟨⟨_,Tryz.func69,by kernel_rfl,by kernel_rfl⟩⟩
theorem Av0:FnI Tryz.prog 218:=⟨⟨_,Tryz.func218,by kernel_rfl,by kernel_rfl⟩⟩
theorem Au7:PI Tryz.prog 136 [(0,1),(1,1),(2,1)]:=Sk Tryz.underlying136 (by kernel_rfl) (by kernel_rfl)
theorem Axs:FnI Tryz.prog 149:=⟨⟨_,Tryz.func149,by kernel_rfl,by kernel_rfl⟩⟩
theorem A0f:FnI Tryz.prog 70:=⟨⟨_,Tryz.func70,by kernel_rfl,by kernel_rfl⟩⟩
theorem A0c:FnI Tryz.prog 28:=⟨⟨_,Tryz.func28,by kernel_rfl,by kernel_rfl⟩⟩
theorem Ayc:FnI Tryz.prog 24:=⟨⟨_,Tryz.func24,by kernel_rfl,by kernel_rfl⟩⟩
theorem Atr:ZI Tryz.prog 86 ([Znl]):=Rc (by kernel_rfl)
theorem Awh:PI Tryz.prog 86 [(0,1)]:=Sk Tryz.underlying86 (by kernel_rfl) (by kernel_rfl)
theorem Au5:EI Tryz.prog 99 3 56 [Znl,Znl,.b false]:=Tl (by kernel_rfl) (by decide)
theorem A0o:NI Tryz.prog 84:=⟨.inl ⟨_,Tryz.underlying84⟩⟩
theorem Ax8:FnI Tryz.prog 126:=⟨⟨_,Tryz.func126,by kernel_rfl,by kernel_rfl⟩⟩
theorem Azx:FnI Tryz.prog 127:=⟨⟨_,Tryz.func127,by kernel_rfl,by kernel_rfl⟩⟩
theorem A00:FnI Tryz.prog 53:=⟨⟨_,Tryz.func53,by kernel_rfl,by kernel_rfl⟩⟩
theorem Ayx:FnI Tryz.prog 138:=⟨⟨_,Tryz.func138,by kernel_rfl,by kernel_rfl⟩⟩
theorem A0z:FnI Tryz.prog 66:=⟨⟨_,Tryz.func66,by kernel_rfl,by kernel_rfl⟩⟩
theorem Ax5:FnI Tryz.prog 139:=⟨⟨_,Tryz.func139,by kernel_rfl,by kernel_rfl⟩⟩
theorem A1x:FnI Tryz.prog 67:=⟨⟨_,Tryz.func67,by kernel_rfl,by kernel_rfl⟩⟩
theorem Axf:FnI Tryz.prog 25:=⟨⟨_,Tryz.func25,by kernel_rfl,by kernel_rfl⟩⟩
theorem Ayt:FnI Tryz.prog 141:=⟨⟨_,Tryz.func141,by kernel_rfl,by kernel_rfl⟩⟩
theorem Ayz:FnI Tryz.prog 209:=⟨⟨_,Tryz.func209,by kernel_rfl,by kernel_rfl⟩⟩
theorem Ax7:FnI Tryz.prog 210:=⟨⟨_,Tryz.func210,by kernel_rfl,by kernel_rfl⟩⟩
theorem Azi:FnI Tryz.prog 269:=⟨⟨_,Tryz.func269,by kernel_rfl,by kernel_rfl⟩⟩
theorem Azc:FnI Tryz.prog 270:=⟨⟨_,Tryz.func270,by kernel_rfl,by kernel_rfl⟩⟩
theorem Avx:FnI Tryz.prog 254:=⟨⟨_,Tryz.func254,by kernel_rfl,by kernel_rfl⟩⟩
theorem Ayb:FnI Tryz.prog 212:=⟨⟨_,Tryz.func212,by kernel_rfl,by kernel_rfl⟩⟩
theorem Ayj:FnI Tryz.prog 211:=⟨⟨_,Tryz.func211,by kernel_rfl,by kernel_rfl⟩⟩
theorem Aym:(Tryz.prog.info? 25).map (·.size)=some 1:=by kernel_rfl
theorem Axy:FnI Tryz.prog 140:=⟨⟨_,Tryz.func140,by kernel_rfl,by kernel_rfl⟩⟩
theorem Azj:FnI Tryz.prog 142:=⟨⟨_,Tryz.func142,by kernel_rfl,by kernel_rfl⟩⟩
theorem Af7:ZI Tryz.prog 28 ([Znl,Znl,Ii6 0]):=Rc (by kernel_rfl)
theorem Arc:PI Tryz.prog 28 [(0,1),(1,1),(2,1)]:=Sk Tryz.underlying28 (by kernel_rfl) (by kernel_rfl)
theorem Ag6:(Tryz.prog.info? 28).map (·.size)=some 3:=by kernel_rfl
theorem Ayn:FnI Tryz.prog 213:=⟨⟨_,Tryz.func213,by kernel_rfl,by kernel_rfl⟩⟩
theorem Awq:FnI Tryz.prog 214:=⟨⟨_,Tryz.func214,by kernel_rfl,by kernel_rfl⟩⟩
theorem Agg:EI Tryz.prog 134 1 24 [Znl]:=Tl (by kernel_rfl) (by decide)
theorem Axu:NI Tryz.prog 26:=⟨.inl ⟨_,Tryz.underlying26⟩⟩
theorem Au8:FnI Tryz.prog 215:=⟨⟨_,Tryz.func215,by kernel_rfl,by kernel_rfl⟩⟩
theorem Azt:FnI Tryz.prog 255:=⟨⟨_,Tryz.func255,by kernel_rfl,by kernel_rfl⟩⟩
theorem Aka:PI Tryz.prog 134 [(0,1)]:=Sk Tryz.underlying134 (by kernel_rfl) (by kernel_rfl)
theorem Aza:FnI Tryz.prog 256:=⟨⟨_,Tryz.func256,by kernel_rfl,by kernel_rfl⟩⟩
theorem A0h:(Tryz.prog.info? 26).map (·.size)=some 1:=by kernel_rfl
theorem Alx:EI Tryz.prog 136 3 40 [Ii6 0,Znl,.b false]:=Tl (by kernel_rfl) (by decide)
theorem Azv:EI Tryz.prog 132 1 24 [Znl]:=Tl (by kernel_rfl) (by decide)
theorem Ape:SI Tryz.prog 408 132 1:=⟨Tryz.underlying408,by kernel_rfl,by decide⟩
theorem Axm:FnI Tryz.prog 281:=⟨⟨_,Tryz.func281,by kernel_rfl,by kernel_rfl⟩⟩
theorem Au4:NI Tryz.prog 132:=⟨.inl ⟨_,Tryz.underlying132⟩⟩
theorem Azo:FnI Tryz.prog 275:=⟨⟨_,Tryz.func275,by kernel_rfl,by kernel_rfl⟩⟩
theorem Azp:FnI Tryz.prog 257:=⟨⟨_,Tryz.func257,by kernel_rfl,by kernel_rfl⟩⟩
theorem Aya:FnI Tryz.prog 216:=⟨⟨_,Tryz.func216,by kernel_rfl,by kernel_rfl⟩⟩
theorem Azg:FnI Tryz.prog 143:=⟨⟨_,Tryz.func143,by kernel_rfl,by kernel_rfl⟩⟩
theorem Avc:FnI Tryz.prog 146:=⟨⟨_,Tryz.func146,by kernel_rfl,by kernel_rfl⟩⟩
theorem Ayq:FnI Tryz.prog 144:=⟨⟨_,Tryz.func144,by kernel_rfl,by kernel_rfl⟩⟩
theorem Ayh:FnI Tryz.prog 258:=⟨⟨_,Tryz.func258,by kernel_rfl,by kernel_rfl⟩⟩
theorem Ays:FnI Tryz.prog 217:=⟨⟨_,Tryz.func217,by kernel_rfl,by kernel_rfl⟩⟩
theorem Ay7:FnI Tryz.prog 145:=⟨⟨_,Tryz.func145,by kernel_rfl,by kernel_rfl⟩⟩
theorem A1g:FnI Tryz.prog 68:=⟨⟨_,Tryz.func68,by kernel_rfl,by kernel_rfl⟩⟩
theorem Aw8:FnI Tryz.prog 27:=⟨⟨_,Tryz.func27,by kernel_rfl,by kernel_rfl⟩⟩
theorem fn9:FnI Tryz.prog 9:=⟨⟨_,Tryz.func9,by kernel_rfl,by kernel_rfl⟩⟩
theorem Ah2:SI Tryz.prog 22 60 11:=⟨Tryz.underlying22,by kernel_rfl,by decide⟩
theorem Arl:FI Tryz.prog 60 8 8:=⟨⟨_,_,3,Tryz.underlying60,rfl,rfl,by kernel_rfl,by decide⟩⟩
theorem A03:FnI Tryz.prog 29:=⟨⟨_,Tryz.func29,by kernel_rfl,by kernel_rfl⟩⟩
theorem Alg:FI Tryz.prog 60 6 6:=⟨⟨_,_,1,Tryz.underlying60,rfl,rfl,by kernel_rfl,by decide⟩⟩
theorem Arj:FI Tryz.prog 60 7 7:=⟨⟨_,_,1,Tryz.underlying60,rfl,rfl,by kernel_rfl,by decide⟩⟩
theorem A1s:FnI Tryz.prog 10:=⟨⟨_,Tryz.func10,by kernel_rfl,by kernel_rfl⟩⟩
theorem Art:SI Tryz.prog 73 79 4:=⟨Tryz.underlying73,by kernel_rfl,by decide⟩
theorem Auv:FI Tryz.prog 60 1 1:=⟨⟨_,_,1,Tryz.underlying60,rfl,rfl,by kernel_rfl,by decide⟩⟩
theorem A0q:TI Tryz.prog 60 true 11:=⟨⟨_,Tryz.underlying60,rfl⟩,by kernel_rfl⟩
theorem Anf:ZI Tryz.prog 64 ([Ii6 0,.b false,Znl,Znl,Ii6 0]):=Rc (by kernel_rfl)
theorem Tf:FI Tryz.prog 60 0 0:=⟨⟨_,_,1,Tryz.underlying60,rfl,rfl,by kernel_rfl,by decide⟩⟩
theorem Anv:FI Tryz.prog 60 2 2:=⟨⟨_,_,1,Tryz.underlying60,rfl,rfl,by kernel_rfl,by decide⟩⟩
theorem Aq1:FI Tryz.prog 60 3 3:=⟨⟨_,_,1,Tryz.underlying60,rfl,rfl,by kernel_rfl,by decide⟩⟩
theorem Awy:FI Tryz.prog 60 4 4:=⟨⟨_,_,1,Tryz.underlying60,rfl,rfl,by kernel_rfl,by decide⟩⟩
theorem Arb:PI Tryz.prog 64 [(0,1),(1,1),(2,1),(3,1),(4,1)]:=Sk Tryz.underlying64 (by kernel_rfl) (by kernel_rfl)
theorem Ao8:(Tryz.prog.info? 64).map (·.size)=some 5:=by kernel_rfl
theorem Apr:TI Tryz.prog 64 true 5:=⟨⟨_,Tryz.underlying64,rfl⟩,by kernel_rfl⟩
theorem A0a:FnI Tryz.prog 54:=⟨⟨_,Tryz.func54,by kernel_rfl,by kernel_rfl⟩⟩
theorem A01:FnI Tryz.prog 52:=⟨⟨_,Tryz.func52,by kernel_rfl,by kernel_rfl⟩⟩
theorem A1e:FnI Tryz.prog 30:=⟨⟨_,Tryz.func30,by kernel_rfl,by kernel_rfl⟩⟩
theorem Awp:FI Tryz.prog 60 5 5:=⟨⟨_,_,1,Tryz.underlying60,rfl,rfl,by kernel_rfl,by decide⟩⟩
theorem Az6:FnI Tryz.prog 26:=⟨⟨_,Tryz.func26,by kernel_rfl,by kernel_rfl⟩⟩
theorem A1r:FnI Tryz.prog 31:=⟨⟨_,Tryz.func31,by kernel_rfl,by kernel_rfl⟩⟩
theorem A02:EI Tryz.prog 35 1 24 [Znl]:=Tl (by kernel_rfl) (by decide)
theorem Aog:SI Tryz.prog 337 35 1:=⟨Tryz.underlying337,by kernel_rfl,by decide⟩
theorem Aye:FnI Tryz.prog 220:=⟨⟨_,Tryz.func220,by kernel_rfl,by kernel_rfl⟩⟩
theorem Ayp:FnI Tryz.prog 151:=⟨⟨_,Tryz.func151,by kernel_rfl,by kernel_rfl⟩⟩
theorem A1b:FnI Tryz.prog 75:=⟨⟨_,Tryz.func75,by kernel_rfl,by kernel_rfl⟩⟩
theorem A08:FnI Tryz.prog 32:=⟨⟨_,Tryz.func32,by kernel_rfl,by kernel_rfl⟩⟩
theorem A04:FnI Tryz.prog 11:=⟨⟨_,Tryz.func11,by kernel_rfl,by kernel_rfl⟩⟩
theorem Ais:FI Tryz.prog 64 4 4:=⟨⟨_,_,1,Tryz.underlying64,rfl,rfl,by kernel_rfl,by decide⟩⟩
theorem Aw7:TI Tryz.prog 62 false 1:=⟨⟨_,Tryz.underlying62,rfl⟩,by kernel_rfl⟩
theorem Aq9:FI Tryz.prog 64 0 0:=⟨⟨_,_,1,Tryz.underlying64,rfl,rfl,by kernel_rfl,by decide⟩⟩
theorem A06:ZI Tryz.prog 79 ([Ii6 0,Ii6 0,Ii6 0,Znl]):=Rc (by kernel_rfl)
theorem A0x:PI Tryz.prog 79 [(0,1),(1,1),(2,1),(3,1)]:=Sk Tryz.underlying79 (by kernel_rfl) (by kernel_rfl)
theorem Axd:EI Tryz.prog 79 4 48 [Ii6 0,Ii6 0,Ii6 0,Znl]:=Tl (by kernel_rfl) (by decide)
theorem A0r:NI Tryz.prog 73:=⟨.inl ⟨_,Tryz.underlying73⟩⟩
theorem Arq:FI Tryz.prog 79 3 3:=⟨⟨_,_,1,Tryz.underlying79,rfl,rfl,by kernel_rfl,by decide⟩⟩
theorem A09:TI Tryz.prog 77 false 1:=⟨⟨_,Tryz.underlying77,rfl⟩,by kernel_rfl⟩
theorem Ax3:ZI Tryz.prog 152 ([Ii6 0,Ii6 0,Ii6 0,Ii6 0,.b false,.b false,Znl,Znl,Znl,Znl,.b false,Ii6 0,.b false,Znl,Znl,Ii6 0]):=Rc (by kernel_rfl)
theorem Axv:PI Tryz.prog 152 [(0,11),(11,5)]:=Sk Tryz.underlying152 (by kernel_rfl) (by kernel_rfl)
theorem Avj:EI Tryz.prog 152 16 216 [Ii6 0,Ii6 0,Ii6 0,Ii6 0,.b false,.b false,Znl,Znl,Znl,Znl,.b false,Ii6 0,.b false,Znl,Znl,Ii6 0]:=Tl (by kernel_rfl) (by decide)
theorem A1p:NI Tryz.prog 77:=⟨.inl ⟨_,Tryz.underlying77⟩⟩
theorem A1n:(Tryz.prog.info? 77).map (·.size)=some 1:=by kernel_rfl
theorem Auw:FI Tryz.prog 79 2 2:=⟨⟨_,_,1,Tryz.underlying79,rfl,rfl,by kernel_rfl,by decide⟩⟩
theorem A1v:TI Tryz.prog 79 true 4:=⟨⟨_,Tryz.underlying79,rfl⟩,by kernel_rfl⟩
theorem A0w:FnI Tryz.prog 17:=⟨⟨_,Tryz.func17,by kernel_rfl,by kernel_rfl⟩⟩
theorem Azw:FnI Tryz.prog 21:=⟨⟨_,Tryz.func21,by kernel_rfl,by kernel_rfl⟩⟩
theorem A0i:FnI Tryz.prog 20:=⟨⟨_,Tryz.func20,by kernel_rfl,by kernel_rfl⟩⟩
def E1 (a0:List UInt8):Option Bool :=
 if (decide (1≤(a0.length:Int))) then (some (decide ((a0.length:Int)≤16))) else (some false)
theorem N9 {a0:List UInt8} {r:Bool} (h:E1 a0=some r):Br Tryz.prog 62 [.one (.sl a0.length (a0.flatMap eU8))] (·=.s (.one (.b r))):=by
 unfold E1 at h
 refine A5 Tryz.func62 R (nt:=11) R (Nbl R) ?_
 intro w0 S0
 refine csr (rm 1 R (Ak (csr (rm 1 R (sv R (Aw Yc R) (sv R (Hz R R) (rm 1 R (ssI 6 h R (fun h=>?_) (fun h=>?_)))))))))
 ·refine rm 1 R (son R R R (sv R (Aw Yc R) (son R R R (sv R (De R R) (rm 2 R (Ak (Bs ?_)))))))
  obtain rfl:=SJ h
  exact dnT R R R R
 ·refine rm 5 R (Ak (Bs ?_))
  obtain rfl:=SJ h
  exact dnT R R R R
def Cw (a0:Av):Option Bool :=
 (E1 a0.Key).bind fun v1=>if v1 then (if (decide ((a0.Val.length:Int)≤32)) then (if a0.Del then (some (!(decide (0<(a0.Val.length:Int))))) else (some true)) else (some false)) else (some false)
theorem On {a0:Av} {r:Bool} (h:Cw a0=some r):Br Tryz.prog 124 [.agg (EL.el a0)] (·=.s (.one (.b r))):=by
 unfold Cw at h
 refine A5 Tryz.func124 R (nt:=23) R (Nbl R) ?_
 intro w0 S0
 refine csr (F4 R R (rm 1 R (Ak (csr (sv R (Ac Qg R) (sv R (l1 Mz R R R) ?_))))))
 obtain ⟨v1,hv1,h⟩:=Ae h
 refine Ba R Aw9 (Aa R Af) (An R) (N9 hv1) (rm 1 R (ssI 6 h R (fun h=>?_) (fun h=>?_)))
 ·refine son R R R (sv R (Ac Xa R) (son R R R (sv R (l1 Mz R R R) (son R R R (sv R (Aw Yc R) (son R R R (sv R (De R R) (rm 2 R (ssI 12 h R (fun h=>?_) (fun h=>?_))))))))))
  ·refine son R R R (sv R (Ac Abn R) (son R R R (sv R (l1 ti4 R R R) (rm 1 R (ssI 15 h R (fun h=>?_) (fun h=>?_))))))
   ·refine son R R R (sv R (Ac Xa R) (son R R R (sv R (l1 Mz R R R) (son R R R (sv R (Aw Yc R) (son R R R (sv R (C5 R R) (rm 1 R (son R R R (sv R (B0 R) (rm 2 R (Ak (Bs ?_)))))))))))))
    obtain rfl:=SJ h
    exact dnT R R R R
   ·refine rm 5 R (son R R R (sv R (B0 R) (rm 2 R (Ak (Bs ?_)))))
    obtain rfl:=SJ h
    exact dnT R R R R
  ·refine rm 3 R (Ch R R R (Ch R R R (Ch R R R (Ch R R R (rm 4 R (Ak (Bs ?_)))))))
   obtain rfl:=SJ h
   exact dnT R R R R
 ·refine rm 9 R (Ch R R R (Ch R R R (Ch R R R (Ch R R R (rm 4 R (Ak (Bs ?_)))))))
  obtain rfl:=SJ h
  exact dnT R R R R
def Mh (b1:(List (List UInt8))):Option (List (List UInt8)) :=
 some b1
def Gd (a0:B2) (s2:Int × (List (List UInt8))):Option (LB (Int × (List (List UInt8))) ((List (List UInt8)))) :=
 if (decide (s2.1<(a0.L.length:Int))) then ((idx a0.L s2.1).bind fun u3=>if (s2.2.length+[u3.Key].length)*24≤140737488355328 then (some (.cont ((wI (s2.1+1)),(s2.2++[u3.Key])))) else none) else (some (.brk s2.2))
def Ey (a0:B2):Option (List (List UInt8)) :=
 (Ct (Gd a0) fuel (0,([]:List (List UInt8)))).bind fun e5=>Mh e5
theorem Qb {a0:B2} {r:(List (List UInt8))} (h:Ey a0=some r):Br Tryz.prog 125 [.agg [.sl a0.L.length (a0.L.flatMap Ao)]] (·=.s (.one (.sl r.length (r.flatMap (eL eU8))))):=by
 unfold Ey at h
 refine A5 Tryz.func125 R (nt:=20) R (Nbl R) ?_
 intro w0 S0
 refine csr (F4 R R (rm 1 R (Ak (csr (rm 1 R (Ak (Bl (csr (fl Xc Aot R R R R R R (sv R (Aw V5 R) (rm 1 R (Ak ?_))))))))))))
 refine C6 56 1 3 (by decide) R ?_
 refine cj ((List (List UInt8))) (fun b1=>[(3,.s (.one (.ls 1 b1.length)))]) (fun b1=>[.box [.sl a0.L.length (a0.L.flatMap Ao)],.arr 56 1 0 (b1.flatMap (eL eU8))]) (fun b1=>Mh b1=some r) (fun _=>R) (fun b1 h=>?_) ?_
 ·unfold Mh at h
  refine csr (rm 2 R (Ak (Bs ?_)))
  obtain rfl:=SJ h
  refine ⟨Or.inr R,_,_,_,(Ad (rt R) Ai),(by (repeat' first | exact Ic.nil _ | apply Ic.cons | apply H6.one | apply H6.agg | exact Cz.nil | exact Cz.ls _ _ _ _ _ _ R (Au (f:=(eL eU8)) (fun _=>R) _).symm | exact Cz.id _ R | exact Co.nil _ | apply Co.cons)),?_⟩
  rfl
 ·skip
  refine Bq ?_
  obtain ⟨x2,hx2,ho2⟩:=Ae h
  refine lpo (G:=Nat × (Int × (List (List UInt8)))) (fun g=>[(3,.s (.one (.ls 1 g.2.2.length))),(7,.s (.one (.sl a0.L.length (a0.L.flatMap Ao)))),(8,.s (.one (Ii6 (a0.L.length:Int)))),(9,.s (.one (Ii6 g.2.1)))]) (fun g=>[.box [.sl a0.L.length (a0.L.flatMap Ao)],.arr 56 1 0 (g.2.2.flatMap (eL eU8))]) (fun g=>Ct (Gd a0) g.1 g.2=some x2) (fun g=>g.1) (fuel,(0,([]:List (List UInt8)))) hx2 ⟨R,R,R,R,trivial⟩ [] R (fun _=>R) ?_
  clear hx2 h
  rintro ⟨n2,s2⟩ h
  obtain ⟨n2,y2,rfl,h,hk2⟩:=Cu h
  unfold Gd at h
  refine csr (sv R (Bt R R) (Ak (Bl (ccI h R (fun h=>?_) (fun h=>?_)))))
  ·refine Bf (Ab (Bl (Bq (Bl (Aq ?_)))))
   obtain ⟨u3,hu3,h⟩:=Ae h
   refine sv R (B8 (f:=Ao) V5 (fun _=>R) R R R R hu3) ?_
   refine sv R (Bz (ys:=[.sl u3.Key.length (u3.Key.flatMap eU8),.sl u3.Val.length (u3.Val.flatMap eU8),.b u3.Del]) Ady R (.cp _) R R) (Bp R Ajk (sst Al2 R R R R R (Ak (Aq (rm 1 R (sv R (Ac Qg R) (sv R (l1 Mz R R R) ?_)))))))
   refine Fo R Tryz.underlying25 Af4 R R (zJ.1 R) (by decide) ?_
   refine Pz [.box [.sl a0.L.length (a0.L.flatMap Ao)],.arr 56 1 0 (s2.2.flatMap (eL eU8)),.box (EL.el u3),.arr 56 1 0 ([u3.Key].flatMap (eL eU8))] R ?_
   obtain ⟨hb4,h⟩:=Cp h
   refine Tr (f:=(eL eU8)) (xs:=s2.2) (us:=[u3.Key]) R Tryz.underlying25 Af4 Ase (fun _=>R) R R (.one _ _ _ _ (.ls _ _ _ _ _ _ R (Au (f:=(eL eU8)) (fun _=>R) [u3.Key]).symm)) R R R (.sl _ _ _ (Au (f:=(eL eU8)) (fun _=>R) _)) R R hb4 (by decide) ?_
   refine rm 1 R (Kz (Ap (Ab (Aq (sv R (Bo R R) (rm 1 R (Ak ?_)))))))
   obtain rfl:=SJ h
   exact ⟨(n2,((wI (s2.1+1)),(s2.2++[u3.Key]))),_,hk2,⟨R,R,R,R,trivial⟩,R,zG _⟩
  ·refine Da (As (As (Bj (Ab ?_))))
   obtain rfl:=SJ h
   obtain rfl:_=x2:=hk2
   exact ⟨s2.2,_,ho2,⟨R,trivial⟩,R⟩
def Oy (a0:List UInt8) (a1:List UInt8):Option Int :=
 some (Gg a0 a1)
theorem Va {a0:List UInt8} {a1:List UInt8} {r:Int} (h:Oy a0 a1=some r):Br Tryz.prog 219 [.one (.sl a0.length (a0.flatMap eU8)),.one (.sl a1.length (a1.flatMap eU8))] (·=.s (.one (Ii6 r))):=by
 unfold Oy at h
 refine A5 Tryz.func219 R (nt:=8) R (Nbl R) ?_
 intro w0 S0
 refine csr (rm 1 R (Ak (csr (rm 2 R (sv R (Ao7 (a:=a0) (b:=a1) Avw R R R R R R) (rm 1 R (Ak (Bs ?_))))))))
 obtain rfl:=SJ h
 exact dnT R R R R
def I4 (a0:List UInt8) (a1:List UInt8):Option Int :=
 (Oy a0 a1).bind fun v1=>some v1
theorem Ml {a0:List UInt8} {a1:List UInt8} {r:Int} (h:I4 a0 a1=some r):Br Tryz.prog 150 [.one (.sl a0.length (a0.flatMap eU8)),.one (.sl a1.length (a1.flatMap eU8))] (·=.s (.one (Ii6 r))):=by
 unfold I4 at h
 refine A5 Tryz.func150 R (nt:=8) R (Nbl R) ?_
 intro w0 S0
 refine csr (rm 1 R (Ak (csr (rm 1 R (sv R (A4 R) ?_)))))
 obtain ⟨v1,hv1,h⟩:=Ae h
 refine Ba R Axr (Aa R (Aa R Af)) (An R) (Va hv1) (rm 1 R (Ak (Bs ?_)))
 obtain rfl:=SJ h
 exact dnT R R R R
def N3 (b1:Unit):Option Bool :=
 some true
def Cl (a0:List (List UInt8)) (s2:Int):Option (LR (Int) (Unit) (Bool)) :=
 if (decide (s2<(a0.length:Int))) then ((idx a0 (wI (s2-1))).bind fun u3=>(idx a0 s2).bind fun u4=>(I4 u3 u4).bind fun v5=>if (decide (0≤v5)) then (some (.ret false)) else (some (.cont (wI (s2+1))))) else (some (.brk ()))
def Ck (a0:List (List UInt8)):Option Bool :=
 (Lj (Cl a0) fuel 1).bind fun x=>match x with | .inl r=>some r | .inr e6=>N3 e6
theorem Lz {a0:List (List UInt8)} {r:Bool} (h:Ck a0=some r):Br Tryz.prog 181 [.one (.sl a0.length (a0.flatMap (eL eU8)))] (·=.s (.one (.b r))):=by
 unfold Ck at h
 refine A5 Tryz.func181 R (nt:=21) R (Nbl R) ?_
 intro w0 S0
 refine csr (rm 1 R (Ak (Bl (csr (rm 1 R (Ak (cj (Unit) (fun b1=>[]) (fun b1=>[]) (fun b1=>N3 b1=some r) (fun _=>R) (fun b1 h=>?_) ?_)))))))
 ·unfold N3 at h
  refine csr (rm 1 R (Ak (Bs ?_)))
  obtain rfl:=SJ h
  exact dnT R R R R
 ·skip
  refine Bq ?_
  obtain ⟨x2,hx2,ho2⟩:=Ae h
  refine lpo (G:=Nat × (Int)) (fun g=>[(0,.s (.one (.sl a0.length (a0.flatMap (eL eU8))))),(3,.s (.one (Ii6 g.2)))]) (fun g=>[]) (fun g=>Lj (Cl a0) g.1 g.2=some x2) (fun g=>g.1) (fuel,1) hx2 ⟨R,R,trivial⟩ [] R (fun _=>R) ?_
  clear hx2 h
  rintro ⟨n2,s2⟩ h
  obtain ⟨n2,y2,rfl,h,hk2⟩:=Es h
  unfold Cl at h
  refine Bl (csr (rm 2 R (sv R (Aw S7 R) (sv R (Bt R R) (Ak (ccI h R (fun h=>?_) (fun h=>?_)))))))
  ·refine Bf (Ab (Bl (Bq (Bl ?_))))
   refine Z3 mixed (by kernel_rfl) ?_
   refine dv R (A4 R) (dv R (A4 R) (dv R (Nk R R) ?_))
   obtain ⟨u3,hu3,h⟩:=Ae h
   refine dv R (B8 (f:=(eL eU8)) S7 (fun _=>R) R R R R hu3) ?_
   refine dv R (B6 Mz R (.cp _) R) (dv R (A4 R) (dv R (A4 R) ?_))
   obtain ⟨u4,hu4,h⟩:=Ae h
   refine dv R (B8 (f:=(eL eU8)) S7 (fun _=>R) R R R R hu4) ?_
   refine dv R (B6 Mz R (.cp _) R) ?_
   obtain ⟨v5,hv5,h⟩:=Ae h
   refine dd R (Cy Al1 (Aa R (Aa R Af)) R (Ml hv5)) (dv R (Hz R R) (Zq (Ab (ccI h R (fun h=>?_) (fun h=>?_)))))
   ·refine csr (rm 1 R (Ak (Bs (Az (Ag (Ag (Az (Ag ?_))))))))
    obtain rfl:=SJ h
    obtain rfl:Sum.inl _=x2:=hk2
    replace ho2:some _=some _:=ho2
    obtain rfl:=zD ho2
    exact dnT R R R R
   ·refine Bf (Ap (Ab (Aq (rm 1 R (sv R (Bo R R) (rm 1 R (Ak ?_)))))))
    obtain rfl:=SJ h
    exact ⟨(n2,(wI (s2+1))),_,hk2,⟨R,R,trivial⟩,R,zG _⟩
  ·refine Da (As (As (Bj (Ab ?_))))
   obtain rfl:=SJ h
   obtain rfl:_=x2:=hk2
   exact ⟨(),_,ho2,trivial,R⟩
def Hy (a0:B2) (b1:Unit):Option Bool :=
 if (decide ((a0.L.length:Int)≤16)) then ((Ey a0).bind fun v2=>(Ck v2).bind fun v3=>some v3) else (some false)
def Fv (a0:B2) (s4:Int):Option (LR (Int) (Unit) (Bool)) :=
 if (decide (s4<(a0.L.length:Int))) then ((idx a0.L s4).bind fun u5=>(Cw u5).bind fun v6=>if (!v6) then (some (.ret false)) else (some (.cont (wI (s4+1))))) else (some (.brk ()))
def Fg (a0:B2):Option Bool :=
 (Lj (Fv a0) fuel 0).bind fun x=>match x with | .inl r=>some r | .inr e7=>Hy a0 e7
theorem Oq {a0:B2} {r:Bool} (h:Fg a0=some r):Br Tryz.prog 119 [.agg [.sl a0.L.length (a0.L.flatMap Ao)]] (·=.s (.one (.b r))):=by
 unfold Fg at h
 refine A5 Tryz.func119 R (nt:=25) R (Nbl R) ?_
 intro w0 S0
 refine csr (F4 R R (rm 1 R (Ak (Bl (csr (fl Xc Aot R R R R R R (sv R (Aw V5 R) (rm 1 R (Ak (cj (Unit) (fun b1=>[(1,.s (.one (.lp 0 0)))]) (fun b1=>[.box [.sl a0.L.length (a0.L.flatMap Ao)]]) (fun b1=>Hy a0 b1=some r) (fun _=>R) (fun b1 h=>?_) ?_))))))))))
 ·unfold Hy at h
  refine csr (fl Xc Aot R R R R R R (sv R (Aw V5 R) (sv R (De R R) (rm 1 R (ssI 20 h R (fun h=>?_) (fun h=>?_))))))
  ·refine son R R R (ld Ag4 R R R R (son R R R ?_))
   obtain ⟨v2,hv2,h⟩:=Ae h
   refine Ba R Aww (Aa R Af) (An R) (Qb hv2) (son R R R ?_)
   obtain ⟨v3,hv3,h⟩:=Ae h
   refine Ba R Aph (Aa R Af) (An R) (Lz hv3) (rm 2 R (Ak (Bs ?_)))
   obtain rfl:=SJ h
   exact dnT R R R R
  ·refine rm 5 R (Ak (Bs ?_))
   obtain rfl:=SJ h
   exact dnT R R R R
 ·skip
  refine Bq ?_
  obtain ⟨x4,hx4,ho4⟩:=Ae h
  refine lpo (G:=Nat × (Int)) (fun g=>[(1,.s (.one (.lp 0 0))),(6,.s (.one (.sl a0.L.length (a0.L.flatMap Ao)))),(7,.s (.one (Ii6 (a0.L.length:Int)))),(8,.s (.one (Ii6 g.2)))]) (fun g=>[.box [.sl a0.L.length (a0.L.flatMap Ao)]]) (fun g=>Lj (Fv a0) g.1 g.2=some x4) (fun g=>g.1) (fuel,0) hx4 ⟨R,R,R,R,trivial⟩ [] R (fun _=>R) ?_
  clear hx4 h
  rintro ⟨n4,s4⟩ h
  obtain ⟨n4,y4,rfl,h,hk4⟩:=Es h
  unfold Fv at h
  refine csr (sv R (Bt R R) (Ak (Bl (ccI h R (fun h=>?_) (fun h=>?_)))))
  ·refine Bf (Ab (Bl (Bq (Bl (Aq ?_)))))
   obtain ⟨u5,hu5,h⟩:=Ae h
   refine sv R (B8 (f:=Ao) V5 (fun _=>R) R R R R hu5) ?_
   refine sv R (Bz (ys:=[.sl u5.Key.length (u5.Key.flatMap eU8),.sl u5.Val.length (u5.Val.flatMap eU8),.b u5.Del]) Ady R (.cp _) R R) (Bp R Ajk (sst Al2 R R R R R (Ak (csr (sv R (lo Ady R R R) ?_)))))
   obtain ⟨v6,hv6,h⟩:=Ae h
   refine Ba R Awu (Aa R Af) (An R) (On hv6) (sv R (B0 R) (Ak (ccI h R (fun h=>?_) (fun h=>?_))))
   ·refine csr (rm 1 R (Ak (Bs (Az (Ag (Ag (Az (Ag ?_))))))))
    obtain rfl:=SJ h
    obtain rfl:Sum.inl _=x4:=hk4
    replace ho4:some _=some _:=ho4
    obtain rfl:=zD ho4
    exact dnT R R R R
   ·refine Bf (Ap (Ab (Aq (sv R (Bo R R) (rm 1 R (Ak ?_))))))
    obtain rfl:=SJ h
    exact ⟨(n4,(wI (s4+1))),_,hk4,⟨R,R,R,R,trivial⟩,R,zG _⟩
  ·refine Da (As (As (Bj (Ab ?_))))
   obtain rfl:=SJ h
   obtain rfl:_=x4:=hk4
   exact ⟨(),_,ho4,⟨R,trivial⟩,R⟩
def Dt (b1:(List (List UInt8))):Option Bool :=
 (Ck b1).bind fun v2=>some v2
def Dr (a0:List B3) (s3:Int × (List (List UInt8))):Option (LB (Int × (List (List UInt8))) ((List (List UInt8)))) :=
 if (decide (s3.1<(a0.length:Int))) then ((idx a0 s3.1).bind fun u4=>if (s3.2.length+[u4.Key].length)*24≤140737488355328 then (some (.cont ((wI (s3.1+1)),(s3.2++[u4.Key])))) else none) else (some (.brk s3.2))
def Fs (a0:List B3):Option Bool :=
 (Ct (Dr a0) fuel (0,([]:List (List UInt8)))).bind fun e6=>Dt e6
theorem V3 {a0:List B3} {r:Bool} (h:Fs a0=some r):Br Tryz.prog 120 [.one (.sl a0.length (a0.flatMap B7))] (·=.s (.one (.b r))):=by
 unfold Fs at h
 refine A5 Tryz.func120 R (nt:=20) R (Nbl R) ?_
 intro w0 S0
 refine csr (rm 1 R (Ak (csr (rm 1 R (Ak (Bl (csr (rm 1 R (sv R (Aw Ahz R) (rm 1 R (Ak ?_)))))))))))
 refine C6 56 1 3 (by decide) R ?_
 refine cj ((List (List UInt8))) (fun b1=>[(3,.s (.one (.ls 0 b1.length)))]) (fun b1=>[.arr 56 1 0 (b1.flatMap (eL eU8))]) (fun b1=>Dt b1=some r) (fun _=>R) (fun b1 h=>?_) ?_
 ·unfold Dt at h
  refine csr (sv R (A4 R) ?_)
  refine Ah4 18 R (by (repeat' first | exact Ic.nil _ | apply Ic.cons | apply H6.one | apply H6.agg | exact Cz.nil | exact Cz.ls _ _ _ _ _ _ R (Au (f:=(eL eU8)) (fun _=>R) _).symm | exact Cz.id _ R | exact Co.nil _ | apply Co.cons)) ?_
  obtain ⟨v2,hv2,h⟩:=Ae h
  refine Ba R Aph (Aa R Af) (An R) (Lz hv2) (rm 1 R (Ak (Bs ?_)))
  obtain rfl:=SJ h
  exact dnT R R R R
 ·skip
  refine Bq ?_
  obtain ⟨x3,hx3,ho3⟩:=Ae h
  refine lpo (G:=Nat × (Int × (List (List UInt8)))) (fun g=>[(3,.s (.one (.ls 0 g.2.2.length))),(6,.s (.one (.sl a0.length (a0.flatMap B7)))),(7,.s (.one (Ii6 (a0.length:Int)))),(8,.s (.one (Ii6 g.2.1)))]) (fun g=>[.arr 56 1 0 (g.2.2.flatMap (eL eU8))]) (fun g=>Ct (Dr a0) g.1 g.2=some x3) (fun g=>g.1) (fuel,(0,([]:List (List UInt8)))) hx3 ⟨R,R,R,R,trivial⟩ [] R (fun _=>R) ?_
  clear hx3 h
  rintro ⟨n3,s3⟩ h
  obtain ⟨n3,y3,rfl,h,hk3⟩:=Cu h
  unfold Dr at h
  refine csr (sv R (Bt R R) (Ak (Bl (ccI h R (fun h=>?_) (fun h=>?_)))))
  ·refine Bf (Ab (Bl (Bq (Bl (Aq ?_)))))
   obtain ⟨u4,hu4,h⟩:=Ae h
   refine sv R (B8 (f:=B7) Ahz (fun _=>R) R R R R hu4) ?_
   refine sv R (Bz (ys:=[.sl u4.Key.length (u4.Key.flatMap eU8),.sl u4.Val.length (u4.Val.flatMap eU8)]) Aqf R (.cp _) R R) (Bp R Ang (sst Ar3 R R R R R (Ak (Aq (rm 1 R (sv R (Ac Aaf R) (sv R (l1 Mz R R R) ?_)))))))
   refine Fo R Tryz.underlying25 Af4 R R (zJ.1 R) (by decide) ?_
   refine Pz [.arr 56 1 0 (s3.2.flatMap (eL eU8)),.box (EL.el u4),.arr 56 1 0 ([u4.Key].flatMap (eL eU8))] R ?_
   obtain ⟨hb5,h⟩:=Cp h
   refine Tr (f:=(eL eU8)) (xs:=s3.2) (us:=[u4.Key]) R Tryz.underlying25 Af4 Ase (fun _=>R) R R (.one _ _ _ _ (.ls _ _ _ _ _ _ R (Au (f:=(eL eU8)) (fun _=>R) [u4.Key]).symm)) R R R (.sl _ _ _ (Au (f:=(eL eU8)) (fun _=>R) _)) R R hb5 (by decide) ?_
   refine rm 1 R (Kz (Ap (Ab (Aq (sv R (Bo R R) (rm 1 R (Ak ?_)))))))
   obtain rfl:=SJ h
   exact ⟨(n3,((wI (s3.1+1)),(s3.2++[u4.Key]))),_,hk3,⟨R,R,R,R,trivial⟩,R,zG _⟩
  ·refine Da (As (As (Bj (Ab ?_))))
   obtain rfl:=SJ h
   obtain rfl:_=x3:=hk3
   exact ⟨s3.2,_,ho3,⟨R,trivial⟩,R⟩
def G8 (a0:Bg) (a1:List UInt8):Option Bool :=
 (I4 a1 a0.Lo).bind fun v1=>if (decide (0≤v1)) then (if a0.Open then (some true) else ((I4 a1 a0.Hi).bind fun v2=>some (decide (v2<0)))) else (some false)
theorem Mj {a0:Bg} {a1:List UInt8} {r:Bool} (h:G8 a0 a1=some r):Br Tryz.prog 121 [.agg (EL.el a0),.one (.sl a1.length (a1.flatMap eU8))] (·=.s (.one (.b r))):=by
 unfold G8 at h
 refine A5 Tryz.func121 R (nt:=21) R (Nbl R) ?_
 intro w0 S0
 refine csr (F4 R R (rm 1 R (Ak (csr (rm 1 R (sv R (Ac Abg R) (sv R (l1 Mz R R R) ?_)))))))
 obtain ⟨v1,hv1,h⟩:=Ae h
 refine Ba R Al1 (Aa R (Aa R Af)) (An R) (Ml hv1) (sv R (Hz R R) (rm 1 R (ssI 10 h R (fun h=>?_) (fun h=>?_))))
 ·refine son R R R (sv R (Ac Ai8 R) (son R R R (sv R (l1 ti4 R R R) (rm 1 R (ssI 13 h R (fun h=>?_) (fun h=>?_))))))
  ·refine rm 8 R (Ak (Bs ?_))
   obtain rfl:=SJ h
   exact dnT R R R R
  ·refine rm 1 R (son R R R (sv R (Ac Yl R) (son R R R (sv R (l1 Mz R R R) (son R R R ?_)))))
   obtain ⟨v2,hv2,h⟩:=Ae h
   refine Ba R Al1 (Aa R (Aa R Af)) (An R) (Ml hv2) (son R R R (sv R (Bt R R) (rm 3 R (Ak (Bs ?_)))))
   obtain rfl:=SJ h
   exact dnT R R R R
 ·refine rm 3 R (Ch R R R (Ch R R R (Ch R R R (Ch R R R (Ch R R R (rm 3 R (Ak (Bs ?_))))))))
  obtain rfl:=SJ h
  exact dnT R R R R
def kvk (x:B3):List UInt8:=x.Key
def kB (x:B3):ByteArray:=⟨x.Key.toArray⟩
theorem Adz {t:List B3} {j:Nat} {k:List UInt8} (h:(t.map kB)[j]? = some ⟨k.toArray⟩):(t.map kvk)[j]? = some k:=by
 rw [zQ] at h ⊢
 cases ht:t[j]? with
 | none=>rw [ht] at h;cases h
 | some x =>
  rw [ht] at h
  have h1:(⟨x.Key.toArray⟩:ByteArray)=⟨k.toArray⟩:=zD h
  have h2:x.Key.toArray=k.toArray:=congrArg ByteArray.data h1
  have h3:x.Key=k:=by have:=congrArg Array.toList h2;simpa using this
  rw [yY];exact congrArg some h3
theorem Aoa {t:List B3} {k:List UInt8} (h:(⟨k.toArray⟩:ByteArray) ∉ t.map kB):k ∉ t.map kvk:=fun hk=>by
 obtain ⟨x,hx,rfl⟩:=yP.1 hk
 exact h (yP.2 ⟨x,hx,R⟩)
theorem Arh {t:List B3} {j:Nat} {x:B3} (h:(t.map kvk)[j]? = some (kvk x)):(t.set j x).map kB=t.map kB:=by
 rw [kJ]
 apply wB
 intro i
 rw [w9]
 by_cases hij:j=i
 ·subst hij
  rw [zQ] at h ⊢
  cases ht:t[j]? with
  | none=>rw [ht] at h;cases h
  | some y =>
   rw [ht] at h
   have h2:y.Key=x.Key:=zD h
   have hlt:j<t.length:=(zC.1 ht).1
   rw [if_pos rfl,if_pos (by simpa using hlt),yY]
   show some (ByteArray.mk x.Key.toArray)=some (ByteArray.mk y.Key.toArray)
   rw [h2]
 ·rw [if_neg hij]
theorem Av8 {W:World} {S:Cg} {a b:List UInt8} {va vb:Value} (h1:Rep W S (.sl a.length (a.flatMap eU8)) va) (h2:Rep W S (.sl b.length (b.flatMap eU8)) vb):(callFunc 259 #[va,vb]).run Tryz.prog W=.ok (.value (.int .i64 (Gg a b))) W:=by
 rw [← Alv] at h1 h2
 obtain ⟨fn,q1,q2,q3,q4,q5⟩:=Avw.h
 have hrun:(Extern.BytealgCompare.compare #[va,vb]).run Tryz.prog W=.ok (.int .i64 (Gg a b)) W:=by
  change Sem.run Tryz.prog (do
   let p ← Extern.Bytes.bytesOf va
   let q ← Extern.Bytes.bytesOf vb
   pure (goInt (Extern.BytealgCompare.cmp p q))) W=_
  simp only [Sem.run_bind,S4 h1,S4 h2,Result.andThen_ok,Arn,Sem.run_pure]
  rfl
 have hcall:=run_callFunc_extern (P:=Tryz.prog) q1 q2 q3 q4 q5 #[va,vb] W
 rw [hrun] at hcall
 simpa using hcall
theorem Atg {W:World} {S:Cg} {a b:List UInt8} {va vb:Value} (h1:Rep W S (.sl a.length (a.flatMap eU8)) va) (h2:Rep W S (.sl b.length (b.flatMap eU8)) vb):Calls Tryz.prog 219 #[va,vb] W fun e w'=>e=.returned (.int .i64 (Gg a b))∧w'=W:=by
 have hx:=Av8 h1 h2
 generalize Gg a b=r at hx ⊢
 clear h1 h2
 go_enter Tryz.func219,Tryz.ntmps219
 go_wp2
 go_ret
 exact ⟨R,R⟩
theorem Asd {W:World} {S:Cg} {a b:List UInt8} {va vb:Value} (h1:Rep W S (.sl a.length (a.flatMap eU8)) va) (h2:Rep W S (.sl b.length (b.flatMap eU8)) vb):Calls Tryz.prog 150 #[va,vb] W fun e w'=>e=.returned (.int .i64 (Gg a b))∧w'=W:=by
 have hcon:=Atg h1 h2
 generalize Gg a b=r at hcon ⊢
 clear h1 h2
 go_enter Tryz.func150,Tryz.ntmps150
 go_wp2_with (go_at_call 219;refine hcon.mono ?_;rintro e w' ⟨rfl,rfl⟩)
 go_ret
 exact ⟨R,R⟩
set_option maxHeartbeats 1000000 in
theorem Avg {W:World} {S:Cg} {a b:List UInt8} {va vb ua ub:Value} (hS:∀ b i,S b i→b<W.heap.size) (h1:Rep W S (.sl a.length (a.flatMap eU8)) va) (h2:Rep W S (.sl b.length (b.flatMap eU8)) vb) (oc:ua.oneCell'=true) (od:ub.oneCell'=true) :
  Calls Tryz.prog 123 #[.agg #[va,ua],.agg #[vb,ub]] W fun e w'=>e=.returned (.int .i64 (Gg a b))∧∃ q os',w'=Go.Sort.grow (W.drewN q) os':=by
 have oa:=h1.oneCell
 have ob:=h2.oneCell
 have hcon:∀ o1 o2:Obj,Calls Tryz.prog 150 #[va,vb] ((W.alloc o1).alloc o2) fun e w'=>e=.returned (.int .i64 (Gg a b))∧w'=(W.alloc o1).alloc o2:=fun o1 o2=>by
  have k1:∀ b i,S b i→S b i∧((W.alloc o1).alloc o2).cell? ⟨b,i,none⟩=W.cell? ⟨b,i,none⟩:=fun b i hs =>
   ⟨hs,World.cell?_of_block (w:=W) ((Below.heap_alloc _ o2 b (by have:=hS b i hs;simp;omega)).trans (Below.heap_alloc W o1 b (hS b i hs)))⟩
  exact Asd (h1.mono k1) (h2.mono k1)
 generalize Gg a b=r at hcon ⊢
 clear h1 h2
 go_enter Tryz.func123,Tryz.ntmps123
 go_wp2_with (go_at_call 150;refine (hcon _ _).mono ?_;rintro e w' ⟨rfl,rfl⟩)
 go_ret
 exact ⟨rfl,0,_,by rw [Go.Sort.alloc_eq_grow,Go.Sort.alloc_eq_grow,Go.Sort.grow_grow];rfl⟩
def Aba:Go.Shelf.Ren:=⟨fun | 6=>122 | 15=>191 | 14=>190 | 28=>246 | 29=>247 | 20=>238 | 21=>239 | 22=>240 | 23=>241 | 24=>242 | 25=>243 | 26=>244 | 27=>245 | 46=>262 | 47=>263 | 48=>264 | 49=>265 | 50=>266 | 57=>277 | n=>n,fun | 22=>61 | 24=>157 | 25=>235 | 3=>3 | 39=>307 | 0=>0 | 53=>365 | 55=>367 | 4=>4 | 46=>359 | 45=>358 | 50=>177 | 5=>5 | 9=>9 | 66=>389 | 70=>393 | 76=>404 | 77=>405 | n=>n,fun | n=>n⟩
theorem Aup:Go.Proofs.SlLaysF0.n6 Tryz.prog Aba:={
 mixed:=by kernel_rfl,
 f6 :=⟨ "slices.SortFunc[[]godwit/api.KV,godwit/api.KV]", by decide, Tryz.func122.trans (congrArg some (by kernel_rfl))⟩,
 f14 :=⟨ "slices.pdqsortCmpFunc[godwit/api.KV]", by decide, Tryz.func190.trans (congrArg some (by kernel_rfl))⟩,
 f15:=Tryz.func191.trans (congrArg some (by kernel_rfl)),
 f20 :=⟨ "slices.insertionSortCmpFunc[godwit/api.KV]", by decide, Tryz.func238.trans (congrArg some (by kernel_rfl))⟩,
 f21 :=⟨ "slices.heapSortCmpFunc[godwit/api.KV]", by decide, Tryz.func239.trans (congrArg some (by kernel_rfl))⟩,
 f22 :=⟨ "slices.breakPatternsCmpFunc[godwit/api.KV]", by decide, Tryz.func240.trans (congrArg some (by kernel_rfl))⟩,
 f23 :=⟨ "slices.choosePivotCmpFunc[godwit/api.KV]", by decide, Tryz.func241.trans (congrArg some (by kernel_rfl))⟩,
 f24 :=⟨ "slices.reverseRangeCmpFunc[godwit/api.KV]", by decide, Tryz.func242.trans (congrArg some (by kernel_rfl))⟩,
 f25 :=⟨ "slices.partialInsertionSortCmpFunc[godwit/api.KV]", by decide, Tryz.func243.trans (congrArg some (by kernel_rfl))⟩,
 f26 :=⟨ "slices.partitionEqualCmpFunc[godwit/api.KV]", by decide, Tryz.func244.trans (congrArg some (by kernel_rfl))⟩,
 f27 :=⟨ "slices.partitionCmpFunc[godwit/api.KV]", by decide, Tryz.func245.trans (congrArg some (by kernel_rfl))⟩,
 f28:=Tryz.func246.trans (congrArg some (by kernel_rfl)),
 f29:=Tryz.func247.trans (congrArg some (by kernel_rfl)),
 f46 :=⟨ "slices.siftDownCmpFunc[godwit/api.KV]", by decide, Tryz.func262.trans (congrArg some (by kernel_rfl))⟩,
 f47:=Tryz.func263.trans (congrArg some (by kernel_rfl)),
 f48:=Tryz.func264.trans (congrArg some (by kernel_rfl)),
 f49 :=⟨ "slices.medianAdjacentCmpFunc[godwit/api.KV]", by decide, Tryz.func265.trans (congrArg some (by kernel_rfl))⟩,
 f50 :=⟨ "slices.medianCmpFunc[godwit/api.KV]", by decide, Tryz.func266.trans (congrArg some (by kernel_rfl))⟩,
 f57 :=⟨ "slices.order2CmpFunc[godwit/api.KV]", by decide, Tryz.func277.trans (congrArg some (by kernel_rfl))⟩,
 t0:=Tryz.underlying0,
 a0:=Tryz.isAgg0,
 z0:=Tryz.sizeOf0,
 v0:=Tryz.zeroValue0,
 t3:=Tryz.underlying3,
 a3:=Tryz.isAgg3,
 z3:=Tryz.sizeOf3,
 v3:=Tryz.zeroValue3,
 t4:=Tryz.underlying4,
 a4:=Tryz.isAgg4,
 z4:=Tryz.sizeOf4,
 v4:=Tryz.zeroValue4,
 t5:=Tryz.underlying5,
 a5:=Tryz.isAgg5,
 z5:=Tryz.sizeOf5,
 v5:=Tryz.zeroValue5,
 t9:=Tryz.underlying9,
 a9:=Tryz.isAgg9,
 z9:=Tryz.sizeOf9,
 v9:=Tryz.zeroValue9,
 t22:=Tryz.underlying61,
 a22:=Tryz.isAgg61,
 z22:=Tryz.sizeOf61,
 v22:=Tryz.zeroValue61,
 t25:=Tryz.underlying235,
 a25:=Tryz.isAgg235,
 z25:=Tryz.sizeOf235,
 v25:=Tryz.zeroValue235,
 t39:=Tryz.underlying307,
 a39:=Tryz.isAgg307,
 z39:=Tryz.sizeOf307,
 v39:=Tryz.zeroValue307,
 t45:=Tryz.underlying358,
 a45:=Tryz.isAgg358,
 z45:=Tryz.sizeOf358,
 v45:=Tryz.zeroValue358,
 t46:=Tryz.underlying359,
 a46:=Tryz.isAgg359,
 z46:=Tryz.sizeOf359,
 v46:=Tryz.zeroValue359,
 t50:=Tryz.underlying177,
 a50:=Tryz.isAgg177,
 z50:=Tryz.sizeOf177,
 v50:=Tryz.zeroValue177,
 t53:=Tryz.underlying365,
 a53:=Tryz.isAgg365,
 z53:=Tryz.sizeOf365,
 v53:=Tryz.zeroValue365,
 t55:=Tryz.underlying367,
 a55:=Tryz.isAgg367,
 z55:=Tryz.sizeOf367,
 v55:=Tryz.zeroValue367,
 t66:=Tryz.underlying389,
 a66:=Tryz.isAgg389,
 z66:=Tryz.sizeOf389,
 v66:=Tryz.zeroValue389,
 t70:=Tryz.underlying393,
 a70:=Tryz.isAgg393,
 z70:=Tryz.sizeOf393,
 v70:=Tryz.zeroValue393,
 t76:=Tryz.underlying404,
 a76:=Tryz.isAgg404,
 z76:=Tryz.sizeOf404,
 v76:=Tryz.zeroValue404,
 t77:=Tryz.underlying405,
 a77:=Tryz.isAgg405,
 z77:=Tryz.sizeOf405,
 v77:=Tryz.zeroValue405 }
theorem Ams {xs:List B3} (hn:xs.length≤1000000000000000000) (hd:Pk kvk xs):Dl Tryz.prog 122 [.arr 157 2 0 (xs.flatMap B7)] [.one (.ls 0 xs.length),.one (.raw (.func (.func 123) #[] #[]))] (fun y m'=>y=.tup []∧m'=[.arr 157 2 0 ((Adh kvk xs).flatMap B7)]) :=
 Auh (ρ:=Aba) (f:=B7) (g:=123) Aup (fun a b=>Gg (kvk a) (kvk b)) (fun _=>rfl) (by decide) Tryz.isAgg157 Tryz.sizeOf157 A1t (enters_of Tryz.func123 (by kernel_rfl) rfl) (fun W S x y vx vy hS hx hy=>by
  obtain ⟨v0,u0,rfl⟩:∃ v0 u0,vx=[v0,u0]:=by
   match vx,hx.1 with
   | [a,b],_=>exact ⟨a,b,rfl⟩
  obtain ⟨v1,u1,rfl⟩:∃ v1 u1,vy=[v1,u1]:=by
   match vy,hy.1 with
   | [a,b],_=>exact ⟨a,b,rfl⟩
  exact Avg hS (hx.2 0 _ _ R R) (hy.2 0 _ _ R R) (hx.2 1 _ _ R R).oneCell (hy.2 1 _ _ R R).oneCell) hn (Aj1 hd)
def Z1 (a1:List B3) (a2:Bg) (s:Int × List B3):Option (LB (Int × List B3) (List B3)) :=
 if decide (s.1<(a1.length:Int)) then ((idx a1 s.1).bind fun u=>(G8 a2 u.Key).bind fun v=>some (.cont (wI (s.1+1),if v then Sa kvk s.2 u else s.2))) else some (.brk s.2)
def Z9 (a0:B2) (a2:Bg) (s:Int × List B3):Option (LB (Int × List B3) (List B3)) :=
 if decide (s.1<(a0.L.length:Int)) then ((idx a0.L s.1).bind fun u=>if u.Del then some (.cont (wI (s.1+1),Ab4 kvk s.2 u.Key)) else (G8 a2 u.Key).bind fun v=>some (.cont (wI (s.1+1),if v then Sa kvk s.2 ⟨u.Key,u.Val⟩ else s.2))) else some (.brk s.2)
def Aif (a3:Int) (t:List B3):Option (List B3) :=
 if t.length*48≤140737488355328 then cut (Adh kvk t) 0 (if a3<((Adh kvk t).length:Int) then a3 else ((Adh kvk t).length:Int)) else none
def Air (a0:B2) (a2:Bg) (a3:Int) (t:List B3):Option (List B3):=(Ct (Z9 a0 a2) fuel (0,t)).bind fun t2=>Aif a3 t2
def Ga (a0:B2) (a1:List B3) (a2:Bg) (a3:Int):Option (List B3) :=
 (Fg a0).bind fun v1=>if !v1 then some [] else (Fs a1).bind fun v2=>if !v2 then some [] else if decide (a3<1) then some [] else (Ct (Z1 a1 a2) fuel (0,[])).bind fun t1=>Air a0 a2 a3 t1
theorem X3 {a0:B2} {a1:List B3} {a2:Bg} {a3:Int} {r:List B3} (h:Ga a0 a1 a2 a3=some r) :
  Br Tryz.prog 52 [.agg [.sl a0.L.length (a0.L.flatMap Ao)],.one (.sl a1.length (a1.flatMap B7)),.agg (EL.el a2),.one (Ii6 a3)] (·=.s (.one (.sl r.length (r.flatMap B7)))):=by
 unfold Ga at h
 refine A5 Tryz.func52 R (nt:=91) R (Nbl R) ?_
 intro w0 S0
 refine csr (F4 R R (F4 R R (rm 1 R (Ak (Bl (csr (sv R (lo Ag4 R R R) ?_)))))))
 obtain ⟨v1,hv1,h⟩:=Ae h
 refine Ba R Ary (Aa R Af) (An R) (Oq hv1) (sv R (B0 R) (rm 1 R (Alk 20 R (fun hc=>?_) (fun hc=>?_))))
 ·replace h:=Su hc h
  clear hc
  refine rm 8 R (Ak (Ci R (fun hc=>?_) (fun hc=>nomatch hc)))
  refine csr (rm 1 R (Ak (Bs (Ag ?_))))
  obtain rfl:=SJ h
  exact dn (Ad (rt R) Ai) (Ip R) R
 replace h:=S6 hc h
 clear hc
 refine rm 1 R (son R R R ?_)
 obtain ⟨v2,hv2,h⟩:=Ae h
 refine Ba R Ayy (Aa R Af) (An R) (V3 hv2) (son R R R (sv R (B0 R) (rm 2 R (Alk 25 R (fun hc=>?_) (fun hc=>?_)))))
 ·replace h:=Su hc h
  clear hc
  refine rm 3 R (Ak (Ci R (fun hc=>?_) (fun hc=>nomatch hc)))
  refine csr (rm 1 R (Ak (Bs (Ag ?_))))
  obtain rfl:=SJ h
  exact dn (Ad (rt R) Ai) (Ip R) R
 replace h:=S6 hc h
 clear hc
 refine rm 1 R (son R R R (sv R (Bt R R) (rm 1 R (Ak (Ci R (fun hc=>?_) (fun hc=>?_))))))
 ·replace h:=Su hc h
  refine csr (rm 1 R (Ak (Bs (Ag ?_))))
  obtain rfl:=SJ h
  exact dn (Ad (rt R) Ai) (Ip R) R
 replace h:=S6 hc h
 clear hc
 refine Bf (Ab (csr (Apw Vh R (fun g=>?_))))
 refine rm 1 R (Ak (Bl (csr (rm 1 R (sv R (Aw Ahz R) (rm 1 R (Ak (cj (List B3 × List B3) (fun _=>[(4,.s (.one (.lp 0 0))),(6,.s (.one (.lp 1 0))),(3,.s (.one (Ii6 a3))),(9,.s (.one (.raw (.map (some g)))))]) (fun b=>[.box [.sl a0.L.length (a0.L.flatMap Ao)],.box (EL.el a2),.obj g (Mr Vh ((b.2.map kB).map .string)) (b.2.map B7)]) (fun b=>b.2.Perm b.1∧Pk kvk b.2∧Air a0 a2 a3 b.1=some r) (fun _=>R) (fun b h=>?_) ?_))))))))
 ·obtain ⟨t1,t1'⟩:=b
  obtain ⟨hp1,hd1,h⟩:=h
  dsimp only at hp1 hd1 h
  unfold Air at h
  refine Bl (csr (fl Xc Aot R R R R R R (sv R (Aw V5 R) (rm 1 R (Ak (cj (List B3 × List B3) (fun _=>[(3,.s (.one (Ii6 a3))),(9,.s (.one (.raw (.map (some g)))))]) (fun b=>[.box [.sl a0.L.length (a0.L.flatMap Ao)],.box (EL.el a2),.obj g (Mr Vh ((b.2.map kB).map .string)) (b.2.map B7)]) (fun b=>b.2.Perm b.1∧Pk kvk b.2∧Aif a3 b.1=some r) (fun _=>R) (fun b h=>?_) ?_))))))
  ·obtain ⟨t2,t2'⟩:=b
   obtain ⟨hp2,hd2,h⟩:=h
   dsimp only at hp2 hd2 h
   unfold Aif at h
   obtain ⟨hb2,h⟩:=Cp h
   have hb2':t2'.length*48≤140737488355328:=by rw [hp2.length_eq];exact hb2
   refine csr (rm 1 R (Ak (Bl (csr (rm 1 R (An7 (p:=2) R Tryz.underlying233 R R (fun es clock q hst hks hsz=>?_)))))))
   refine Ak ?_
   refine C6 157 2 14 (by decide) R ?_
   have hes:es.size=t2'.length:=by rw [hsz,z8]
   obtain ⟨hs1,hs2,_⟩:=(Go.MapKept.stamped_iff es clock).1 hst
   refine cj (Array Nat × List B3) (fun b=>[(3,.s (.one (Ii6 a3))),(14,.s (.one (.ls 4 b.2.length)))]) (fun b=>[.box [.sl a0.L.length (a0.L.flatMap Ao)],.box (EL.el a2),.obj g (Aeu Vh es clock) (t2'.map B7),.obj q (Akz g clock b.1 clock) [],.arr 157 2 0 (b.2.flatMap B7)]) (fun b=>b.2.Perm t2') (fun _=>R) (fun b hpo=>?_) ?_
   ·obtain ⟨seen,out⟩:=b
    dsimp only at hpo
    have hol:out.length=t2'.length:=hpo.length_eq
    have hdo:Pk kvk out:=(Pk.perm hpo).2 hd2
    have he:Adh kvk out=Adh kvk t2:=Ajs (hpo.trans hp2) hdo
    have hlen:(Adh kvk out).length=out.length:=(L9 out).length_eq
    have hlen2:out.length*2=((Adh kvk out).flatMap B7).length:=by rw [← hlen];exact (Au (f:=B7) (fun _=>rfl) _).symm
    rw [← he,hlen] at h
    refine csr (sv R (A4 R) ?_)
    refine Ie (x':=.tup []) (M':=[.box [.sl a0.L.length (a0.L.flatMap Ao)],.box (EL.el a2),.obj g (Aeu Vh es clock) (t2'.map B7),.obj q (Akz g clock seen clock) [],.arr 157 2 0 ((Adh kvk out).flatMap B7)]) [4] R Azz (.func _) (Aa R (Aa R Af)) (Ams (xs:=out) (by omega) hdo) R R (by decide) R R R ?_
    refine Ak (csr (rm 2 R (sv R (Fu Ahz R R hlen2) (rm 1 R (sv R (Ags R R) (Ah4 85 R (H6.one _ _ _ _ (Cz.ls _ _ _ _ _ _ R hlen2)) (sv R (X2 (f:=B7) (lo:=0) (hi:=(if a3<(out.length:Int) then a3 else (out.length:Int))) Ahz (fun _=>R) R R hlen.symm Up (Ql R (Int.le_trans (T6 h).1.1 (T6 h).1.2.1)) h) ?_)))))))
    refine rm 1 R (Ak (Bs (⟨Or.inr R,_,_,_,(Ad (rt R) Ai),(An R),?_⟩)))
    rfl
   ·refine Bq ?_
    refine lpo (G:=Array Nat × List Nat) (fun b=>[(3,.s (.one (Ii6 a3))),(14,.s (.one (.ls 4 (b.2.filterMap (t2'[·]?)).length))),(74,.s (.one (.raw (.pointer (some ⟨q,0,none⟩)))))]) (fun b=>[.box [.sl a0.L.length (a0.L.flatMap Ao)],.box (EL.el a2),.obj g (Aeu Vh es clock) (t2'.map B7),.obj q (Akz g clock b.1 clock) [],.arr 157 2 0 ((b.2.filterMap (t2'[·]?)).flatMap B7)]) (fun b=>b.2.Nodup∧(∀ j ∈ b.2,j<t2'.length)∧(∀ (j:Nat) e,es[j]? = some e→(b.1.contains e.born=true ↔ j ∈ b.2))∧b.2.length+(leftOf es b.1).size≤es.size) (fun b=>(leftOf es b.1).size) (#[],[]) ⟨w6,fun j hj=>by simp at hj,fun j e _=>⟨fun h=>by simp at h,fun h=>by simp at h⟩,by show 0+(leftOf es #[]).size≤es.size;rw [yH];exact Array.size_filter_le ..⟩ ⟨R,R,R,trivial⟩ [] R (fun _=>R) ?_
    rintro ⟨seen,picks⟩ ⟨hnd,hlt,hsn,hmu⟩
    dsimp only at hnd hlt hsn hmu
    refine csr (Ap5 (p:=2) (pi:=3) (ss:=t2'.map kB) R R R R hs1 (zN _) hks (fun h0=>?_) (fun j e s cs hj he hs hcs=>?_))
    ·refine sv R (Aj R R) (Ak (Bl (Ci R (fun hc=>nomatch hc) (fun _=>?_))))
     refine Da (As (As (Bj (Ab (⟨(seen,picks.filterMap (t2'[·]?)),_,?_,⟨R,R,trivial⟩,R⟩)))))
     refine Ajp hnd hlt fun j hj=>?_
     have hj':j<es.size:=by rw [hes];exact hj
     exact (hsn j es[j] (zP hj')).1 (all_seen es seen h0 _ (by simp))
    ·obtain ⟨x,hx,rfl⟩:∃ x,t2'[j]? = some x∧cs=B7 x:=by
      rw [zQ] at hcs
      cases hx:t2'[j]? with
      | none=>rw [hx] at hcs;cases hcs
      | some x=>rw [hx] at hcs;exact ⟨x,rfl,(zD hcs).symm⟩
     have hns:=(mem_left he).2
     have hjn:j ∉ picks:=fun h=>by rw [(hsn j e hj).2 h] at hns;cases hns
     have hsh:=left_shrinks es seen e he
     have hpl:(picks.filterMap (t2'[·]?)).length≤picks.length:=List.length_filterMap_le ..
     refine sv R (Aj R R) (Ak (Bl (Ci R (fun _=>?_) (fun hc=>nomatch hc))))
     refine Bf (Ab (Bq (Bl (Aq ?_))))
     refine Ani (p:=2) (pi:=3) (j:=j) rfl rfl rfl rfl hs2 hks hj hs (by rw [zQ,hx];rfl) ?_
     refine sv R (Aj R R) (Bp R Ang (sst Ar3 R R R R R (Ak (Aq (rm 1 R (sv R (lo Aqf R R R) ?_))))))
     refine Fo R Tryz.underlying61 Apo R R (zJ.1 R) (by decide) ?_
     refine Pz [.box [.sl a0.L.length (a0.L.flatMap Ao)],.box (EL.el a2),.obj g (Aeu Vh es clock) (t2'.map B7),.obj q (Akz g clock (seen.push e.born) clock) [],.arr 157 2 0 ((picks.filterMap (t2'[·]?)).flatMap B7),.box (EL.el x),.arr 157 2 0 ([x].flatMap B7)] R ?_
     refine Tr (f:=B7) (xs:=picks.filterMap (t2'[·]?)) (us:=[x]) R Tryz.underlying61 Apo Az7 (fun _=>R) R R (.one _ _ _ _ (.ls _ _ _ _ _ _ R (Au (f:=B7) (fun _=>R) [x]).symm)) R R R (.sl _ _ _ (Au (f:=B7) (fun _=>R) _)) R R (by rw [yE];omega) (by decide) ?_
     refine rm 1 R (Kz (Ap ?_))
     have hfm:(picks++[j]).filterMap (t2'[·]?)=picks.filterMap (t2'[·]?)++[x]:=by
      rw [List.filterMap_append]
      simp [hx]
     refine ⟨(seen.push e.born,picks++[j]),_,⟨?_,?_,?_,?_⟩,⟨rfl,by show _=AV.s (.one (.ls 4 ((picks++[j]).filterMap (t2'[·]?)).length));rw [hfm];rfl,rfl,trivial⟩,by show _=[_,_,_,_,Blk.arr 157 2 0 (((picks++[j]).filterMap (t2'[·]?)).flatMap B7)]++_;rw [hfm];rfl,hsh⟩
     ·rw [jZ]
      exact ⟨hnd,by simp,fun a ha b hb=>by rw [zW.1 hb];exact fun e=>hjn (e ▸ ha)⟩
     ·intro k hk
      rcases yL.1 hk with hk | hk
      ·exact hlt k hk
      ·rw [zW.1 hk];exact (zC.1 hx).1
     ·intro k e' hk
      rw [yL,zW,← Ar7 hs2 hk hj,← hsn k e' hk];simp [or_comm]
     ·rw [zH,yE]
      have:(leftOf es (seen.push e.born)).size+1≤(leftOf es seen).size:=hsh
      dsimp only
      omega
  ·refine Bq ?_
   obtain ⟨x2,hx2,ho2⟩:=Ae h
   refine lpo (G:=Nat × (Int × List B3) × List B3) (fun q=>[(6,.s (.one (.lp 1 0))),(3,.s (.one (Ii6 a3))),(9,.s (.one (.raw (.map (some g))))),(47,.s (.one (.sl a0.L.length (a0.L.flatMap Ao)))),(48,.s (.one (Ii6 (a0.L.length:Int)))),(49,.s (.one (Ii6 q.2.1.1)))]) (fun q=>[.box [.sl a0.L.length (a0.L.flatMap Ao)],.box (EL.el a2),.obj g (Mr Vh ((q.2.2.map kB).map .string)) (q.2.2.map B7)]) (fun q=>Ct (Z9 a0 a2) q.1 q.2.1=some x2∧q.2.2.Perm q.2.1.2∧Pk kvk q.2.2) (fun q=>q.1) (fuel,(0,t1),t1') ⟨hx2,hp1,hd1⟩ ⟨R,R,R,R,R,R,trivial⟩ [] R (fun _=>R) ?_
   clear hx2 h hp1 hd1
   rintro ⟨n,⟨i,t⟩,t'⟩ ⟨h,hp,hd⟩
   dsimp only at hp hd
   obtain ⟨n,y,rfl,h,hk⟩:=Cu h
   unfold Z9 at h
   dsimp only at h
   refine csr (sv R (Bt R R) (Ak (Bl (ccI h R (fun h=>?_) (fun h=>?_)))))
   ·refine Bf (Ab (Bl (Bq (Bl (Aq ?_)))))
    obtain ⟨u,hu,h⟩:=Ae h
    refine sv R (B8 (f:=Ao) V5 (fun _=>R) R R R R hu) ?_
    refine sv R (Bz (ys:=[.sl u.Key.length (u.Key.flatMap eU8),.sl u.Val.length (u.Val.flatMap eU8),.b u.Del]) Ady R (.cp _) R R) (Bp R Ajk (sst Al2 R R R R R (Ak (csr (fl Abn ti4 R R R R R R (Ak (ccI h R (fun h=>?_) (fun h=>?_))))))))
    ·obtain rfl:=SJ h
     clear h
     refine Aq (rm 1 R (fl Qg Mz R R R R R R (sv R (Q4 (l:=u.Key) Tryz.underlying56 Tryz.underlying5 Tryz.underlying9 R R R) (Arz (ss:=t'.map kB) (css:=t'.map B7) (s:=⟨u.Key.toArray⟩) (p:=2) Tryz.underlying233 Tryz.underlying9 R R R (fun j hj=>?_) (fun hn=>?_) R))))
     ·obtain ⟨e1,e3⟩:=Ar9 hp hd (Adz hj)
      refine Pz [.box [.sl a0.L.length (a0.L.flatMap Ao)],.box (EL.el a2),.obj g (Mr Vh (((t'.eraseIdx j).map kB).map .string)) ((t'.eraseIdx j).map B7),.box (EL.el u)] (by rw [← Go.ChangeMaps.map_eraseIdx,← Go.ChangeMaps.map_eraseIdx];rfl) ?_
      refine Kz (Ap (Ab (Aq (sv R (Bo R R) (rm 1 R (Ak ?_))))))
      exact ⟨(n,(wI (i+1),Ab4 kvk t u.Key),t'.eraseIdx j),_,⟨hk,e1,e3⟩,⟨R,R,R,R,R,R,trivial⟩,R,zG _⟩
     ·have e1:=An8 (kf:=kvk) hp (Aoa hn)
      refine Pz [.box [.sl a0.L.length (a0.L.flatMap Ao)],.box (EL.el a2),.obj g (Mr Vh ((t'.map kB).map .string)) (t'.map B7),.box (EL.el u)] R (Kz (Ap (Ab (Aq (sv R (Bo R R) (rm 1 R (Ak ?_)))))))
      exact ⟨(n,(wI (i+1),Ab4 kvk t u.Key),t'),_,⟨hk,e1,hd⟩,⟨R,R,R,R,R,R,trivial⟩,R,zG _⟩
    ·obtain ⟨v,hv,h⟩:=Ae h
     obtain rfl:=SJ h
     clear h
     refine csr (ld Ada R R R R (fl Qg Mz R R R R R R (Ba R Amo (Aa R (Aa R Af)) (An R) (Mj hv) (Ak (Ci R (fun hc=>?_) (fun hc=>?_))))))
     ·subst hc
      refine Aq (rm 1 R (fl Qg Mz R R R R R R (sv R (Q4 (l:=u.Key) Tryz.underlying56 Tryz.underlying5 Tryz.underlying9 R R R) (fl Qg Mz R R R R R R (fl Xa Mz R R R R R R (sv R (A6 Ang Av7 (Ax R (Ax R A1)) (.cons _ _ _ _ _ _ _ R R (Nbl R) (.cons _ _ _ _ _ _ _ R R (Nbl R) (.nil _)))) (Ak7 (ss:=t'.map kB) (css:=t'.map B7) (s:=kB ⟨u.Key,u.Val⟩) (p:=2) Tryz.underlying233 Tryz.underlying9 R R R R R (fun j hj=>?_) (fun hn=>?_))))))))
      ·obtain ⟨e1,e2,e3⟩:=Acn hp hd (x:=⟨u.Key,u.Val⟩) (Adz hj)
       refine Pz [.box [.sl a0.L.length (a0.L.flatMap Ao)],.box (EL.el a2),.obj g (Mr Vh (((t'.set j ⟨u.Key,u.Val⟩).map kB).map .string)) ((t'.set j ⟨u.Key,u.Val⟩).map B7),.box (EL.el u)] (by rw [Arh (Adz hj),kJ];rfl) ?_
       refine Kz (Ap (Ab (Aq (sv R (Bo R R) (rm 1 R (Ak ?_))))))
       exact ⟨(n,(wI (i+1),Sa kvk t ⟨u.Key,u.Val⟩),t'.set j ⟨u.Key,u.Val⟩),_,⟨hk,e1,e3⟩,⟨R,R,R,R,R,R,trivial⟩,R,zG _⟩
      ·obtain ⟨e1,e3⟩:=Ai7 hp hd (x:=⟨u.Key,u.Val⟩) (Aoa hn)
       refine Pz [.box [.sl a0.L.length (a0.L.flatMap Ao)],.box (EL.el a2),.obj g (Mr Vh (((t'++[(⟨u.Key,u.Val⟩:B3)]).map kB).map .string)) ((t'++[(⟨u.Key,u.Val⟩:B3)]).map B7),.box (EL.el u)] (by simp only [wE];rfl) ?_
       refine Kz (Ap (Ab (Aq (sv R (Bo R R) (rm 1 R (Ak ?_))))))
       exact ⟨(n,(wI (i+1),Sa kvk t ⟨u.Key,u.Val⟩),t'++[(⟨u.Key,u.Val⟩:B3)]),_,⟨hk,e1,e3⟩,⟨R,R,R,R,R,R,trivial⟩,R,zG _⟩
     ·subst hc
      refine Bf (Ap (Ab (Aq (sv R (Bo R R) (rm 1 R (Ak ?_))))))
      exact ⟨(n,(wI (i+1),t),t'),_,⟨hk,hp,hd⟩,⟨R,R,R,R,R,R,trivial⟩,R,zG _⟩
   ·refine Da (As (As (Bj (Ab ?_))))
    obtain rfl:=SJ h
    obtain rfl:_=x2:=hk
    exact ⟨(t,t'),_,⟨hp,hd,ho2⟩,⟨R,R,trivial⟩,R⟩
 ·refine Bq ?_
  obtain ⟨x1,hx1,ho1⟩:=Ae h
  refine lpo (G:=Nat × (Int × List B3) × List B3) (fun q=>[(4,.s (.one (.lp 0 0))),(6,.s (.one (.lp 1 0))),(3,.s (.one (Ii6 a3))),(9,.s (.one (.raw (.map (some g))))),(30,.s (.one (.sl a1.length (a1.flatMap B7)))),(31,.s (.one (Ii6 (a1.length:Int)))),(32,.s (.one (Ii6 q.2.1.1)))]) (fun q=>[.box [.sl a0.L.length (a0.L.flatMap Ao)],.box (EL.el a2),.obj g (Mr Vh ((q.2.2.map kB).map .string)) (q.2.2.map B7)]) (fun q=>Ct (Z1 a1 a2) q.1 q.2.1=some x1∧q.2.2.Perm q.2.1.2∧Pk kvk q.2.2) (fun q=>q.1) (fuel,(0,[]),[]) ⟨hx1,List.Perm.refl _,List.Pairwise.nil⟩ ⟨R,R,R,R,R,R,R,trivial⟩ [] R (fun _=>R) ?_
  clear hx1 h
  rintro ⟨n,⟨i,t⟩,t'⟩ ⟨h,hp,hd⟩
  dsimp only at hp hd
  obtain ⟨n,y,rfl,h,hk⟩:=Cu h
  unfold Z1 at h
  dsimp only at h
  refine csr (sv R (Bt R R) (Ak (Bl (ccI h R (fun h=>?_) (fun h=>?_)))))
  ·refine Bf (Ab (Bl (Bq (Bl (Aq ?_)))))
   obtain ⟨u,hu,h⟩:=Ae h
   refine sv R (B8 (f:=B7) Ahz (fun _=>R) R R R R hu) ?_
   refine sv R (Bz (ys:=[.sl u.Key.length (u.Key.flatMap eU8),.sl u.Val.length (u.Val.flatMap eU8)]) Aqf R (.cp _) R R) (Bp R Ang (sst Ar3 R R R R R (Ak (csr (ld Ada R R R R (sv R (Ac Aaf R) (sv R (l1 Mz R R R) ?_)))))))
   obtain ⟨v,hv,h⟩:=Ae h
   refine Ba R Amo (Aa R (Aa R Af)) (An R) (Mj hv) (Ak ?_)
   obtain rfl:=SJ h
   clear h
   refine Ci R (fun hc=>?_) (fun hc=>?_)
   ·subst hc
    refine Aq (rm 1 R (fl Aaf Mz R R R R R R (sv R (Q4 (l:=u.Key) Tryz.underlying56 Tryz.underlying5 Tryz.underlying9 R R R) (ld Aqf R R R R (Ak7 (ss:=t'.map kB) (css:=t'.map B7) (s:=kB u) (p:=2) Tryz.underlying233 Tryz.underlying9 R R R R R (fun j hj=>?_) (fun hn=>?_))))))
    ·obtain ⟨e1,e2,e3⟩:=Acn hp hd (x:=u) (Adz hj)
     refine Pz [.box [.sl a0.L.length (a0.L.flatMap Ao)],.box (EL.el a2),.obj g (Mr Vh (((t'.set j u).map kB).map .string)) ((t'.set j u).map B7),.box (EL.el u)] (by rw [Arh (Adz hj),kJ];rfl) ?_
     refine Kz (Ap (Ab (Aq (sv R (Bo R R) (rm 1 R (Ak ?_))))))
     exact ⟨(n,(wI (i+1),Sa kvk t u),t'.set j u),_,⟨hk,e1,e3⟩,⟨R,R,R,R,R,R,R,trivial⟩,R,zG _⟩
    ·obtain ⟨e1,e3⟩:=Ai7 hp hd (x:=u) (Aoa hn)
     refine Pz [.box [.sl a0.L.length (a0.L.flatMap Ao)],.box (EL.el a2),.obj g (Mr Vh (((t'++[u]).map kB).map .string)) ((t'++[u]).map B7),.box (EL.el u)] (by simp only [wE];rfl) ?_
     refine Kz (Ap (Ab (Aq (sv R (Bo R R) (rm 1 R (Ak ?_))))))
     exact ⟨(n,(wI (i+1),Sa kvk t u),t'++[u]),_,⟨hk,e1,e3⟩,⟨R,R,R,R,R,R,R,trivial⟩,R,zG _⟩
   ·subst hc
    refine Bf (Ap (Ab (Aq (sv R (Bo R R) (rm 1 R (Ak ?_))))))
    exact ⟨(n,(wI (i+1),t),t'),_,⟨hk,hp,hd⟩,⟨R,R,R,R,R,R,R,trivial⟩,R,zG _⟩
  ·refine Da (As (As (Bj (Ab ?_))))
   obtain rfl:=SJ h
   obtain rfl:_=x1:=hk
   exact ⟨(t,t'),_,⟨hp,hd,ho1⟩,⟨R,R,R,R,trivial⟩,R⟩
section
open Go.Extern.Stop Go.Stop Go.Extern
theorem Amp (v:Value) (w:World):(Extern.ReflectliteType.typeOf #[.iface 62 v]).run Tryz.prog w=.ok (.iface 371 (.agg #[.pointer (some ⟨1,62,none⟩)])) w:=by kernel_rfl
theorem Acb (w : World) : ((Extern.ReflectliteType.method fun t => do Extern.Rtype.noPackHeld "Comparable" t; (fun a => Value.bool a.comparable) <$> typeInfo t) #[.agg #[.pointer (some ⟨1, 62, none⟩)]]).run Tryz.prog w = .ok (.bool true) w := by kernel_rfl
theorem Am2 (v : Value) (w : World) : (Go.method 553 371 v "Comparable").run Tryz.prog w = .ok (317, v) w := by kernel_rfl
theorem Al0:(Tryz.prog.info? 62).map (·.comparable)=some true:=by kernel_rfl
theorem Asg (v:Value) (xT:TypeId) (w:World):(Instr.typeAssert (.iface 62 v) xT 373 true).run Tryz.prog w=.ok (.tuple #[.nilIface,.bool false]) w:=run_typeAssert_lacksB Tryz.underlying373 (by kernel_rfl) (by kernel_rfl) v xT w
theorem Agv (v:Value) (xT:TypeId) (w:World):(Instr.typeAssert (.iface 62 v) xT 376 true).run Tryz.prog w=.ok (.tuple #[.nilIface,.bool false]) w:=run_typeAssert_lacksB Tryz.underlying376 (by kernel_rfl) (by kernel_rfl) v xT w
theorem Afu (v:Value) (xT:TypeId) (w:World):(Instr.typeAssert (.iface 62 v) xT 378 true).run Tryz.prog w=.ok (.tuple #[.nilIface,.bool false]) w:=run_typeAssert_lacksB Tryz.underlying378 (by kernel_rfl) (by kernel_rfl) v xT w
set_option maxHeartbeats 2000000 in
theorem Apv (a b:Int) (w:World):Calls Tryz.prog 138 #[.iface 62 (.int .i64 a),.iface 62 (.int .i64 b)] w fun e w'=>e=.returned (.bool (a == b))∧w'=w:=by
 have h8:=@run_callFunc_extern Tryz.prog 207 _ Extern.ReflectliteType.typeOf Tryz.func207 (by kernel_rfl) (by kernel_rfl) (by kernel_rfl) (by kernel_rfl)
 have h32 := @run_callFunc_extern Tryz.prog 317 _ (Extern.ReflectliteType.method fun t => do Extern.Rtype.noPackHeld "Comparable" t; pure (.bool (← typeInfo t).comparable)) Tryz.func317 (by kernel_rfl) (by kernel_rfl) (by kernel_rfl) (by kernel_rfl)
 have tT:=Amp
 have cT:=Acb
 have mR:=Am2
 have nE:=Asg
 have uE:=Agv
 have vE:=Afu
 have hn1:=fun v:Value=>run_eql_iface_nil_left (P:=Tryz.prog) w 62 v Tryz.underlying252
 have hnr:=fun v:Value=>run_eql_iface_nil (P:=Tryz.prog) (w:=w) 252 (by kernel_rfl) 62 v
 cases hab:(a == b) with
 | true =>
  have heq:=Go.Lib.run_eql_iface_int (P:=Tryz.prog) w (k:=.i64) a b Tryz.underlying252 Al0 Tryz.underlying62
  rw [hab] at heq
  go_enter Tryz.func138,Tryz.ntmps138
  go_wp2
  refine wp_loop_rounds 1 ?_
  rw [rounds_succ]
  go_wp2
  go_ret
  exact ⟨R,R⟩
 | false =>
  have heq:=Go.Lib.run_eql_iface_int (P:=Tryz.prog) w (k:=.i64) a b Tryz.underlying252 Al0 Tryz.underlying62
  rw [hab] at heq
  go_enter Tryz.func138,Tryz.ntmps138
  go_wp2
  refine wp_loop_rounds 1 ?_
  rw [rounds_succ]
  go_wp2
  go_ret
  exact ⟨R,R⟩
def Rw (a b:Int):Option Bool:=some (a == b)
theorem Yy {a b:Int} {r:Bool} (h:Rw a b=some r):Br Tryz.prog 138 [.one (.raw (.iface 62 (.int .i64 a))),.one (.raw (.iface 62 (.int .i64 b)))] (·=.s (.one (.b r))):=by
 obtain rfl:=SJ h
 exact Ahm (fun _ _=>.b _) (fun w=>Apv a b w)
end
def Ib (a0:List (List UInt8)) (b1:Unit):Option Bool :=
 (Ck a0).bind fun v2=>some v2
def D7 (a0:List (List UInt8)) (s3:Int):Option (LR (Int) (Unit) (Bool)) :=
 if (decide (s3<(a0.length:Int))) then ((idx a0 s3).bind fun u4=>(E1 u4).bind fun v5=>if (!v5) then (some (.ret false)) else (some (.cont (wI (s3+1))))) else (some (.brk ()))
def Ef (a0:List (List UInt8)):Option Bool :=
 (Lj (D7 a0) fuel 0).bind fun x=>match x with | .inl r=>some r | .inr e6=>Ib a0 e6
theorem Po {a0:List (List UInt8)} {r:Bool} (h:Ef a0=some r):Br Tryz.prog 107 [.one (.sl a0.length (a0.flatMap (eL eU8)))] (·=.s (.one (.b r))):=by
 unfold Ef at h
 refine A5 Tryz.func107 R (nt:=17) R (Nbl R) ?_
 intro w0 S0
 refine csr (rm 1 R (Ak (Bl (csr (rm 1 R (sv R (Aw S7 R) (rm 1 R (Ak (cj (Unit) (fun b1=>[(0,.s (.one (.sl a0.length (a0.flatMap (eL eU8)))))]) (fun b1=>[]) (fun b1=>Ib a0 b1=some r) (fun _=>R) (fun b1 h=>?_) ?_)))))))))
 ·unfold Ib at h
  refine csr (sv R (A4 R) ?_)
  obtain ⟨v2,hv2,h⟩:=Ae h
  refine Ba R Aph (Aa R Af) (An R) (Lz hv2) (rm 1 R (Ak (Bs ?_)))
  obtain rfl:=SJ h
  exact dnT R R R R
 ·skip
  refine Bq ?_
  obtain ⟨x3,hx3,ho3⟩:=Ae h
  refine lpo (G:=Nat × (Int)) (fun g=>[(0,.s (.one (.sl a0.length (a0.flatMap (eL eU8))))),(5,.s (.one (.sl a0.length (a0.flatMap (eL eU8))))),(6,.s (.one (Ii6 (a0.length:Int)))),(7,.s (.one (Ii6 g.2)))]) (fun g=>[]) (fun g=>Lj (D7 a0) g.1 g.2=some x3) (fun g=>g.1) (fuel,0) hx3 ⟨R,R,R,R,trivial⟩ [] R (fun _=>R) ?_
  clear hx3 h
  rintro ⟨n3,s3⟩ h
  obtain ⟨n3,y3,rfl,h,hk3⟩:=Es h
  unfold D7 at h
  refine csr (sv R (Bt R R) (Ak (Bl (ccI h R (fun h=>?_) (fun h=>?_)))))
  ·refine Bf (Ab (Bl (Bq (Bl (Aq ?_)))))
   obtain ⟨u4,hu4,h⟩:=Ae h
   refine sv R (B8 (f:=(eL eU8)) S7 (fun _=>R) R R R R hu4) ?_
   refine sv R (B6 Mz R (.cp _) R) (rm 1 R (Ak (csr (sv R (A4 R) ?_))))
   obtain ⟨v5,hv5,h⟩:=Ae h
   refine Ba R Aw9 (Aa R Af) (An R) (N9 hv5) (sv R (B0 R) (Ak (ccI h R (fun h=>?_) (fun h=>?_))))
   ·refine csr (rm 1 R (Ak (Bs (Az (Ag (Ag (Az (Ag ?_))))))))
    obtain rfl:=SJ h
    obtain rfl:Sum.inl _=x3:=hk3
    replace ho3:some _=some _:=ho3
    obtain rfl:=zD ho3
    exact dnT R R R R
   ·refine Bf (Ap (Ab (Aq (sv R (Bo R R) (rm 1 R (Ak ?_))))))
    obtain rfl:=SJ h
    exact ⟨(n3,(wI (s3+1))),_,hk3,⟨R,R,R,R,trivial⟩,R,zG _⟩
  ·refine Da (As (As (Bj (Ab ?_))))
   obtain rfl:=SJ h
   obtain rfl:_=x3:=hk3
   exact ⟨(),_,ho3,⟨R,trivial⟩,R⟩
theorem Mt {a0:Al}:Br Tryz.prog 182 [.agg [.sl a0.L.length (a0.L.flatMap A9)]] (·=.s (.one (.fn 235 [] [.cp [.sl a0.L.length (a0.L.flatMap A9)]]))):=by
 refine A5 Tryz.func182 R (nt:=4) R (Nbl R) ?_
 intro w0 S0
 refine csr (Anw R R R (rm 1 R (Ak (csr (sv R (T9 Qp (V4 R R Qp)) (rm 1 R (Ak (Bs (⟨Or.inr R,_,_,_,(Ad (rt R) Ai),(An R),?_⟩)))))))))
 rfl
def Qv (l:List A0):Nat→List (Int × A0)
 | 0=>[]
 | n+1=>match l[n]? with
  | some v=>((n:Int),v)::Qv l n
  | none=>[]
def Akg (c:Al):Option (List (Int × A0)) :=
 if c.L.length≤1000000000000000000 then some (Qv c.L c.L.length) else none
theorem Q6 {l:List A0} {n:Nat} (h:n<l.length):Qv l (n+1)=((n:Int),l[n])::Qv l n:=by
 simp [Qv,zB h]
theorem W6 {l:List A0}:∀ n,n≤l.length→(Qv l n).length=n
 | 0,_=>rfl
 | n+1,h=>by
  rw [Q6 (by omega),yT,W6 n (by omega)]
theorem Agk {c:Al} {L:List (Int × A0)} (h:Akg c=some L):Aqr Tryz.prog 235 [.cp [.sl c.L.length (c.L.flatMap A9)]] (L.map fun x=>(.one (Ii6 x.1),.agg (EL.el x.2))):=by
 unfold Akg at h
 obtain ⟨hlen,h⟩:=Cp h
 obtain rfl:=SJ h
 refine Ap6 Tryz.func235 R R (nt:=21) R (Nbl R) ?_
 intro l J Jx hJ hJx hs
 refine Awb ?_
 refine Alz (hJ 0) (by rfl) (fun w0 S0=>?_)
 refine sv R (B9 Tu R) (sv R (B6 Aa5 R (.cp _) R) (sv R (Aw Ws R) (sv R (Nk R R) (rm 1 R (Kz ⟨R,R,Aeb (Ag3 ?_)⟩)))))
 refine Aq8 ?_
 have hw0:wI ((c.L.length:Int)-1)=(c.L.length:Int)-1:=by
  show IntKind.i64.wrap _=_
  exact wrap_i64 (by omega) (by omega)
 refine Azq (G:=Nat × Int) (fun g=>[(0,.s (.one (.raw (.func (.yield l) #[] #[])))),(1,.s (.one (.cp [.sl c.L.length (c.L.flatMap A9)]))),(3,.s (.one (Ii6 g.2)))])
  (fun g=>J g.1) (fun g=>g.1≤c.L.length∧g.2=((c.L.length-g.1:Nat):Int)-1∧(Qv c.L c.L.length).drop g.1=Qv c.L (c.L.length-g.1))
  (fun g=>c.L.length-g.1) (0,wI ((c.L.length:Int)-1)) ⟨zY _,by simp only [Nat.sub_zero];exact hw0,rfl⟩ ⟨rfl,rfl,rfl,trivial⟩ rfl (fun _ _=>Zn rfl) ?_
 rintro ⟨k,i⟩ ⟨g1,g2,g3⟩
 simp only at g1 g2 g3
 refine Awb (Awb ?_)
 refine Alz (hJ k) (by rfl) (fun w0 S0=>?_)
 refine rm 1 R (sv R (Hz R R) (Kz ⟨R,R,Aeb (Ag3 ?_)⟩))
 refine At3 R (fun hc=>?_) (fun hc=>?_)
 rotate_left
 ·have hc':¬ 0≤i:=by simpa using hc
  refine Azd (And.intro (Or.inl R) (Or.inl ?_))
  show J k=J _
  rw [z8,W6 _ (zN _)]
  congr 1
  omega
 have hge:0≤i:=by simpa using hc
 refine Avh (Ag3 ?_)
 obtain ⟨n,hn⟩:∃ n,c.L.length-k=n+1:=⟨c.L.length-k-1,by omega⟩
 have hi:i=(n:Int):=by omega
 subst hi
 have hnl:n<c.L.length:=by omega
 rw [hn,Q6 hnl] at g3
 have hget:(Qv c.L c.L.length)[k]? = some ((n:Int),c.L[n]):=by
  have:=congrArg (fun l=>l[0]?) g3
  simpa using this
 have hdrop:(Qv c.L c.L.length).drop (k+1)=Qv c.L n:=by
  have:=congrArg (fun l=>l.drop 1) g3
  simpa [j5] using this
 have hu:idx c.L (n:Int)=some c.L[n]:=by
  unfold idx
  rw [if_pos (xK n),zR,zB hnl]
 generalize c.L[n]=v at hget hu
 refine Awb (Aq8 (Awb (Amy ?_)))
 refine Apc (l1:=[_,_,_,_,_,_,_]) (hJ k) (by rfl) (fun w0 S0=>?_)
 refine rm 2 R (sv R (B9 Tu R) (sv R (B6 Aa5 R (.cp _) R) (rm 1 R (sv R (B8 (f:=A9) Ws (fun _=>R) R R R R hu) ?_))))
 refine sv R (Bz (ys:=[Ii6 v.Ts,.sl v.Val.length (v.Val.flatMap eU8),.b v.Del]) Agy R (.cp _) R R) (Kz ⟨R,R,?_⟩)
 refine Apt rfl rfl (fun _ _ _ _ _=>rfl) hs rfl rfl rfl rfl (x:=.one (Ii6 (n:Int))) (y:=.agg (EL.el v)) (by rw [zQ,hget];rfl) ?_ ?_
 rotate_left
 ·
  refine Apc (l1:=[_]) (l2:=[]) hJx (by rfl) (fun w0 S0=>?_)
  refine sv R (B0 R) (Kz ⟨R,R,Aeb (Ag3 ?_)⟩)
  refine At3 R (fun _=>?_) (fun hx=>Bool.noConfusion hx)
  exact A1j (And.intro (Or.inr R) (Or.inr R))
 refine Apc (l1:=[_]) (l2:=[]) (hJ (k+1)) (by rfl) (fun w0 S0=>?_)
 refine sv R (B0 R) (Kz ⟨R,R,Aeb (Ag3 ?_)⟩)
 refine At3 R (fun hx=>Bool.noConfusion hx) (fun _=>?_)
 refine Avh (A1h (Ag3 ?_))
 refine Alz (hJ (k+1)) (by rfl) (fun w0 S0=>?_)
 refine rm 1 R (sv R (Nk R R) (rm 1 R (Kz ⟨R,R,Aeb (Ag3 ?_)⟩)))
 have hw:wI ((n:Int)-1)=(n:Int)-1:=by
  show IntKind.i64.wrap _=_
  exact wrap_i64 (by omega) (by omega)
 refine ⟨(k+1,wI ((n:Int)-1)),⟨?_,?_,?_⟩,⟨R,R,R,trivial⟩,R,?_⟩
 ·show k+1≤c.L.length
  omega
 ·show wI ((n:Int)-1)=((c.L.length-(k+1):Nat):Int)-1
  rw [hw];omega
 ·show List.drop (k+1) _=Qv c.L (c.L.length-(k+1))
  rw [hdrop]
  congr 1
  omega
 ·show c.L.length-(k+1)<c.L.length-k
  omega
def Gk (a0:A0):Option Bool :=
 if (decide (1≤a0.Ts)) then (if (decide (a0.Ts≤1099511627776)) then (if (decide ((a0.Val.length:Int)≤32)) then (if a0.Del then (some (!(decide (0<(a0.Val.length:Int))))) else (some true)) else (some false)) else (some false)) else (some false)
theorem P8 {a0:A0} {r:Bool} (h:Gk a0=some r):Br Tryz.prog 183 [.agg (EL.el a0)] (·=.s (.one (.b r))):=by
 unfold Gk at h
 refine A5 Tryz.func183 R (nt:=28) R (Nbl R) ?_
 intro w0 S0
 refine csr (F4 R R (rm 1 R (Ak (csr (fl Vw ti3 R R R R R R (sv R (Hz R R) (rm 1 R (ssI 6 h R (fun h=>?_) (fun h=>?_)))))))))
 ·refine son R R R (sv R (Ac Vw R) (son R R R (sv R (l1 ti3 R R R) (son R R R (sv R (De R R) (rm 2 R (ssI 11 h R (fun h=>?_) (fun h=>?_))))))))
  ·refine son R R R (sv R (Ac Agj R) (son R R R (sv R (l1 Mz R R R) (son R R R (sv R (Aw Yc R) (son R R R (sv R (De R R) (rm 2 R (ssI 17 h R (fun h=>?_) (fun h=>?_))))))))))
   ·refine son R R R (sv R (Ac Agh R) (son R R R (sv R (l1 ti4 R R R) (rm 1 R (ssI 20 h R (fun h=>?_) (fun h=>?_))))))
    ·refine son R R R (sv R (Ac Agj R) (son R R R (sv R (l1 Mz R R R) (son R R R (sv R (Aw Yc R) (son R R R (sv R (C5 R R) (rm 1 R (son R R R (sv R (B0 R) (rm 2 R (Ak (Bs ?_)))))))))))))
     obtain rfl:=SJ h
     exact dnT R R R R
    ·refine rm 5 R (son R R R (sv R (B0 R) (rm 2 R (Ak (Bs ?_)))))
     obtain rfl:=SJ h
     exact dnT R R R R
   ·refine rm 3 R (Ch R R R (Ch R R R (Ch R R R (Ch R R R (rm 4 R (Ak (Bs ?_)))))))
    obtain rfl:=SJ h
    exact dnT R R R R
  ·refine rm 9 R (Ch R R R (Ch R R R (Ch R R R (Ch R R R (rm 4 R (Ak (Bs ?_)))))))
   obtain rfl:=SJ h
   exact dnT R R R R
 ·refine rm 14 R (Ch R R R (Ch R R R (Ch R R R (Ch R R R (rm 4 R (Ak (Bs ?_)))))))
  obtain rfl:=SJ h
  exact dnT R R R R
def Jl (s1:Int) (x1:Int × A0):Option ((Int) ⊕ (Nat × (Int))) :=
 (Gk x1.2).bind fun v2=>if (!v2) then (some (.inr (0,s1))) else (if (decide (s1≤x1.2.Ts)) then (some (.inr (0,s1))) else (some (.inl x1.2.Ts)))
def L4 (s3:Int):Option Bool :=
 some true
def L0 (s4:Int):Option Bool :=
 some false
def Ex (a0:Al):Option Bool :=
 (Akg a0).bind fun L1=>(Rp Jl L1 1099511627777).bind fun e=>Ae0 L4 L0 (fun _ _=>none) e
theorem Pe {a0:Al} {r:Bool} (h:Ex a0=some r):Br Tryz.prog 108 [.agg [.sl a0.L.length (a0.L.flatMap A9)]] (·=.s (.one (.b r))):=by
 unfold Ex at h
 refine Xk Tryz.func108 R (nt:=21) R (Nbl R) ?_
 intro w0 S0
 refine Aaz (Jo R (fun w0 S0 X0 m0 H0=>?_))
 refine Anw R R R (Bp R zi4 (Ak (Aaz (Jo R (fun w0 S0 X0 m0 H0=>?_)))))
 refine Bp R zi3 (sst sz3 R R R R R (Ak (Aaz (Aaz (Jo R (fun w0 S0 X0 m0 H0=>?_))))))
 refine sv R (Bz (ys:=[.sl a0.L.length (a0.L.flatMap A9)]) O5 R (.cp _) R R) (Ba R Atc (Aa R Af) (An R) Mt (Ak (Abr ?_)))
 obtain ⟨L1,hL1,h⟩:=Ae h
 obtain ⟨e1,he1,h⟩:=Ae h
 refine Ag9 Jl L1 (fun x1=>.one (Ii6 x1.1)) (fun x1=>.agg (EL.el x1.2)) (fun s1=>[.box [.b false],.box [Ii6 s1]]) 1099511627777 he1 R At0 R (Agk hL1) R R R (fun _=>R) (fun _=>Rz R) ?_ ?_ ?_ ?_
 ·clear h
  intro x1 s1 y1 l h w0 S0 X0 H0
  unfold Jl at h
  refine Jo R (fun w0 S0 X0 m0 H0=>?_)
  refine Bp R Ahf (sst Ajm R R R R R (Ak (fun w0 S0 X0 H0=>?_)))
  refine Abr (Aaz (Aaz (Jo R (fun w0 S0 X0 m0 H0=>?_))))
  refine sv R (lo Agy R R R) ?_
  obtain ⟨v2,hv2,h⟩:=Ae h
  refine Ba R Aux (Aa R Af) (An R) (P8 hv2) (sv R (B0 R) (rm 1 R (ssI 13 h R (fun h=>?_) (fun h=>?_))))
  ·refine rm 5 R (Ak (As4 R (fun _=>?_) (fun hx=>Bool.noConfusion hx)))
   refine Aaz (Jo R (fun w0 S0 X0 m0 H0=>?_))
   refine sst sz4 R R R R R (Ak (Atp (Ag (Az ?_))))
   obtain rfl:=SJ h
   exact ⟨s1,_,R,R⟩
  ·refine son R R R (sv R (Ac Vw R) (son R R R (sv R (l1 ti3 R R R) (son R R R (sv R (l1 ti3 R R R) (son R R R (sv R (Hz R R) (rm 1 R (Ak (As4 R (fun hc=>?_) (fun hc=>?_)))))))))))
   ·replace h:=Su hc h
    clear hc
    refine Aaz (Jo R (fun w0 S0 X0 m0 H0=>?_))
    refine sst sz4 R R R R R (Ak (Atp (Ag (Az ?_))))
    obtain rfl:=SJ h
    exact ⟨s1,_,R,R⟩
   ·replace h:=S6 hc h
    clear hc
    refine Aw4 (Ab (Jo R (fun w0 S0 X0 m0 H0=>?_)))
    refine fl Vw ti3 R R R R R R (sst sz3 R R R R R (Kz (Ap ?_)))
    obtain rfl:=SJ h
    exact ⟨x1.2.Ts,_,R,R⟩
 ·intro s3 hs
  obtain rfl:=hs
  replace h:L4 s3=some r:=h
  unfold L4 at h
  refine Ap (Ab (Aaz (Jo R (fun w0 S0 X0 m0 H0=>?_))))
  refine sst sz4 R R R R R (Ak (Atp ?_))
  obtain rfl:=SJ h
  exact dn (Ad (Ai6.one _ _ _ _ _ ti4 R (.lp _ _ _ R) R) Ai) (An R) R
 ·intro s4 hs
  obtain rfl:=hs
  replace h:L0 s4=some r:=h
  unfold L0 at h
  refine Az (Ag ?_)
  obtain rfl:=SJ h
  exact dn (Ad (Ai6.one _ _ _ _ _ ti4 R (.lp _ _ _ R) R) Ai) (An R) R
 ·intro id s hs
  obtain rfl:=hs
  replace h:none=some r:=h
  cases h
def Ot (s1:Int) (x1:Int × A0):Option ((Int) ⊕ (Nat × (Int))) :=
 some (.inr (0,x1.2.Ts))
def N8 (s2:Int):Option Int :=
 some 0
def Oh (s3:Int):Option Int :=
 some s3
def Ko (a0:Al):Option Int :=
 (Akg a0).bind fun L1=>(Rp Ot L1 0).bind fun e=>Ae0 N8 Oh (fun _ _=>none) e
theorem Sm {a0:Al} {r:Int} (h:Ko a0=some r):Br Tryz.prog 109 [.agg [.sl a0.L.length (a0.L.flatMap A9)]] (·=.s (.one (Ii6 r))):=by
 unfold Ko at h
 refine Xk Tryz.func109 R (nt:=11) R (Nbl R) ?_
 intro w0 S0
 refine Aaz (Jo R (fun w0 S0 X0 m0 H0=>?_))
 refine Anw R R R (Bp R zi3 (Ak (Aaz (Aaz (Jo R (fun w0 S0 X0 m0 H0=>?_))))))
 refine sv R (Bz (ys:=[.sl a0.L.length (a0.L.flatMap A9)]) O5 R (.cp _) R R) (Ba R Atc (Aa R Af) (An R) Mt (Ak (Abr ?_)))
 obtain ⟨L1,hL1,h⟩:=Ae h
 obtain ⟨e1,he1,h⟩:=Ae h
 refine Ag9 Ot L1 (fun x1=>.one (Ii6 x1.1)) (fun x1=>.agg (EL.el x1.2)) (fun s1=>[.box [Ii6 s1]]) 0 he1 R At0 R (Agk hL1) R R R (fun _=>R) (fun _=>Rz R) ?_ ?_ ?_ ?_
 ·clear h
  intro x1 s1 y1 l h w0 S0 X0 H0
  unfold Ot at h
  refine Jo R (fun w0 S0 X0 m0 H0=>?_)
  refine Bp R Ahf (sst Ajm R R R R R (Ak (fun w0 S0 X0 H0=>?_)))
  refine Abr (Aaz (Jo R (fun w0 S0 X0 m0 H0=>?_)))
  refine fl Vw ti3 R R R R R R (sst sz3 R R R R R (Ak (Atp (Az ?_))))
  obtain rfl:=SJ h
  exact ⟨x1.2.Ts,_,R,R⟩
 ·intro s2 hs
  obtain rfl:=hs
  replace h:N8 s2=some r:=h
  unfold N8 at h
  refine Ap (Ab (Aaz (Jo R (fun w0 S0 X0 m0 H0=>?_))))
  refine sst sz3 R R R R R (Ak (Atp ?_))
  obtain rfl:=SJ h
  exact dn (Ad (Ai6.one _ _ _ _ _ ti3 R (.lp _ _ _ R) R) Ai) (An R) R
 ·intro s3 hs
  obtain rfl:=hs
  replace h:Oh s3=some r:=h
  unfold Oh at h
  refine Az (Ag ?_)
  obtain rfl:=SJ h
  exact dn (Ad (Ai6.one _ _ _ _ _ ti3 R (.lp _ _ _ R) R) Ai) (An R) R
 ·intro id s hs
  obtain rfl:=hs
  replace h:none=some r:=h
  cases h
def Pg (b2:Unit):Option Bool :=
 some true
def Hl (a0:Bu) (s3:Int):Option (LR (Int) (Unit) (Bool)) :=
 if (decide (s3<(a0.Chains.length:Int))) then ((idx a0.Chains s3).bind fun u4=>if (decide ((u4.L.length:Int)=0)) then (some (.ret false)) else ((Ex u4).bind fun v5=>if (!v5) then (some (.ret false)) else ((Ko u4).bind fun v6=>if (decide (a0.Ts<v6)) then (some (.ret false)) else (some (.cont (wI (s3+1))))))) else (some (.brk ()))
def M4 (a0:Bu) (b1:Unit):Option Bool :=
 (Lj (Hl a0) fuel 0).bind fun x=>match x with | .inl r=>some r | .inr e7=>Pg e7
def C7 (a0:Bu):Option Bool :=
 if (decide (a0.Ts<0)) then (some false) else (if (decide (1099511627776<a0.Ts)) then (some false) else (if (decide (128<(a0.Keys.length:Int))) then (some false) else (if (!decide ((a0.Chains.length:Int)=(a0.Keys.length:Int))) then (some false) else ((Ef a0.Keys).bind fun v8=>if (!v8) then (some false) else (M4 a0 ())))))
theorem Lq {a0:Bu} {r:Bool} (h:C7 a0=some r):Br Tryz.prog 45 [.agg (EL.el a0)] (·=.s (.one (.b r))):=by
 unfold C7 at h
 refine A5 Tryz.func45 R (nt:=58) R (Nbl R) ?_
 intro w0 S0
 refine csr (F4 R R (rm 1 R (Ak (Bl (Bl (cj3 (Unit) (fun b1=>[(1,.s (.one (.lp 0 0)))]) (fun b1=>[.box (EL.el a0)]) (fun b1=>M4 a0 b1=some r) (fun _=>R) (fun b1 h=>?_) ?_))))))
 ·unfold M4 at h
  refine Bl (csr (fl Qs Akc R R R R R R (sv R (Aw Aov R) (rm 1 R (Ak (cj (Unit) (fun b2=>[]) (fun b2=>[.box (EL.el a0)]) (fun b2=>Pg b2=some r) (fun _=>R) (fun b2 h=>?_) ?_))))))
  ·unfold Pg at h
   refine csr (rm 1 R (Ak (Bs ?_)))
   obtain rfl:=SJ h
   exact dnT R R R R
  ·skip
   refine Bq ?_
   obtain ⟨x3,hx3,ho3⟩:=Ae h
   refine lpo (G:=Nat × (Int)) (fun g=>[(1,.s (.one (.lp 0 0))),(35,.s (.one (.sl a0.Chains.length (a0.Chains.flatMap Ay)))),(36,.s (.one (Ii6 (a0.Chains.length:Int)))),(37,.s (.one (Ii6 g.2)))]) (fun g=>[.box (EL.el a0)]) (fun g=>Lj (Hl a0) g.1 g.2=some x3) (fun g=>g.1) (fuel,0) hx3 ⟨R,R,R,R,trivial⟩ [] R (fun _=>R) ?_
   clear hx3 h
   rintro ⟨n3,s3⟩ h
   obtain ⟨n3,y3,rfl,h,hk3⟩:=Es h
   unfold Hl at h
   refine csr (sv R (Bt R R) (Ak (Bl (ccI h R (fun h=>?_) (fun h=>?_)))))
   ·refine Bf (Ab (Bl (Bq (Bl (Aq ?_)))))
    obtain ⟨u4,hu4,h⟩:=Ae h
    refine sv R (B8 (f:=Ay) Aov (fun _=>R) R R R R hu4) ?_
    refine sv R (Bz (ys:=[.sl u4.L.length (u4.L.flatMap A9)]) O5 R (.cp _) R R) (Bp R Y8 (sst Y4 R R R R R (Ak (Bl ?_))))
    refine Z3 mixed (by kernel_rfl) ?_
    refine dv R (Ac Tu R) (dv R (l1 Aa5 R R R) (dv R (Aw Ws R) (dv R (B4 R R) (dv R (A4 R) (Tz 45 R (fun hc=>?_) (fun hc=>?_))))))
    ·replace h:=Su hc h
     clear hc
     refine G7 R R R R (G7 R R R R (G7 R R R R (dv R (Er R R) (dv R (A4 R) (G7 R R R R (G7 R R R R (G7 R R R R (G7 R R R R (G7 R R R R (dv R (Er R R) (Zq (Ab (Ci R (fun _=>?_) (fun hx=>Bool.noConfusion hx))))))))))))))
     refine csr (rm 1 R (Ak (Bs (Az (Ag (Ag (Az (Ag ?_))))))))
     obtain rfl:=SJ h
     obtain rfl:Sum.inl _=x3:=hk3
     replace ho3:some _=some _:=ho3
     obtain rfl:=zD ho3
     exact dnT R R R R
    ·replace h:=S6 hc h
     clear hc
     refine dvg R R R (lo O5 R R R) ?_
     obtain ⟨v5,hv5,h⟩:=Ae h
     refine ddg R R R (Cy Atd (Aa R Af) R (Pe hv5)) (dvg R R R (B0 R) (dv R (Hq R R) (dv R (A4 R) (Tz 50 R (fun hc=>?_) (fun hc=>?_)))))
     ·replace h:=Su hc h
      clear hc
      refine G7 R R R R (G7 R R R R (G7 R R R R (G7 R R R R (G7 R R R R (dv R (Er R R) (Zq (Ab (Ci R (fun _=>?_) (fun hx=>Bool.noConfusion hx)))))))))
      refine csr (rm 1 R (Ak (Bs (Az (Ag (Ag (Az (Ag ?_))))))))
      obtain rfl:=SJ h
      obtain rfl:Sum.inl _=x3:=hk3
      replace ho3:some _=some _:=ho3
      obtain rfl:=zD ho3
      exact dnT R R R R
     ·replace h:=S6 hc h
      clear hc
      refine dvg R R R (lo O5 R R R) ?_
      obtain ⟨v6,hv6,h⟩:=Ae h
      refine ddg R R R (Cy Avd (Aa R Af) R (Sm hv6)) (dvg R R R (Ac Q7 R) (dvg R R R (l1 ti3 R R R) (dvg R R R (C5 R R) (dv R (Hq R R) (Zq (Ab (ccI h R (fun h=>?_) (fun h=>?_))))))))
      ·refine csr (rm 1 R (Ak (Bs (Az (Ag (Ag (Az (Ag ?_))))))))
       obtain rfl:=SJ h
       obtain rfl:Sum.inl _=x3:=hk3
       replace ho3:some _=some _:=ho3
       obtain rfl:=zD ho3
       exact dnT R R R R
      ·refine Bf (Ap (Ab (Aq (sv R (Bo R R) (rm 1 R (Ak ?_))))))
       obtain rfl:=SJ h
       exact ⟨(n3,(wI (s3+1))),_,hk3,⟨R,R,R,R,trivial⟩,R,zG _⟩
   ·refine Da (As (As (Bj (Ab ?_))))
    obtain rfl:=SJ h
    obtain rfl:_=x3:=hk3
    exact ⟨(),_,ho3,trivial,R⟩
 ·skip
  refine Aq (fl Q7 ti3 R R R R R R (sv R (Bt R R) (rm 1 R (ssI 8 h R (fun h=>?_) (fun h=>?_)))))
  ·refine rm 25 R (Ak (Ci R (fun _=>?_) (fun hx=>Bool.noConfusion hx)))
   refine csr (rm 1 R (Ak (Bs (Ag ?_))))
   obtain rfl:=SJ h
   exact dnT R R R R
  ·refine son R R R (sv R (Ac Q7 R) (son R R R (sv R (l1 ti3 R R R) (son R R R (sv R (C5 R R) (rm 2 R (ssI 13 h R (fun h=>?_) (fun h=>?_))))))))
   ·refine rm 20 R (Ak (Ci R (fun _=>?_) (fun hx=>Bool.noConfusion hx)))
    refine csr (rm 1 R (Ak (Bs (Ag ?_))))
    obtain rfl:=SJ h
    exact dnT R R R R
   ·refine son R R R (sv R (Ac Qz R) (son R R R (sv R (l1 Abe R R R) (son R R R (sv R (Aw S7 R) (son R R R (sv R (C5 R R) (rm 2 R (ssI 19 h R (fun h=>?_) (fun h=>?_))))))))))
    ·refine rm 14 R (Ak (Ci R (fun _=>?_) (fun hx=>Bool.noConfusion hx)))
     refine csr (rm 1 R (Ak (Bs (Ag ?_))))
     obtain rfl:=SJ h
     exact dnT R R R R
    ·refine son R R R (sv R (Ac Qs R) (son R R R (sv R (l1 Akc R R R) (son R R R (sv R (Aw Aov R) (son R R R (sv R (Ac Qz R) (son R R R (sv R (l1 Abe R R R) (son R R R (sv R (Aw S7 R) (son R R R (sv R (Db R R) (rm 2 R (ssI 28 h R (fun h=>?_) (fun h=>?_))))))))))))))))
     ·refine rm 5 R (Ak (Ci R (fun _=>?_) (fun hx=>Bool.noConfusion hx)))
      refine csr (rm 1 R (Ak (Bs (Ag ?_))))
      obtain rfl:=SJ h
      exact dnT R R R R
     ·refine son R R R (sv R (Ac Qz R) (son R R R (sv R (l1 Abe R R R) (son R R R ?_))))
      obtain ⟨v8,hv8,h⟩:=Ae h
      refine Ba R Ave (Aa R Af) (An R) (Po hv8) (son R R R (sv R (B0 R) (rm 1 R (Ak (ccI h R (fun h=>?_) (fun h=>?_))))))
      ·refine csr (rm 1 R (Ak (Bs (Ag ?_))))
       obtain rfl:=SJ h
       exact dnT R R R R
      ·refine Bf (Ab ?_)
       exact ⟨(),_,h,⟨R,trivial⟩,R⟩
def E0 (a0:Bg):Option Bool :=
 if (decide ((a0.Lo.length:Int)≤17)) then (if (decide ((a0.Hi.length:Int)≤17)) then (if a0.Open then (some (!(decide (0<(a0.Hi.length:Int))))) else (some true)) else (some false)) else (some false)
theorem P6 {a0:Bg} {r:Bool} (h:E0 a0=some r):Br Tryz.prog 71 [.agg (EL.el a0)] (·=.s (.one (.b r))):=by
 unfold E0 at h
 refine A5 Tryz.func71 R (nt:=24) R (Nbl R) ?_
 intro w0 S0
 refine csr (F4 R R (rm 1 R (Ak (csr (fl Abg Mz R R R R R R (sv R (Aw Yc R) (sv R (De R R) (rm 1 R (ssI 7 h R (fun h=>?_) (fun h=>?_))))))))))
 ·refine son R R R (sv R (Ac Yl R) (son R R R (sv R (l1 Mz R R R) (son R R R (sv R (Aw Yc R) (son R R R (sv R (De R R) (rm 2 R (ssI 13 h R (fun h=>?_) (fun h=>?_))))))))))
  ·refine son R R R (sv R (Ac Ai8 R) (son R R R (sv R (l1 ti4 R R R) (rm 1 R (ssI 16 h R (fun h=>?_) (fun h=>?_))))))
   ·refine son R R R (sv R (Ac Yl R) (son R R R (sv R (l1 Mz R R R) (son R R R (sv R (Aw Yc R) (son R R R (sv R (C5 R R) (rm 1 R (son R R R (sv R (B0 R) (rm 2 R (Ak (Bs ?_)))))))))))))
    obtain rfl:=SJ h
    exact dnT R R R R
   ·refine rm 5 R (son R R R (sv R (B0 R) (rm 2 R (Ak (Bs ?_)))))
    obtain rfl:=SJ h
    exact dnT R R R R
  ·refine rm 3 R (Ch R R R (Ch R R R (Ch R R R (Ch R R R (rm 4 R (Ak (Bs ?_)))))))
   obtain rfl:=SJ h
   exact dnT R R R R
 ·refine rm 9 R (Ch R R R (Ch R R R (Ch R R R (Ch R R R (rm 4 R (Ak (Bs ?_)))))))
  obtain rfl:=SJ h
  exact dnT R R R R
def F1 (a0:Bg) (b1:Bool):Option Bool :=
 if b1 then (some true) else ((I4 a0.Hi a0.Lo).bind fun v2=>some (decide (v2≤0)))
def Hb (a0:Bg):Option Bool :=
 if a0.Open then (some false) else (if (decide ((a0.Lo.length:Int)=0)) then (if (decide ((a0.Hi.length:Int)=1)) then ((idx a0.Hi 0).bind fun u3=>F1 a0 (decide ((u3.toBitVec.toNat:Int)=(0:Int)))) else (F1 a0 false)) else (F1 a0 false))
theorem Td {a0:Bg} {r:Bool} (h:Hb a0=some r):Br Tryz.prog 72 [.agg (EL.el a0)] (·=.s (.one (.b r))):=by
 unfold Hb at h
 refine A5 Tryz.func72 R (nt:=32) R (Nbl R) ?_
 intro w0 S0
 refine csr (F4 R R (rm 1 R (Ak (Bl (csr (fl Ai8 ti4 R R R R R R (Ak (ccI h R (fun h=>?_) (fun h=>?_)))))))))
 ·refine csr (rm 1 R (Ak (Bs (Ag ?_))))
  obtain rfl:=SJ h
  exact dnT R R R R
 ·refine Bf (Ab (Bl (cj (Bool) (fun b1=>[(1,.s (.one (.lp 0 0))),(3,.s (.one (.b b1)))]) (fun b1=>[.box (EL.el a0)]) (fun b1=>F1 a0 b1=some r) (fun _=>R) (fun b1 h=>?_) ?_)))
  ·unfold F1 at h
   refine csr (rm 2 R (ssI 24 h R (fun h=>?_) (fun h=>?_)))
   ·refine rm 8 R (Ak (Bs ?_))
    obtain rfl:=SJ h
    exact dnT R R R R
   ·refine son R R R (sv R (Ac Yl R) (son R R R (sv R (l1 Mz R R R) (son R R R (sv R (Ac Abg R) (son R R R (sv R (l1 Mz R R R) (son R R R ?_))))))))
    obtain ⟨v2,hv2,h⟩:=Ae h
    refine Ba R Al1 (Aa R (Aa R Af)) (An R) (Ml hv2) (son R R R (sv R (De R R) (rm 2 R (Ak (Bs ?_)))))
    obtain rfl:=SJ h
    exact dnT R R R R
  ·skip
   refine Aq (fl Abg Mz R R R R R R (sv R (Aw Yc R) (sv R (B4 R R) (rm 1 R (ssI 10 h R (fun h=>?_) (fun h=>?_))))))
   ·refine son R R R (sv R (Ac Yl R) (son R R R (sv R (l1 Mz R R R) (son R R R (sv R (Aw Yc R) (son R R R (sv R (B4 R R) (rm 2 R (ssI 16 h R (fun h=>?_) (fun h=>?_))))))))))
    ·refine son R R R (sv R (Ac Yl R) (son R R R (sv R (l1 Mz R R R) (son R R R ?_))))
     obtain ⟨u3,hu3,h⟩:=Ae h
     refine sv R (B8 (f:=eU8) Yc (fun _=>R) R R R R hu3) ?_
     refine son R R R (sv R (B6 ti5 R (.cp _) R) (son R R R (sv R (B4 R R) (rm 2 R (Ak ?_)))))
     exact ⟨(decide ((u3.toBitVec.toNat:Int)=(0:Int))),_,h,⟨R,R,trivial⟩,R⟩
    ·refine rm 7 R (Ak ?_)
     exact ⟨false,_,h,⟨R,R,trivial⟩,R⟩
   ·refine rm 13 R (Ak ?_)
    exact ⟨false,_,h,⟨R,R,trivial⟩,R⟩
def Di (a0:A3):Option Bool :=
 if (decide (0≤a0.Tx)) then ((E0 a0.Rng).bind fun v1=>if v1 then ((Hb a0.Rng).bind fun v2=>some (!v2)) else (some false)) else (some false)
theorem Ps {a0:A3} {r:Bool} (h:Di a0=some r):Br Tryz.prog 184 [.agg (EL.el a0)] (·=.s (.one (.b r))):=by
 unfold Di at h
 refine A5 Tryz.func184 R (nt:=17) R (Nbl R) ?_
 intro w0 S0
 refine csr (F4 R R (rm 1 R (Ak (csr (fl Ado ti3 R R R R R R (sv R (Hz R R) (rm 1 R (ssI 6 h R (fun h=>?_) (fun h=>?_)))))))))
 ·refine son R R R (sv R (Ac X4 R) (son R R R (ld Ada R R R R (son R R R ?_))))
  obtain ⟨v1,hv1,h⟩:=Ae h
  refine Ba R A0t (Aa R Af) (An R) (P6 hv1) (rm 2 R (ssI 11 h R (fun h=>?_) (fun h=>?_)))
  ·refine son R R R (sv R (Ac X4 R) (son R R R (ld Ada R R R R (son R R R ?_))))
   obtain ⟨v2,hv2,h⟩:=Ae h
   refine Ba R A0g (Aa R Af) (An R) (Td hv2) (son R R R (sv R (B0 R) (rm 2 R (Ak (Bs ?_)))))
   obtain rfl:=SJ h
   exact dnT R R R R
  ·refine rm 6 R (Ak (Bs ?_))
   obtain rfl:=SJ h
   exact dnT R R R R
 ·refine rm 11 R (Ak (Bs ?_))
  obtain rfl:=SJ h
  exact dnT R R R R
def Jk (a0:A3):Option Cf :=
 some (Cf.mk a0.Tx a0.Rng.Lo a0.Rng.Hi a0.Rng.Open)
theorem Qe {a0:A3} {r:Cf} (h:Jk a0=some r):Br Tryz.prog 236 [.agg (EL.el a0)] (·=.s (.agg (EL.el r))):=by
 unfold Jk at h
 refine A5 Tryz.func236 R (nt:=17) R (Nbl R) ?_
 intro w0 S0
 refine csr (F4 R R (Bp R Aw5 (Ak (csr (fl Ado ti3 R R R R R R (sv R (Ac X4 R) (fl Abg Mz R R R R R R (sv R (Q4 (l:=a0.Rng.Lo) Tryz.underlying56 Tryz.underlying5 Tryz.underlying9 R R R) (sv R (Ac X4 R) (fl Yl Mz R R R R R R (sv R (Q4 (l:=a0.Rng.Hi) Tryz.underlying56 Tryz.underlying5 Tryz.underlying9 R R R) (sv R (Ac X4 R) (fl Ai8 ti4 R R R R R R (sv R (A6 Aw5 Ax4 (Ax R (Ax R (Ax R (Ax R A1)))) (.cons _ _ _ _ _ _ _ R R (Nbl R) (.cons _ _ _ _ _ _ _ R R (Nbl R) (.cons _ _ _ _ _ _ _ R R (Nbl R) (.cons _ _ _ _ _ _ _ R R (Nbl R) (.nil _)))))) (sst Ayf R R R R R (Ak (Bs ?_)))))))))))))))))
 obtain rfl:=SJ h
 exact dnA R Azk R (.lp _ _ _ R) (Nbl R) R R
def Nc (b1:(List (Cf × Int))):Option (List (Cf × Int)) :=
 some b1
def Fc (a0:List A3) (s2:Int × (List (Cf × Int))):Option (LB (Int × (List (Cf × Int))) ((List (Cf × Int)))) :=
 if (decide (s2.1<(a0.length:Int))) then ((idx a0 s2.1).bind fun u3=>(Jk u3).bind fun v4=>some (.cont ((wI (s2.1+1)),(Wi s2.2 v4 s2.1)))) else (some (.brk s2.2))
def Hn (a0:List A3):Option (List (Cf × Int)) :=
 (Ct (Fc a0) fuel (0,([]:List (Cf × Int)))).bind fun e5=>Nc e5
theorem Q5 {a0:List A3} {r:(List (Cf × Int))} (h:Hn a0=some r):Dl Tryz.prog 185 [] [.one (.sl a0.length (a0.flatMap Ar))] (fun y m'=>y=.s (.one (.mp 0 0))∧m'=[U3 Dv r]):=by
 unfold Hn at h
 refine Dc Tryz.func185 R (nt:=20) R (Nbl R) ?_
 intro w0 S0 X0 H0
 refine csr (rm 1 R (Ak (csr (Ap0 Dv R (rm 1 R (Ak (Bl (csr (rm 1 R (sv R (Aw Abf R) (rm 1 R (Ak (cj ((List (Cf × Int))) (fun b1=>[(3,.s (.one (.mp 0 0)))]) (fun b1=>[U3 Dv b1]) (fun b1=>Nc b1=some r) (fun _=>R) (fun b1 h=>?_) ?_)))))))))))))
 ·unfold Nc at h
  refine csr (rm 2 R (Ak (Bs ?_)))
  obtain rfl:=SJ h
  exact ⟨Or.inr R,_,[0],[.one (.mp 0 0)],[U3 Dv b1],(Ad (rt R) Ai),R,R,⟨by decide,R⟩,R,R,⟨R,R⟩⟩
 ·skip
  refine Bq ?_
  obtain ⟨x2,hx2,ho2⟩:=Ae h
  refine lpo (G:=Nat × (Int × (List (Cf × Int)))) (fun g=>[(3,.s (.one (.mp 0 0))),(7,.s (.one (.sl a0.length (a0.flatMap Ar)))),(8,.s (.one (Ii6 (a0.length:Int)))),(9,.s (.one (Ii6 g.2.1)))]) (fun g=>[U3 Dv g.2.2]) (fun g=>Ct (Fc a0) g.1 g.2=some x2) (fun g=>g.1) (fuel,(0,([]:List (Cf × Int)))) hx2 ⟨R,R,R,R,trivial⟩ [] R (fun _=>R) ?_
  clear hx2 h
  rintro ⟨n2,s2⟩ h
  obtain ⟨n2,y2,rfl,h,hk2⟩:=Cu h
  unfold Fc at h
  refine csr (sv R (Bt R R) (Ak (Bl (ccI h R (fun h=>?_) (fun h=>?_)))))
  ·refine Bf (Ab (Bl (Bq (csr (sv R (A4 R) ?_)))))
   obtain ⟨u3,hu3,h⟩:=Ae h
   refine sv R (B8 (f:=Ar) Abf (fun _=>R) R R R R hu3) ?_
   refine sv R (Bz (ys:=[Ii6 u3.Tx,.sl u3.Rng.Lo.length (u3.Rng.Lo.flatMap eU8),.sl u3.Rng.Hi.length (u3.Rng.Hi.flatMap eU8),.b u3.Rng.Open]) Aa0 R (.cp _) R R) (Bp R Akh (rm 1 R (sst Amj R R R R R (Ak (Aq (rm 1 R (sv R (lo Aa0 R R R) ?_)))))))
   obtain ⟨v4,hv4,h⟩:=Ae h
   refine Ba R Avb (Aa R Af) (An R) (Qe hv4) (rm 1 R (As7 (M:=s2.2) (k:=v4) (i:=s2.1) Aw1 Tryz.underlying299 R R R R (Pz [U3 Dv (Wi s2.2 v4 s2.1),.box (EL.el u3)] R (Kz (Ap (Ab (Aq (sv R (Bo R R) (rm 1 R (Ak ?_))))))))))
   obtain rfl:=SJ h
   exact ⟨(n2,((wI (s2.1+1)),(Wi s2.2 v4 s2.1))),_,hk2,⟨R,R,R,R,trivial⟩,R,zG _⟩
  ·refine Da (As (As (Bj (Ab ?_))))
   obtain rfl:=SJ h
   obtain rfl:_=x2:=hk2
   exact ⟨s2.2,_,ho2,⟨R,trivial⟩,R⟩
def Jh (a0:Bv) (b1:Unit):Option Bool :=
 if (decide ((a0.L.length:Int)≤128)) then ((Hn a0.L).bind fun v3=>some (decide ((v3.length:Int)=(a0.L.length:Int)))) else (some false)
def Gm (a0:Bv) (s4:Int):Option (LR (Int) (Unit) (Bool)) :=
 if (decide (s4<(a0.L.length:Int))) then ((idx a0.L s4).bind fun u5=>(Di u5).bind fun v6=>if (!v6) then (some (.ret false)) else (some (.cont (wI (s4+1))))) else (some (.brk ()))
def F9 (a0:Bv):Option Bool :=
 (Lj (Gm a0) fuel 0).bind fun x=>match x with | .inl r=>some r | .inr e7=>Jh a0 e7
theorem Sn {a0:Bv} {r:Bool} (h:F9 a0=some r):Br Tryz.prog 110 [.agg [.sl a0.L.length (a0.L.flatMap Ar)]] (·=.s (.one (.b r))):=by
 unfold F9 at h
 refine A5 Tryz.func110 R (nt:=30) R (Nbl R) ?_
 intro w0 S0
 refine csr (F4 R R (rm 1 R (Ak (Bl (csr (fl Vl Ajx R R R R R R (sv R (Aw Abf R) (rm 1 R (Ak (cj (Unit) (fun b1=>[(1,.s (.one (.lp 0 0)))]) (fun b1=>[.box [.sl a0.L.length (a0.L.flatMap Ar)]]) (fun b1=>Jh a0 b1=some r) (fun _=>R) (fun b1 h=>?_) ?_))))))))))
 ·unfold Jh at h
  refine Bl (Aah ?_)
  rcases Bool.eq_false_or_eq_true (decide ((a0.L.length:Int)≤128)) with hg2 | hg2
  ·replace h:=Su hg2 h
   obtain ⟨v3,hv3,h⟩:=Ae h
   refine Ig [7] [0,1,3,7,15,31,63,127,255,31,543,1567,4095,8191,16383] [[.box [.sl a0.L.length (a0.L.flatMap Ar)],.hole],[.box [.sl a0.L.length (a0.L.flatMap Ar)],U3 Dv v3]] (by kernel_rfl) mixed (by kernel_rfl) (by decide) R R R R ?_
   refine ev (A7 0 R R) R R (Ac Vl R) (ev (A7 0 R R) R R (l1 Ajx R R R) (ev (A7 0 R R) R R (Aw Abf R) (ev (A7 0 R R) R R (De R R) (ev (A7 0 R R) R R (A4 R) (Aqw 20 R (fun _=>?_) (fun hx=>Bool.noConfusion (hg2.symm.trans hx)))))))
   refine evg (A7 0 R R) R R R R (Ac Vl R) (evg (A7 0 R R) R R R R (l1 Ajx R R R) (eeg (x:=.s (.one (.mp 0 1))) 0 R R R R R R R (fun ζ=>?_) ?_))
   ·refine Afw 1 R Avn (.func _) (Aa R Af) (Q5 hv3) R R R ?_
    exact Sv
   refine evg (A7 1 R R) R R R R (Ajq (e:=Dv) (M:=v3) Tryz.underlying299 R R) (evg (B5 (md:=[.box [.sl a0.L.length (a0.L.flatMap Ar)],.dead]) ⟨⟨R,⟨trivial,trivial⟩⟩,⟨⟨R,⟨trivial,trivial⟩⟩,trivial⟩⟩) R R R R (Ac Vl R) (evg (B5 (md:=[.box [.sl a0.L.length (a0.L.flatMap Ar)],.dead]) ⟨⟨R,⟨trivial,trivial⟩⟩,⟨⟨R,⟨trivial,trivial⟩⟩,trivial⟩⟩) R R R R (l1 Ajx R R R) (evg (B5 (md:=[.box [.sl a0.L.length (a0.L.flatMap Ar)],.dead]) ⟨⟨R,⟨trivial,trivial⟩⟩,⟨⟨R,⟨trivial,trivial⟩⟩,trivial⟩⟩) R R R R (Aw Abf R) (evg (A7 1 R R) R R R R (B4 R R) (ev (A7 1 R R) R R (Er R R) (ev (A7 1 R R) R R (Iu R) (Aas (Ab (Bs ?_)))))))))
   obtain rfl:=SJ h
   exact dnT R R R R
  ·replace h:=S6 hg2 h
   refine Ig [] [0,1,3,7,15,31,63,127,255,31,543,1567,4095,8191,16383] [[.box [.sl a0.L.length (a0.L.flatMap Ar)],.hole]] (by kernel_rfl) mixed (by kernel_rfl) (by decide) R R R R ?_
   refine ev (A7 0 R R) R R (Ac Vl R) (ev (A7 0 R R) R R (l1 Ajx R R R) (ev (A7 0 R R) R R (Aw Abf R) (ev (A7 0 R R) R R (De R R) (ev (A7 0 R R) R R (A4 R) (Aqw 20 R (fun hx=>Bool.noConfusion (hg2.symm.trans hx)) (fun _=>?_))))))
   refine Afc R R R R R (Afc R R R R R (Afc R R R R R (Afc R R R R R (Afc R R R R R (Afc R R R R R (Afc R R R R R (Afc R R R R R (ev (A7 0 R R) R R (Hq R R) (ev (A7 0 R R) R R (Iu R) (Aas (Ab (Bs ?_))))))))))))
   obtain rfl:=SJ h
   exact dnT R R R R
 ·skip
  refine Bq ?_
  obtain ⟨x4,hx4,ho4⟩:=Ae h
  refine lpo (G:=Nat × (Int)) (fun g=>[(1,.s (.one (.lp 0 0))),(6,.s (.one (.sl a0.L.length (a0.L.flatMap Ar)))),(7,.s (.one (Ii6 (a0.L.length:Int)))),(8,.s (.one (Ii6 g.2)))]) (fun g=>[.box [.sl a0.L.length (a0.L.flatMap Ar)]]) (fun g=>Lj (Gm a0) g.1 g.2=some x4) (fun g=>g.1) (fuel,0) hx4 ⟨R,R,R,R,trivial⟩ [] R (fun _=>R) ?_
  clear hx4 h
  rintro ⟨n4,s4⟩ h
  obtain ⟨n4,y4,rfl,h,hk4⟩:=Es h
  unfold Gm at h
  refine csr (sv R (Bt R R) (Ak (Bl (ccI h R (fun h=>?_) (fun h=>?_)))))
  ·refine Bf (Ab (Bl (Bq (Bl (Aq ?_)))))
   obtain ⟨u5,hu5,h⟩:=Ae h
   refine sv R (B8 (f:=Ar) Abf (fun _=>R) R R R R hu5) ?_
   refine sv R (Bz (ys:=[Ii6 u5.Tx,.sl u5.Rng.Lo.length (u5.Rng.Lo.flatMap eU8),.sl u5.Rng.Hi.length (u5.Rng.Hi.flatMap eU8),.b u5.Rng.Open]) Aa0 R (.cp _) R R) (Bp R Akh (sst Amj R R R R R (Ak (csr (sv R (lo Aa0 R R R) ?_)))))
   obtain ⟨v6,hv6,h⟩:=Ae h
   refine Ba R Aw3 (Aa R Af) (An R) (Ps hv6) (sv R (B0 R) (Ak (ccI h R (fun h=>?_) (fun h=>?_))))
   ·refine csr (rm 1 R (Ak (Bs (Az (Ag (Ag (Az (Ag ?_))))))))
    obtain rfl:=SJ h
    obtain rfl:Sum.inl _=x4:=hk4
    replace ho4:some _=some _:=ho4
    obtain rfl:=zD ho4
    exact dnT R R R R
   ·refine Bf (Ap (Ab (Aq (sv R (Bo R R) (rm 1 R (Ak ?_))))))
    obtain rfl:=SJ h
    exact ⟨(n4,(wI (s4+1))),_,hk4,⟨R,R,R,R,trivial⟩,R,zG _⟩
  ·refine Da (As (As (Bj (Ab ?_))))
   obtain rfl:=SJ h
   obtain rfl:_=x4:=hk4
   exact ⟨(),_,ho4,⟨R,trivial⟩,R⟩
def G1 (a0:List (List UInt8)) (b1:Unit):Option Bool :=
 (Ck a0).bind fun v2=>some v2
def Fa (a0:List (List UInt8)) (s3:Int):Option (LR (Int) (Unit) (Bool)) :=
 if (decide (s3<(a0.length:Int))) then ((idx a0 s3).bind fun u4=>(E1 u4).bind fun v5=>if (!v5) then (some (.ret false)) else (some (.cont (wI (s3+1))))) else (some (.brk ()))
def Ht (a0:List (List UInt8)):Option Bool :=
 (Lj (Fa a0) fuel 0).bind fun x=>match x with | .inl r=>some r | .inr e6=>G1 a0 e6
theorem Q9 {a0:List (List UInt8)} {r:Bool} (h:Ht a0=some r):Br Tryz.prog 186 [.one (.sl a0.length (a0.flatMap (eL eU8)))] (·=.s (.one (.b r))):=by
 unfold Ht at h
 refine A5 Tryz.func186 R (nt:=17) R (Nbl R) ?_
 intro w0 S0
 refine csr (rm 1 R (Ak (Bl (csr (rm 1 R (sv R (Aw S7 R) (rm 1 R (Ak (cj (Unit) (fun b1=>[(0,.s (.one (.sl a0.length (a0.flatMap (eL eU8)))))]) (fun b1=>[]) (fun b1=>G1 a0 b1=some r) (fun _=>R) (fun b1 h=>?_) ?_)))))))))
 ·unfold G1 at h
  refine csr (sv R (A4 R) ?_)
  obtain ⟨v2,hv2,h⟩:=Ae h
  refine Ba R Aph (Aa R Af) (An R) (Lz hv2) (rm 1 R (Ak (Bs ?_)))
  obtain rfl:=SJ h
  exact dnT R R R R
 ·skip
  refine Bq ?_
  obtain ⟨x3,hx3,ho3⟩:=Ae h
  refine lpo (G:=Nat × (Int)) (fun g=>[(0,.s (.one (.sl a0.length (a0.flatMap (eL eU8))))),(5,.s (.one (.sl a0.length (a0.flatMap (eL eU8))))),(6,.s (.one (Ii6 (a0.length:Int)))),(7,.s (.one (Ii6 g.2)))]) (fun g=>[]) (fun g=>Lj (Fa a0) g.1 g.2=some x3) (fun g=>g.1) (fuel,0) hx3 ⟨R,R,R,R,trivial⟩ [] R (fun _=>R) ?_
  clear hx3 h
  rintro ⟨n3,s3⟩ h
  obtain ⟨n3,y3,rfl,h,hk3⟩:=Es h
  unfold Fa at h
  refine csr (sv R (Bt R R) (Ak (Bl (ccI h R (fun h=>?_) (fun h=>?_)))))
  ·refine Bf (Ab (Bl (Bq (Bl (Aq ?_)))))
   obtain ⟨u4,hu4,h⟩:=Ae h
   refine sv R (B8 (f:=(eL eU8)) S7 (fun _=>R) R R R R hu4) ?_
   refine sv R (B6 Mz R (.cp _) R) (rm 1 R (Ak (csr (sv R (A4 R) ?_))))
   obtain ⟨v5,hv5,h⟩:=Ae h
   refine Ba R Aw9 (Aa R Af) (An R) (N9 hv5) (sv R (B0 R) (Ak (ccI h R (fun h=>?_) (fun h=>?_))))
   ·refine csr (rm 1 R (Ak (Bs (Az (Ag (Ag (Az (Ag ?_))))))))
    obtain rfl:=SJ h
    obtain rfl:Sum.inl _=x3:=hk3
    replace ho3:some _=some _:=ho3
    obtain rfl:=zD ho3
    exact dnT R R R R
   ·refine Bf (Ap (Ab (Aq (sv R (Bo R R) (rm 1 R (Ak ?_))))))
    obtain rfl:=SJ h
    exact ⟨(n3,(wI (s3+1))),_,hk3,⟨R,R,R,R,trivial⟩,R,zG _⟩
  ·refine Da (As (As (Bj (Ab ?_))))
   obtain rfl:=SJ h
   obtain rfl:_=x3:=hk3
   exact ⟨(),_,ho3,⟨R,trivial⟩,R⟩
def L6 (a0:A2) (b1:Unit):Option Bool :=
 if (decide (a0.State=1)) then (if (decide (a0.End=0)) then (some (decide ((a0.Keys.length:Int)=0))) else (some false)) else (if (decide (a0.State=2)) then (if (decide (a0.Begin<a0.End)) then (if (decide (a0.End≤1099511627776)) then ((Ht a0.Keys).bind fun v2=>if v2 then (if a0.RO then (some (!(decide (0<(a0.Keys.length:Int))))) else (some true)) else (some false)) else (some false)) else (some false)) else (some false))
def J8 (a0:A2):Option Bool :=
 if (decide (a0.ID<0)) then (some false) else (if (decide (a0.Begin<0)) then (some false) else (if (decide (1099511627776<a0.Begin)) then (some false) else (L6 a0 ())))
theorem R6 {a0:A2} {r:Bool} (h:J8 a0=some r):Br Tryz.prog 111 [.agg (EL.el a0)] (·=.s (.one (.b r))):=by
 unfold J8 at h
 refine A5 Tryz.func111 R (nt:=57) R (Nbl R) ?_
 intro w0 S0
 refine csr (F4 R R (rm 1 R (Ak (Bl (Bl (cj3 (Unit) (fun b1=>[(1,.s (.one (.lp 0 0)))]) (fun b1=>[.box (EL.el a0)]) (fun b1=>L6 a0 b1=some r) (fun _=>R) (fun b1 h=>?_) ?_))))))
 ·unfold L6 at h
  refine Bl (csr (fl Pj ti3 R R R R R R (Ak (Bq (csr (sv R (B4 R R) (rm 1 R (Ak (ccI h R (fun h=>?_) (fun h=>?_))))))))))
  ·refine csr (fl Q0 ti3 R R R R R R (sv R (B4 R R) (rm 1 R (ssI 23 h R (fun h=>?_) (fun h=>?_)))))
   ·refine son R R R (sv R (Ac Uh R) (son R R R (sv R (l1 Abe R R R) (son R R R (sv R (Aw S7 R) (son R R R (sv R (B4 R R) (rm 2 R (Ak (Bs (Az (Ag ?_))))))))))))
    obtain rfl:=SJ h
    exact dnT R R R R
   ·refine rm 6 R (Ak (Bs (Az (Ag ?_))))
    obtain rfl:=SJ h
    exact dnT R R R R
  ·refine csr (sv R (B4 R R) (rm 1 R (Ak (ccI h R (fun h=>?_) (fun h=>?_)))))
   ·refine csr (fl Q0 ti3 R R R R R R (fl Vx ti3 R R R R R R (sv R (C5 R R) (rm 1 R (ssI 36 h R (fun h=>?_) (fun h=>?_))))))
    ·refine son R R R (sv R (Ac Q0 R) (son R R R (sv R (l1 ti3 R R R) (son R R R (sv R (De R R) (rm 2 R (ssI 41 h R (fun h=>?_) (fun h=>?_))))))))
     ·refine son R R R (sv R (Ac Uh R) (son R R R (sv R (l1 Abe R R R) (son R R R ?_))))
      obtain ⟨v2,hv2,h⟩:=Ae h
      refine Ba R Aut (Aa R Af) (An R) (Q9 hv2) (rm 2 R (ssI 46 h R (fun h=>?_) (fun h=>?_)))
      ·refine son R R R (sv R (Ac Ahl R) (son R R R (sv R (l1 ti4 R R R) (rm 1 R (ssI 49 h R (fun h=>?_) (fun h=>?_))))))
       ·refine son R R R (sv R (Ac Uh R) (son R R R (sv R (l1 Abe R R R) (son R R R (sv R (Aw S7 R) (son R R R (sv R (C5 R R) (rm 1 R (son R R R (sv R (B0 R) (rm 2 R (Ak (Bs (Az (Ag ?_)))))))))))))))
        obtain rfl:=SJ h
        exact dnT R R R R
       ·refine rm 5 R (son R R R (sv R (B0 R) (rm 2 R (Ak (Bs (Az (Ag ?_)))))))
        obtain rfl:=SJ h
        exact dnT R R R R
      ·refine rm 3 R (Ch R R R (Ch R R R (Ch R R R (Ch R R R (rm 4 R (Ak (Bs (Az (Ag ?_)))))))))
       obtain rfl:=SJ h
       exact dnT R R R R
     ·refine rm 8 R (Ch R R R (Ch R R R (Ch R R R (Ch R R R (rm 4 R (Ak (Bs (Az (Ag ?_)))))))))
      obtain rfl:=SJ h
      exact dnT R R R R
    ·refine rm 13 R (Ch R R R (Ch R R R (Ch R R R (Ch R R R (rm 4 R (Ak (Bs (Az (Ag ?_)))))))))
     obtain rfl:=SJ h
     exact dnT R R R R
   ·refine Bf (Ap (Ab (csr (rm 1 R (Ak (Bs ?_))))))
    obtain rfl:=SJ h
    exact dnT R R R R
 ·skip
  refine Aq (fl T1 ti3 R R R R R R (sv R (Bt R R) (rm 1 R (ssI 6 h R (fun h=>?_) (fun h=>?_)))))
  ·refine rm 9 R (Ak (Ci R (fun _=>?_) (fun hx=>Bool.noConfusion hx)))
   refine csr (rm 1 R (Ak (Bs (Ag ?_))))
   obtain rfl:=SJ h
   exact dnT R R R R
  ·refine son R R R (sv R (Ac Vx R) (son R R R (sv R (l1 ti3 R R R) (son R R R (sv R (Bt R R) (rm 2 R (ssI 11 h R (fun h=>?_) (fun h=>?_))))))))
   ·refine rm 4 R (Ak (Ci R (fun _=>?_) (fun hx=>Bool.noConfusion hx)))
    refine csr (rm 1 R (Ak (Bs (Ag ?_))))
    obtain rfl:=SJ h
    exact dnT R R R R
   ·refine son R R R (sv R (Ac Vx R) (son R R R (sv R (l1 ti3 R R R) (son R R R (sv R (C5 R R) (rm 1 R (Ak (ccI h R (fun h=>?_) (fun h=>?_)))))))))
    ·refine csr (rm 1 R (Ak (Bs (Ag ?_))))
     obtain rfl:=SJ h
     exact dnT R R R R
    ·refine Bf (Ab ?_)
     exact ⟨(),_,h,⟨R,trivial⟩,R⟩
def Hs (a0:A2) (a1:A2) (b1:Bool):Option Bool :=
 if (decide (a0.ID=a1.ID)) then (some true) else (if (decide (a0.State=2)) then (if (decide (a1.State=2)) then (if (decide (a0.End=a1.End)) then (some b1) else (some false)) else (some false)) else (some false))
def Np (a0:A2) (a1:A2):Option Bool :=
 if (decide (0<(a0.Keys.length:Int))) then (Hs a0 a1 true) else (Hs a0 a1 (decide (0<(a1.Keys.length:Int))))
theorem Y0 {a0:A2} {a1:A2} {r:Bool} (h:Np a0 a1=some r):Br Tryz.prog 112 [.agg (EL.el a0),.agg (EL.el a1)] (·=.s (.one (.b r))):=by
 unfold Np at h
 refine A5 Tryz.func112 R (nt:=41) R (Nbl R) ?_
 intro w0 S0
 refine csr (F4 R R (F4 R R (rm 1 R (Ak (Bl (cj (Bool) (fun b1=>[(2,.s (.one (.lp 0 0))),(3,.s (.one (.lp 1 0))),(5,.s (.one (.b b1)))]) (fun b1=>[.box (EL.el a0),.box (EL.el a1)]) (fun b1=>Hs a0 a1 b1=some r) (fun _=>R) (fun b1 h=>?_) ?_))))))
 ·unfold Hs at h
  refine csr (fl T1 ti3 R R R R R R (fl T1 ti3 R R R R R R (sv R (B4 R R) (rm 1 R (ssI 21 h R (fun h=>?_) (fun h=>?_))))))
  ·refine rm 4 R (Ch R R R (Ch R R R (Ch R R R (rm 2 R (Ch R R R (Ch R R R (Ch R R R (Ch R R R (Ch R R R (rm 2 R (Ch R R R (rm 3 R (Ak (Bs ?_))))))))))))))
   obtain rfl:=SJ h
   exact dnT R R R R
  ·refine son R R R (sv R (Ac Pj R) (son R R R (sv R (l1 ti3 R R R) (son R R R (sv R (B4 R R) (rm 1 R (ssI 25 h R (fun h=>?_) (fun h=>?_))))))))
   ·refine son R R R (sv R (Ac Pj R) (son R R R (sv R (l1 ti3 R R R) (son R R R (sv R (B4 R R) (rm 2 R (ssI 30 h R (fun h=>?_) (fun h=>?_))))))))
    ·refine son R R R (sv R (Ac Q0 R) (son R R R (sv R (l1 ti3 R R R) (son R R R (sv R (Ac Q0 R) (son R R R (sv R (l1 ti3 R R R) (son R R R (sv R (B4 R R) (rm 2 R (ssI 37 h R (fun h=>?_) (fun h=>?_))))))))))))
     ·refine rm 4 R (Ak (Bs ?_))
      obtain rfl:=SJ h
      exact dnT R R R R
     ·refine rm 4 R (Ak (Bs ?_))
      obtain rfl:=SJ h
      exact dnT R R R R
    ·refine rm 11 R (Ak (Bs ?_))
     obtain rfl:=SJ h
     exact dnT R R R R
   ·refine rm 16 R (Ak (Bs ?_))
    obtain rfl:=SJ h
    exact dnT R R R R
 ·skip
  refine Aq (fl Uh Abe R R R R R R (sv R (Aw S7 R) (sv R (C5 R R) (rm 1 R (ssI 10 h R (fun h=>?_) (fun h=>?_))))))
  ·refine rm 6 R (Ak ?_)
   exact ⟨true,_,h,⟨R,R,R,trivial⟩,R⟩
  ·refine son R R R (sv R (Ac Uh R) (son R R R (sv R (l1 Abe R R R) (son R R R (sv R (Aw S7 R) (son R R R (sv R (C5 R R) (rm 2 R (Ak ?_)))))))))
   exact ⟨(decide (0<(a1.Keys.length:Int))),_,h,⟨R,R,R,trivial⟩,R⟩
def Qx (b1:(List Int)):Option (List Int) :=
 some b1
def Kw (a0:List A2) (s2:Int × (List Int)):Option (LB (Int × (List Int)) ((List Int))) :=
 if (decide (s2.1<(a0.length:Int))) then ((idx a0 s2.1).bind fun u3=>if (s2.2.length+[u3.ID].length)*8≤140737488355328 then (some (.cont ((wI (s2.1+1)),(s2.2++[u3.ID])))) else none) else (some (.brk s2.2))
def N7 (a0:List A2):Option (List Int) :=
 (Ct (Kw a0) fuel (0,([]:List Int))).bind fun e5=>Qx e5
theorem Vi {a0:List A2} {r:(List Int)} (h:N7 a0=some r):Br Tryz.prog 114 [.one (.sl a0.length (a0.flatMap Bb))] (·=.s (.one (.sl r.length (r.flatMap eI)))):=by
 unfold N7 at h
 refine A5 Tryz.func114 R (nt:=19) R (Nbl R) ?_
 intro w0 S0
 refine csr (rm 1 R (Ak (csr (rm 1 R (Ak (Bl (csr (rm 1 R (sv R (Aw Qm R) (rm 1 R (Ak ?_)))))))))))
 refine C6 3 1 3 (by decide) R ?_
 refine cj ((List Int)) (fun b1=>[(3,.s (.one (.ls 0 b1.length)))]) (fun b1=>[.arr 3 1 0 (b1.flatMap eI)]) (fun b1=>Qx b1=some r) (fun _=>R) (fun b1 h=>?_) ?_
 ·unfold Qx at h
  refine csr (rm 2 R (Ak (Bs ?_)))
  obtain rfl:=SJ h
  refine ⟨Or.inr R,_,_,_,(Ad (rt R) Ai),(by (repeat' first | exact Ic.nil _ | apply Ic.cons | apply H6.one | apply H6.agg | exact Cz.nil | exact Cz.ls _ _ _ _ _ _ R (Au (f:=eI) (fun _=>R) _).symm | exact Cz.id _ R | exact Co.nil _ | apply Co.cons)),?_⟩
  rfl
 ·skip
  refine Bq ?_
  obtain ⟨x2,hx2,ho2⟩:=Ae h
  refine lpo (G:=Nat × (Int × (List Int))) (fun g=>[(3,.s (.one (.ls 0 g.2.2.length))),(6,.s (.one (.sl a0.length (a0.flatMap Bb)))),(7,.s (.one (Ii6 (a0.length:Int)))),(8,.s (.one (Ii6 g.2.1)))]) (fun g=>[.arr 3 1 0 (g.2.2.flatMap eI)]) (fun g=>Ct (Kw a0) g.1 g.2=some x2) (fun g=>g.1) (fuel,(0,([]:List Int))) hx2 ⟨R,R,R,R,trivial⟩ [] R (fun _=>R) ?_
  clear hx2 h
  rintro ⟨n2,s2⟩ h
  obtain ⟨n2,y2,rfl,h,hk2⟩:=Cu h
  unfold Kw at h
  refine csr (sv R (Bt R R) (Ak (Bl (ccI h R (fun h=>?_) (fun h=>?_)))))
  ·refine Bf (Ab (Bl (Bq (Bl (Aq ?_)))))
   obtain ⟨u3,hu3,h⟩:=Ae h
   refine sv R (B8 (f:=Bb) Qm (fun _=>R) R R R R hu3) ?_
   refine sv R (Bz (ys:=[Ii6 u3.ID,Ii6 u3.Begin,Ii6 u3.End,Ii6 u3.State,.b u3.In,.b u3.Out,.b u3.RO,.sl u3.Keys.length (u3.Keys.flatMap (eL eU8))]) Ju R (.cp _) R R) (Bp R Tj (sst Tb R R R R R (Ak (Aq (rm 1 R (sv R (Ac T1 R) (sv R (l1 ti3 R R R) ?_)))))))
   refine Fo R Tryz.underlying225 ei3 R R (zJ.1 R) (by decide) ?_
   refine Pz [.arr 3 1 0 (s2.2.flatMap eI),.box (EL.el u3),.arr 3 1 0 ([u3.ID].flatMap eI)] R ?_
   obtain ⟨hb4,h⟩:=Cp h
   refine Tr (f:=eI) (xs:=s2.2) (us:=[u3.ID]) R Tryz.underlying225 ei3 Am9 (fun _=>R) R R (.one _ _ _ _ (.ls _ _ _ _ _ _ R (Au (f:=eI) (fun _=>R) [u3.ID]).symm)) R R R (.sl _ _ _ (Au (f:=eI) (fun _=>R) _)) R R hb4 (by decide) ?_
   refine rm 1 R (Kz (Ap (Ab (Aq (sv R (Bo R R) (rm 1 R (Ak ?_)))))))
   obtain rfl:=SJ h
   exact ⟨(n2,((wI (s2.1+1)),(s2.2++[u3.ID]))),_,hk2,⟨R,R,R,R,trivial⟩,R,zG _⟩
  ·refine Da (As (As (Bj (Ab ?_))))
   obtain rfl:=SJ h
   obtain rfl:_=x2:=hk2
   exact ⟨s2.2,_,ho2,⟨R,trivial⟩,R⟩
def Nj (b1:Unit):Option Int :=
 some (-1)
def Dq (a0:List Int) (a1:Int) (s2:Int):Option (LR (Int) (Unit) (Int)) :=
 if (decide (s2<(a0.length:Int))) then ((idx a0 s2).bind fun u3=>if (decide (a1=u3)) then (some (.ret s2)) else (some (.cont (wI (s2+1))))) else (some (.brk ()))
def Ep (a0:List Int) (a1:Int):Option Int :=
 (Lj (Dq a0 a1) fuel 0).bind fun x=>match x with | .inl r=>some r | .inr e4=>Nj e4
theorem Qr {a0:List Int} {a1:Int} {r:Int} (h:Ep a0 a1=some r):Br Tryz.prog 197 [.one (.sl a0.length (a0.flatMap eI)),.one (Ii6 a1)] (·=.s (.one (Ii6 r))):=by
 unfold Ep at h
 refine A5 Tryz.func197 R (nt:=19) R (Nbl R) ?_
 intro w0 S0
 refine csr (rm 1 R (Ak (Bl (csr (rm 1 R (sv R (Aw Asb R) (rm 1 R (Ak (cj (Unit) (fun b1=>[]) (fun b1=>[]) (fun b1=>Nj b1=some r) (fun _=>R) (fun b1 h=>?_) ?_)))))))))
 ·unfold Nj at h
  refine csr (rm 1 R (Ak (Bs ?_)))
  obtain rfl:=SJ h
  exact dnT R R R R
 ·skip
  refine Bq ?_
  obtain ⟨x2,hx2,ho2⟩:=Ae h
  refine lpo (G:=Nat × (Int)) (fun g=>[(0,.s (.one (.sl a0.length (a0.flatMap eI)))),(1,.s (.one (Ii6 a1))),(7,.s (.one (Ii6 (a0.length:Int)))),(8,.s (.one (Ii6 g.2)))]) (fun g=>[]) (fun g=>Lj (Dq a0 a1) g.1 g.2=some x2) (fun g=>g.1) (fuel,0) hx2 ⟨R,R,R,R,trivial⟩ [] R (fun _=>R) ?_
  clear hx2 h
  rintro ⟨n2,s2⟩ h
  obtain ⟨n2,y2,rfl,h,hk2⟩:=Es h
  unfold Dq at h
  refine csr (sv R (Bt R R) (Ak (Bl (ccI h R (fun h=>?_) (fun h=>?_)))))
  ·refine Bf (Ab (Bl (Bq (csr (rm 2 R (Ak (csr (rm 2 R (sv R (A4 R) ?_)))))))))
   obtain ⟨u3,hu3,h⟩:=Ae h
   refine sv R (B8 (f:=eI) Asb (fun _=>R) R R R R hu3) ?_
   refine sv R (B6 ti3 R (.cp _) R) (sv R (B4 R R) (Ak (ccI h R (fun h=>?_) (fun h=>?_))))
   ·refine csr (rm 2 R (Ak (Bs (Az (Ag (Ag (Az (Ag ?_))))))))
    obtain rfl:=SJ h
    obtain rfl:Sum.inl _=x2:=hk2
    replace ho2:some _=some _:=ho2
    obtain rfl:=zD ho2
    exact dnT R R R R
   ·refine Bf (Ap (Ab (Aq (sv R (Bo R R) (rm 1 R (Ak ?_))))))
    obtain rfl:=SJ h
    exact ⟨(n2,(wI (s2+1))),_,hk2,⟨R,R,R,R,trivial⟩,R,zG _⟩
  ·refine Da (As (As (Bj (Ab ?_))))
   obtain rfl:=SJ h
   obtain rfl:_=x2:=hk2
   exact ⟨(),_,ho2,trivial,R⟩
def Du (a0:List Int) (a1:Int):Option Bool :=
 (Ep a0 a1).bind fun v1=>some (decide (0≤v1))
theorem Lw {a0:List Int} {a1:Int} {r:Bool} (h:Du a0 a1=some r):Br Tryz.prog 237 [.one (.sl a0.length (a0.flatMap eI)),.one (Ii6 a1)] (·=.s (.one (.b r))):=by
 unfold Du at h
 refine A5 Tryz.func237 R (nt:=9) R (Nbl R) ?_
 intro w0 S0
 refine csr (rm 1 R (Ak (csr (rm 1 R (sv R (A4 R) ?_)))))
 obtain ⟨v1,hv1,h⟩:=Ae h
 refine Ba R Avl (Aa R (Aa R Af)) (An R) (Qr hv1) (sv R (Hz R R) (rm 1 R (Ak (Bs ?_))))
 obtain rfl:=SJ h
 exact dnT R R R R
def Oc (b1:(List A3)):Option Bv :=
 some (Bv.mk b1)
def Gr (a0:Bv) (a1:List Int) (a2:Bool) (s2:Int × (List A3)):Option (LB (Int × (List A3)) ((List A3))) :=
 if (decide (s2.1<(a0.L.length:Int))) then ((idx a0.L s2.1).bind fun u3=>(Du a1 u3.Tx).bind fun v4=>if (v4 == a2) then (if (s2.2.length+[u3].length)*64≤140737488355328 then (some (.cont ((wI (s2.1+1)),(s2.2++[u3])))) else none) else (some (.cont ((wI (s2.1+1)),s2.2)))) else (some (.brk s2.2))
def Md (a0:Bv) (a1:List Int) (a2:Bool):Option Bv :=
 (Ct (Gr a0 a1 a2) fuel (0,([]:List A3))).bind fun e6=>Oc e6
theorem Xq {a0:Bv} {a1:List Int} {a2:Bool} {r:Bv} (h:Md a0 a1 a2=some r):Br Tryz.prog 187 [.agg [.sl a0.L.length (a0.L.flatMap Ar)],.one (.sl a1.length (a1.flatMap eI)),.one (.b a2)] (·=.s (.agg [.sl r.L.length (r.L.flatMap Ar)])):=by
 unfold Md at h
 refine A5 Tryz.func187 R (nt:=30) R (Nbl R) ?_
 intro w0 S0
 refine csr (F4 R R (Bp R Aow (Ak (csr (rm 1 R (Ak (Bl (csr (fl Vl Ajx R R R R R R (sv R (Aw Abf R) (rm 1 R (Ak ?_))))))))))))
 refine C6 142 4 7 (by decide) R ?_
 refine cj ((List A3)) (fun b1=>[(6,.s (.one (.lp 1 0))),(7,.s (.one (.ls 2 b1.length)))]) (fun b1=>[.box [.sl a0.L.length (a0.L.flatMap Ar)],.box [Znl],.arr 142 4 0 (b1.flatMap Ar)]) (fun b1=>Oc b1=some r) (fun _=>R) (fun b1 h=>?_) ?_
 ·unfold Oc at h
  refine csr (rm 1 R (sv R (A6 Aow Au3 (Ax R A1) (.cons _ _ _ _ _ _ _ R R (Nbl R) (.nil _))) (sst Arp R R R R R (Ak (Bs ?_)))))
  obtain rfl:=SJ h
  refine ⟨Or.inr R,_,_,_,(Ad (ra Aco R R R) Ai),(by (repeat' first | exact Ic.nil _ | apply Ic.cons | apply H6.one | apply H6.agg | exact Cz.nil | exact Cz.ls _ _ _ _ _ _ R (Au (f:=Ar) (fun _=>R) _).symm | exact Cz.id _ R | exact Co.nil _ | apply Co.cons)),?_⟩
  rfl
 ·skip
  refine Bq ?_
  obtain ⟨x2,hx2,ho2⟩:=Ae h
  refine lpo (G:=Nat × (Int × (List A3))) (fun g=>[(1,.s (.one (.sl a1.length (a1.flatMap eI)))),(2,.s (.one (.b a2))),(6,.s (.one (.lp 1 0))),(7,.s (.one (.ls 2 g.2.2.length))),(11,.s (.one (.sl a0.L.length (a0.L.flatMap Ar)))),(12,.s (.one (Ii6 (a0.L.length:Int)))),(13,.s (.one (Ii6 g.2.1)))]) (fun g=>[.box [.sl a0.L.length (a0.L.flatMap Ar)],.box [Znl],.arr 142 4 0 (g.2.2.flatMap Ar)]) (fun g=>Ct (Gr a0 a1 a2) g.1 g.2=some x2) (fun g=>g.1) (fuel,(0,([]:List A3))) hx2 ⟨R,R,R,R,R,R,R,trivial⟩ [] R (fun _=>R) ?_
  clear hx2 h
  rintro ⟨n2,s2⟩ h
  obtain ⟨n2,y2,rfl,h,hk2⟩:=Cu h
  unfold Gr at h
  refine csr (sv R (Bt R R) (Ak (Bl (ccI h R (fun h=>?_) (fun h=>?_)))))
  ·refine Bf (Ab (Bl (Bq (Bl (Aq ?_)))))
   obtain ⟨u3,hu3,h⟩:=Ae h
   refine sv R (B8 (f:=Ar) Abf (fun _=>R) R R R R hu3) ?_
   refine sv R (Bz (ys:=[Ii6 u3.Tx,.sl u3.Rng.Lo.length (u3.Rng.Lo.flatMap eU8),.sl u3.Rng.Hi.length (u3.Rng.Hi.flatMap eU8),.b u3.Rng.Open]) Aa0 R (.cp _) R R) (Bp R Akh (sst Amj R R R R R (Ak (csr (rm 1 R (sv R (Ac Ado R) (sv R (l1 ti3 R R R) ?_)))))))
   obtain ⟨v4,hv4,h⟩:=Ae h
   refine Ba R Aty (Aa R (Aa R Af)) (An R) (Lw hv4) (rm 1 R (sv R (Ai3 Tryz.underlying4 R R) (Ak (ccI h R (fun h=>?_) (fun h=>?_)))))
   ·refine Aq (rm 1 R (sv R (lo Aa0 R R R) ?_))
    refine Fo R Tryz.underlying30 Amt R R (zJ.1 R) (by decide) ?_
    refine Pz [.box [.sl a0.L.length (a0.L.flatMap Ar)],.box [Znl],.arr 142 4 0 (s2.2.flatMap Ar),.box (EL.el u3),.arr 142 4 0 ([u3].flatMap Ar)] R ?_
    obtain ⟨hb5,h⟩:=Cp h
    refine Tr (f:=Ar) (xs:=s2.2) (us:=[u3]) R Tryz.underlying30 Amt A0d (fun _=>R) R R (.one _ _ _ _ (.ls _ _ _ _ _ _ R (Au (f:=Ar) (fun _=>R) [u3]).symm)) R R R (.sl _ _ _ (Au (f:=Ar) (fun _=>R) _)) R R hb5 (by decide) ?_
    refine rm 1 R (Kz (Ap (Ab (Aq (sv R (Bo R R) (rm 1 R (Ak ?_)))))))
    obtain rfl:=SJ h
    exact ⟨(n2,((wI (s2.1+1)),(s2.2++[u3]))),_,hk2,⟨R,R,R,R,R,R,R,trivial⟩,R,zG _⟩
   ·refine Bf (Ap (Ab (Aq (sv R (Bo R R) (rm 1 R (Ak ?_))))))
    obtain rfl:=SJ h
    exact ⟨(n2,((wI (s2.1+1)),s2.2)),_,hk2,⟨R,R,R,R,R,R,R,trivial⟩,R,zG _⟩
  ·refine Da (As (As (Bj (Ab ?_))))
   obtain rfl:=SJ h
   obtain rfl:_=x2:=hk2
   exact ⟨s2.2,_,ho2,⟨R,R,trivial⟩,R⟩
def Kk (a0:Bv) (a1:List Int):Option Bv :=
 (Md a0 a1 false).bind fun v1=>some v1
theorem R1 {a0:Bv} {a1:List Int} {r:Bv} (h:Kk a0 a1=some r):Br Tryz.prog 113 [.agg [.sl a0.L.length (a0.L.flatMap Ar)],.one (.sl a1.length (a1.flatMap eI))] (·=.s (.agg [.sl r.L.length (r.L.flatMap Ar)])):=by
 unfold Kk at h
 refine A5 Tryz.func113 R (nt:=8) R (Nbl R) ?_
 intro w0 S0
 refine csr (F4 R R (Bp R Aow (Ak (csr (ld Aco R R R R (sv R (A4 R) ?_))))))
 obtain ⟨v1,hv1,h⟩:=Ae h
 refine Ba R Axx (Aa R (Aa R (Aa R Af))) (An R) (Xq hv1) (sst Arp R R R R R (Ak (Bs ?_)))
 obtain rfl:=SJ h
 exact dnA R Aco R (.lp _ _ _ R) (Nbl R) R R
def Mw (a0:Bc) (b2:Unit):Option Bool :=
 (N7 a0.Txs).bind fun v3=>(Kk a0.Reads v3).bind fun v4=>some (decide ((v4.L.length:Int)=0))
def Mp (s5:Int) (b9:Unit):Option (LR (Int) (Unit) (Bool)) :=
 some (.cont (wI (s5+1)))
def Il (u6:A2) (c8:List A2) (s10:Int):Option (LR (Int) (Unit) (Bool)) :=
 if (decide (s10<(c8.length:Int))) then ((idx c8 s10).bind fun u11=>(Np u6 u11).bind fun v12=>if v12 then (some (.ret false)) else (some (.cont (wI (s10+1))))) else (some (.brk ()))
def Ka (a0:Bc) (s5:Int):Option (LR (Int) (Unit) (Bool)) :=
 if (decide (s5<(a0.Txs.length:Int))) then ((idx a0.Txs s5).bind fun u6=>(J8 u6).bind fun v7=>if (!v7) then (some (.ret false)) else ((cut a0.Txs 0 s5).bind fun c8=>(Lj (Il u6 c8) fuel 0).bind fun x=>match x with | .inl r=>some (.ret r) | .inr e13=>Mp s5 e13)) else (some (.brk ()))
def Ow (a0:Bc) (b1:Unit):Option Bool :=
 (Lj (Ka a0) fuel 0).bind fun x=>match x with | .inl r=>some r | .inr e14=>Mw a0 e14
def K4 (a0:Bc):Option Bool :=
 if (decide (64<(a0.Txs.length:Int))) then (some false) else ((F9 a0.Reads).bind fun v15=>if (!v15) then (some false) else (Ow a0 ()))
theorem Pl {a0:Bc} {r:Bool} (h:K4 a0=some r):Br Tryz.prog 46 [.agg (EL.el a0)] (·=.s (.one (.b r))):=by
 unfold K4 at h
 refine A5 Tryz.func46 R (nt:=51) R (Nbl R) ?_
 intro w0 S0
 refine csr (F4 R R (rm 1 R (Ak (Bl (Bl (cj3 (Unit) (fun b1=>[(1,.s (.one (.lp 0 0)))]) (fun b1=>[.box (EL.el a0)]) (fun b1=>Ow a0 b1=some r) (fun _=>R) (fun b1 h=>?_) ?_))))))
 ·unfold Ow at h
  refine Bl (csr (fl Oo Aa8 R R R R R R (sv R (Aw Qm R) (rm 1 R (Ak (cj (Unit) (fun b2=>[(1,.s (.one (.lp 0 0)))]) (fun b2=>[.box (EL.el a0)]) (fun b2=>Mw a0 b2=some r) (fun _=>R) (fun b2 h=>?_) ?_))))))
  ·unfold Mw at h
   refine Bl ?_
   refine Z3 mixed (by kernel_rfl) ?_
   refine dv R (Ac Yo R) (dv R (lo Aco R R R) (dv R (Ac Oo R) (dv R (l1 Aa8 R R R) ?_)))
   obtain ⟨v3,hv3,h⟩:=Ae h
   refine dd R (Cy Aus (Aa R Af) R (Vi hv3)) ?_
   obtain ⟨v4,hv4,h⟩:=Ae h
   refine dd R (Cy Avf (Aa R (Aa R Af)) R (R1 hv4)) (dv R (Ajz Av5 Ajx R R) (dv R (Aw Abf R) (dv R (B4 R R) (dv R (Iu R) (Zq (Ab (Bs ?_)))))))
   obtain rfl:=SJ h
   exact dnT R R R R
  ·skip
   refine Bq ?_
   obtain ⟨x5,hx5,ho5⟩:=Ae h
   refine lpo (G:=Nat × (Int)) (fun g=>[(1,.s (.one (.lp 0 0))),(18,.s (.one (.sl a0.Txs.length (a0.Txs.flatMap Bb)))),(19,.s (.one (Ii6 (a0.Txs.length:Int)))),(20,.s (.one (Ii6 g.2)))]) (fun g=>[.box (EL.el a0)]) (fun g=>Lj (Ka a0) g.1 g.2=some x5) (fun g=>g.1) (fuel,0) hx5 ⟨R,R,R,R,trivial⟩ [] R (fun _=>R) ?_
   clear hx5 h
   rintro ⟨n5,s5⟩ h
   obtain ⟨n5,y5,rfl,h,hk5⟩:=Es h
   unfold Ka at h
   refine csr (sv R (Bt R R) (Ak (Bl (ccI h R (fun h=>?_) (fun h=>?_)))))
   ·refine Bf (Ab (Bl (Bq (csr (sv R (A4 R) ?_)))))
    obtain ⟨u6,hu6,h⟩:=Ae h
    refine sv R (B8 (f:=Bb) Qm (fun _=>R) R R R R hu6) ?_
    refine sv R (Bz (ys:=[Ii6 u6.ID,Ii6 u6.Begin,Ii6 u6.End,Ii6 u6.State,.b u6.In,.b u6.Out,.b u6.RO,.sl u6.Keys.length (u6.Keys.flatMap (eL eU8))]) Ju R (.cp _) R R) (Bp R Tj (rm 1 R (sst Tb R R R R R (Ak (Bl (csr (sv R (lo Ju R R R) ?_)))))))
    obtain ⟨v7,hv7,h⟩:=Ae h
    refine Ba R Awi (Aa R Af) (An R) (R6 hv7) (sv R (B0 R) (Ak (ccI h R (fun h=>?_) (fun h=>?_))))
    ·refine csr (rm 1 R (Ak (Bs (Ag (Az (Ag (Ag (Az (Ag ?_)))))))))
     obtain rfl:=SJ h
     obtain rfl:Sum.inl _=x5:=hk5
     replace ho5:some _=some _:=ho5
     obtain rfl:=zD ho5
     exact dnT R R R R
    ·refine Bf (Ab (csr (fl Oo Aa8 R R R R R R (sv R (A4 R) ?_))))
     obtain ⟨c8,hc8,h⟩:=Ae h
     refine sv R (X2 (f:=Bb) (lo:=0) (hi:=s5) Qm (fun _=>R) R R R Up (Ql R (Int.le_trans (T6 hc8).1.1 (T6 hc8).1.2.1)) hc8) ?_
     refine sv R (Aw Qm R) (rm 1 R (Ak (Arr (Unit) (fun b9=>[(1,.s (.one (.lp 0 0))),(18,.s (.one (.sl a0.Txs.length (a0.Txs.flatMap Bb)))),(19,.s (.one (Ii6 (a0.Txs.length:Int)))),(20,.s (.one (Ii6 s5)))]) (fun b9=>[.box (EL.el a0),.box (EL.el u6)]) (fun b9=>Mp s5 b9=some y5) (fun _ _=>Zn R) (fun _ _=>Rz R) (fun _ _=>Nbl R) (fun b9 h=>?_) ?_)))
     ·unfold Mp at h
      refine Aq (sv R (Bo R R) (rm 1 R (Ak ?_)))
      obtain rfl:=SJ h
      exact ⟨(n5,(wI (s5+1))),_,hk5,⟨R,R,R,R,trivial⟩,R,zG _⟩
     ·skip
      refine Bq ?_
      obtain ⟨x10,hx10,ho10⟩:=Ae h
      refine lpo (G:=Nat × (Int)) (fun g=>[(1,.s (.one (.lp 0 0))),(4,.s (.one (.lp 1 0))),(18,.s (.one (.sl a0.Txs.length (a0.Txs.flatMap Bb)))),(19,.s (.one (Ii6 (a0.Txs.length:Int)))),(20,.s (.one (Ii6 s5))),(31,.s (.one (.sl c8.length (c8.flatMap Bb)))),(32,.s (.one (Ii6 (c8.length:Int)))),(33,.s (.one (Ii6 g.2)))]) (fun g=>[.box (EL.el a0),.box (EL.el u6)]) (fun g=>Lj (Il u6 c8) g.1 g.2=some x10) (fun g=>g.1) (fuel,0) hx10 ⟨R,R,R,R,R,R,R,R,trivial⟩ [] R (fun _=>R) ?_
      clear hx10 h
      rintro ⟨n10,s10⟩ h
      obtain ⟨n10,y10,rfl,h,hk10⟩:=Es h
      unfold Il at h
      refine csr (sv R (Bt R R) (Ak (Bl (ccI h R (fun h=>?_) (fun h=>?_)))))
      ·refine Bf (Ab (Bl (Bq (Bl (Aq ?_)))))
       obtain ⟨u11,hu11,h⟩:=Ae h
       refine sv R (B8 (f:=Bb) Qm (fun _=>R) R R R R hu11) ?_
       refine sv R (Bz (ys:=[Ii6 u11.ID,Ii6 u11.Begin,Ii6 u11.End,Ii6 u11.State,.b u11.In,.b u11.Out,.b u11.RO,.sl u11.Keys.length (u11.Keys.flatMap (eL eU8))]) Ju R (.cp _) R R) (Bp R Tj (sst Tb R R R R R (Ak (csr (ld Ju R R R R (sv R (lo Ju R R R) ?_))))))
       obtain ⟨v12,hv12,h⟩:=Ae h
       refine Ba R Ay1 (Aa R (Aa R Af)) (An R) (Y0 hv12) (Ak (ccI h R (fun h=>?_) (fun h=>?_)))
       ·refine csr (rm 1 R (Ak (Bs (Az (Ag (Ag (Az (Az (Ag (Ag (Az (Ag ?_))))))))))))
        obtain rfl:=SJ h
        obtain rfl:Sum.inl _=x10:=hk10
        replace ho10:some _=some _:=ho10
        obtain rfl:=zD ho10
        obtain rfl:Sum.inl _=x5:=hk5
        replace ho5:some _=some _:=ho5
        obtain rfl:=zD ho5
        exact dnT R R R R
       ·refine Bf (Ap (Ab (Aq (sv R (Bo R R) (rm 1 R (Ak ?_))))))
        obtain rfl:=SJ h
        exact ⟨(n10,(wI (s10+1))),_,hk10,⟨R,R,R,R,R,R,R,R,trivial⟩,R,zG _⟩
      ·refine Da (As (As (Bj (Ap (Ab ?_)))))
       obtain rfl:=SJ h
       obtain rfl:_=x10:=hk10
       exact ⟨(),_,ho10,⟨R,R,R,R,trivial⟩,R⟩
   ·refine Da (As (As (Bj (Ab ?_))))
    obtain rfl:=SJ h
    obtain rfl:_=x5:=hk5
    exact ⟨(),_,ho5,⟨R,trivial⟩,R⟩
 ·skip
  refine Aq (fl Oo Aa8 R R R R R R (sv R (Aw Qm R) (sv R (C5 R R) (rm 1 R (ssI 11 h R (fun h=>?_) (fun h=>?_))))))
  ·refine rm 5 R (Ak (Ci R (fun _=>?_) (fun hx=>Bool.noConfusion hx)))
   refine csr (rm 1 R (Ak (Bs (Ag ?_))))
   obtain rfl:=SJ h
   exact dnT R R R R
  ·refine son R R R (sv R (Ac Yo R) (son R R R (ld Aco R R R R (son R R R ?_))))
   obtain ⟨v15,hv15,h⟩:=Ae h
   refine Ba R Awd (Aa R Af) (An R) (Sn hv15) (son R R R (sv R (B0 R) (rm 1 R (Ak (ccI h R (fun h=>?_) (fun h=>?_))))))
   ·refine csr (rm 1 R (Ak (Bs (Ag ?_))))
    obtain rfl:=SJ h
    exact dnT R R R R
   ·refine Bf (Ab ?_)
    exact ⟨(),_,h,⟨R,trivial⟩,R⟩
def Cn (a0:Int) (a1:Int):Option Bool :=
 if (decide (0≤a0)) then (if (decide (a0≤1099511627776)) then (if (decide (0≤a1)) then (some (decide (a1≤65535))) else (some false)) else (some false)) else (some false)
theorem D4 {a0:Int} {a1:Int} {r:Bool} (h:Cn a0 a1=some r):Br Tryz.prog 130 [.one (Ii6 a0),.one (Ii6 a1)] (·=.s (.one (.b r))):=by
 unfold Cn at h
 refine A5 Tryz.func130 R (nt:=19) R (Nbl R) ?_
 intro w0 S0
 refine csr (rm 1 R (Ak (csr (rm 1 R (sv R (Hz R R) (rm 1 R (ssI 7 h R (fun h=>?_) (fun h=>?_))))))))
 ·refine rm 1 R (son R R R (sv R (De R R) (rm 2 R (ssI 11 h R (fun h=>?_) (fun h=>?_)))))
  ·refine rm 1 R (son R R R (sv R (Hz R R) (rm 2 R (ssI 15 h R (fun h=>?_) (fun h=>?_)))))
   ·refine rm 1 R (son R R R (sv R (De R R) (rm 2 R (Ak (Bs ?_)))))
    obtain rfl:=SJ h
    exact dnT R R R R
   ·refine rm 4 R (Ak (Bs ?_))
    obtain rfl:=SJ h
    exact dnT R R R R
  ·refine rm 8 R (Ak (Bs ?_))
   obtain rfl:=SJ h
   exact dnT R R R R
 ·refine rm 12 R (Ak (Bs ?_))
  obtain rfl:=SJ h
  exact dnT R R R R
def Gi (a0:Int):Option Bool :=
 if (decide (1≤a0)) then (some (decide (a0≤1099511627776))) else (some false)
theorem P9 {a0:Int} {r:Bool} (h:Gi a0=some r):Br Tryz.prog 188 [.one (Ii6 a0)] (·=.s (.one (.b r))):=by
 unfold Gi at h
 refine A5 Tryz.func188 R (nt:=9) R (Nbl R) ?_
 intro w0 S0
 refine csr (rm 1 R (Ak (csr (rm 1 R (sv R (Hz R R) (rm 1 R (ssI 5 h R (fun h=>?_) (fun h=>?_))))))))
 ·refine rm 1 R (son R R R (sv R (De R R) (rm 2 R (Ak (Bs ?_)))))
  obtain rfl:=SJ h
  exact dnT R R R R
 ·refine rm 4 R (Ak (Bs ?_))
  obtain rfl:=SJ h
  exact dnT R R R R
def Eg (a0:A8) (b1:Bool):Option Bool :=
 if b1 then ((Cn a0.Tok a0.Attempt).bind fun v2=>if v2 then (some (decide (a0.Ts=0))) else (some false)) else (if (decide (a0.State=2)) then ((Cn a0.Tok a0.Attempt).bind fun v3=>if v3 then ((Gi a0.Ts).bind fun v4=>some v4) else (some false)) else (some false))
def Gb (a0:A8):Option Bool :=
 if (decide (a0.State=1)) then (Eg a0 (decide (a0.State=1))) else (Eg a0 (decide (a0.State=3)))
theorem Sr {a0:A8} {r:Bool} (h:Gb a0=some r):Br Tryz.prog 115 [.agg (EL.el a0)] (·=.s (.one (.b r))):=by
 unfold Gb at h
 refine A5 Tryz.func115 R (nt:=30) R (Nbl R) ?_
 intro w0 S0
 refine csr (F4 R R (rm 1 R (Ak (Bl (csr (fl Wh ti3 R R R R R R (Ak (Bq (Bl (csr (sv R (B4 R R) (rm 1 R (Ak (cj (Bool) (fun b1=>[(1,.s (.one (.lp 0 0))),(4,.s (.one (Ii6 a0.State))),(5,.s (.one (.b b1)))]) (fun b1=>[.box (EL.el a0)]) (fun b1=>Eg a0 b1=some r) (fun _=>R) (fun b1 h=>?_) ?_))))))))))))))
 ·unfold Eg at h
  refine ccI h R (fun h=>?_) (fun h=>?_)
  ·refine csr (fl Zo ti3 R R R R R R (sv R (Ac We R) (sv R (l1 ti3 R R R) ?_)))
   obtain ⟨v2,hv2,h⟩:=Ae h
   refine Ba R Akm (Aa R (Aa R Af)) (An R) (D4 hv2) (rm 1 R (ssI 13 h R (fun h=>?_) (fun h=>?_)))
   ·refine son R R R (sv R (Ac Ahr R) (son R R R (sv R (l1 ti3 R R R) (son R R R (sv R (B4 R R) (rm 2 R (Ak (Bs (Az (Ag ?_))))))))))
    obtain rfl:=SJ h
    exact dnT R R R R
   ·refine rm 5 R (Ak (Bs (Az (Ag ?_))))
    obtain rfl:=SJ h
    exact dnT R R R R
  ·refine csr (sv R (B4 R R) (rm 1 R (Ak (ccI h R (fun h=>?_) (fun h=>?_)))))
   ·refine csr (fl Zo ti3 R R R R R R (sv R (Ac We R) (sv R (l1 ti3 R R R) ?_)))
    obtain ⟨v3,hv3,h⟩:=Ae h
    refine Ba R Akm (Aa R (Aa R Af)) (An R) (D4 hv3) (rm 1 R (ssI 25 h R (fun h=>?_) (fun h=>?_)))
    ·refine son R R R (sv R (Ac Ahr R) (son R R R (sv R (l1 ti3 R R R) (son R R R ?_))))
     obtain ⟨v4,hv4,h⟩:=Ae h
     refine Ba R Avv (Aa R Af) (An R) (P9 hv4) (rm 2 R (Ak (Bs (Az (Ag ?_)))))
     obtain rfl:=SJ h
     exact dnT R R R R
    ·refine rm 5 R (Ak (Bs (Az (Ag ?_))))
     obtain rfl:=SJ h
     exact dnT R R R R
   ·refine Bf (Ap (Ab (csr (rm 1 R (Ak (Bs ?_))))))
    obtain rfl:=SJ h
    exact dnT R R R R
 ·skip
  refine ccI h R (fun h=>?_) (fun h=>?_)
  ·refine Bf (Ab ?_)
   exact ⟨(decide (a0.State=1)),_,h,⟨R,R,R,trivial⟩,R⟩
  ·refine Aq (sv R (B4 R R) (rm 1 R (Ak ?_)))
   exact ⟨(decide (a0.State=3)),_,h,⟨R,R,R,trivial⟩,R⟩
def Nf (a0:Bi) (b1:Unit):Option Int :=
 some (a0.L.length:Int)
def G4 (a0:Bi) (a1:Int) (s2:Int):Option (LR (Int) (Unit) (Int)) :=
 if (decide (s2<(a0.L.length:Int))) then ((idx a0.L s2).bind fun u3=>if (decide (u3.Tok=a1)) then (some (.ret s2)) else (some (.cont (wI (s2+1))))) else (some (.brk ()))
def Ej (a0:Bi) (a1:Int):Option Int :=
 (Lj (G4 a0 a1) fuel 0).bind fun x=>match x with | .inl r=>some r | .inr e4=>Nf a0 e4
theorem K9 {a0:Bi} {a1:Int} {r:Int} (h:Ej a0 a1=some r):Br Tryz.prog 116 [.agg [.sl a0.L.length (a0.L.flatMap Am)],.one (Ii6 a1)] (·=.s (.one (Ii6 r))):=by
 unfold Ej at h
 refine A5 Tryz.func116 R (nt:=24) R (Nbl R) ?_
 intro w0 S0
 refine csr (F4 R R (rm 1 R (Ak (Bl (csr (fl Wp Ak9 R R R R R R (sv R (Aw Acx R) (rm 1 R (Ak (cj (Unit) (fun b1=>[(2,.s (.one (.lp 0 0)))]) (fun b1=>[.box [.sl a0.L.length (a0.L.flatMap Am)]]) (fun b1=>Nf a0 b1=some r) (fun _=>R) (fun b1 h=>?_) ?_))))))))))
 ·unfold Nf at h
  refine csr (fl Wp Ak9 R R R R R R (sv R (Aw Acx R) (rm 1 R (Ak (Bs ?_)))))
  obtain rfl:=SJ h
  exact dnT R R R R
 ·skip
  refine Bq ?_
  obtain ⟨x2,hx2,ho2⟩:=Ae h
  refine lpo (G:=Nat × (Int)) (fun g=>[(1,.s (.one (Ii6 a1))),(2,.s (.one (.lp 0 0))),(8,.s (.one (.sl a0.L.length (a0.L.flatMap Am)))),(9,.s (.one (Ii6 (a0.L.length:Int)))),(10,.s (.one (Ii6 g.2)))]) (fun g=>[.box [.sl a0.L.length (a0.L.flatMap Am)]]) (fun g=>Lj (G4 a0 a1) g.1 g.2=some x2) (fun g=>g.1) (fuel,0) hx2 ⟨R,R,R,R,R,trivial⟩ [] R (fun _=>R) ?_
  clear hx2 h
  rintro ⟨n2,s2⟩ h
  obtain ⟨n2,y2,rfl,h,hk2⟩:=Es h
  unfold G4 at h
  refine csr (sv R (Bt R R) (Ak (Bl (ccI h R (fun h=>?_) (fun h=>?_)))))
  ·refine Bf (Ab (Bl (Bq (csr (sv R (A4 R) ?_)))))
   obtain ⟨u3,hu3,h⟩:=Ae h
   refine sv R (B8 (f:=Am) Acx (fun _=>R) R R R R hu3) ?_
   refine sv R (Bz (ys:=[Ii6 u3.Tok,Ii6 u3.Attempt,Ii6 u3.State,Ii6 u3.Ts]) Ac9 R (.cp _) R R) (Bp R V8 (rm 1 R (sst Aax R R R R R (Ak (csr (fl Zo ti3 R R R R R R (rm 1 R (sv R (B4 R R) (Ak (ccI h R (fun h=>?_) (fun h=>?_)))))))))))
   ·refine csr (rm 2 R (Ak (Bs (Az (Ag (Ag (Az (Ag ?_))))))))
    obtain rfl:=SJ h
    obtain rfl:Sum.inl _=x2:=hk2
    replace ho2:some _=some _:=ho2
    obtain rfl:=zD ho2
    exact dnT R R R R
   ·refine Bf (Ap (Ab (Aq (sv R (Bo R R) (rm 1 R (Ak ?_))))))
    obtain rfl:=SJ h
    exact ⟨(n2,(wI (s2+1))),_,hk2,⟨R,R,R,R,R,trivial⟩,R,zG _⟩
  ·refine Da (As (As (Bj (Ab ?_))))
   obtain rfl:=SJ h
   obtain rfl:_=x2:=hk2
   exact ⟨(),_,ho2,⟨R,trivial⟩,R⟩
def Ob (a0:Bi) (b1:Unit):Option Bool :=
 some (decide ((a0.L.length:Int)≤32))
def Jj (a0:Bi) (s2:Int):Option (LR (Int) (Unit) (Bool)) :=
 if (decide (s2<(a0.L.length:Int))) then ((idx a0.L s2).bind fun u3=>(Gb u3).bind fun v4=>if (!v4) then (some (.ret false)) else ((Ej a0 u3.Tok).bind fun v5=>if (!decide (v5=s2)) then (some (.ret false)) else (some (.cont (wI (s2+1)))))) else (some (.brk ()))
def C0 (a0:Bi):Option Bool :=
 (Lj (Jj a0) fuel 0).bind fun x=>match x with | .inl r=>some r | .inr e6=>Ob a0 e6
theorem Kj {a0:Bi} {r:Bool} (h:C0 a0=some r):Br Tryz.prog 47 [.agg [.sl a0.L.length (a0.L.flatMap Am)]] (·=.s (.one (.b r))):=by
 unfold C0 at h
 refine A5 Tryz.func47 R (nt:=29) R (Nbl R) ?_
 intro w0 S0
 refine csr (F4 R R (rm 1 R (Ak (Bl (csr (fl Wp Ak9 R R R R R R (sv R (Aw Acx R) (rm 1 R (Ak (cj (Unit) (fun b1=>[(1,.s (.one (.lp 0 0)))]) (fun b1=>[.box [.sl a0.L.length (a0.L.flatMap Am)]]) (fun b1=>Ob a0 b1=some r) (fun _=>R) (fun b1 h=>?_) ?_))))))))))
 ·unfold Ob at h
  refine csr (fl Wp Ak9 R R R R R R (sv R (Aw Acx R) (sv R (De R R) (rm 1 R (Ak (Bs ?_))))))
  obtain rfl:=SJ h
  exact dnT R R R R
 ·skip
  refine Bq ?_
  obtain ⟨x2,hx2,ho2⟩:=Ae h
  refine lpo (G:=Nat × (Int)) (fun g=>[(1,.s (.one (.lp 0 0))),(6,.s (.one (.sl a0.L.length (a0.L.flatMap Am)))),(7,.s (.one (Ii6 (a0.L.length:Int)))),(8,.s (.one (Ii6 g.2)))]) (fun g=>[.box [.sl a0.L.length (a0.L.flatMap Am)]]) (fun g=>Lj (Jj a0) g.1 g.2=some x2) (fun g=>g.1) (fuel,0) hx2 ⟨R,R,R,R,trivial⟩ [] R (fun _=>R) ?_
  clear hx2 h
  rintro ⟨n2,s2⟩ h
  obtain ⟨n2,y2,rfl,h,hk2⟩:=Es h
  unfold Jj at h
  refine csr (sv R (Bt R R) (Ak (Bl (ccI h R (fun h=>?_) (fun h=>?_)))))
  ·refine Bf (Ab (Bl (Bq (csr (sv R (A4 R) ?_)))))
   obtain ⟨u3,hu3,h⟩:=Ae h
   refine sv R (B8 (f:=Am) Acx (fun _=>R) R R R R hu3) ?_
   refine sv R (Bz (ys:=[Ii6 u3.Tok,Ii6 u3.Attempt,Ii6 u3.State,Ii6 u3.Ts]) Ac9 R (.cp _) R R) (Bp R V8 (rm 1 R (sst Aax R R R R R (Ak (csr (sv R (lo Ac9 R R R) ?_))))))
   obtain ⟨v4,hv4,h⟩:=Ae h
   refine Ba R Ayg (Aa R Af) (An R) (Sr hv4) (sv R (B0 R) (rm 1 R (ssI 16 h R (fun h=>?_) (fun h=>?_))))
   ·refine rm 7 R (Ak (Ci R (fun _=>?_) (fun hx=>Bool.noConfusion hx)))
    refine csr (rm 1 R (Ak (Bs (Az (Ag (Ag (Az (Ag ?_))))))))
    obtain rfl:=SJ h
    obtain rfl:Sum.inl _=x2:=hk2
    replace ho2:some _=some _:=ho2
    obtain rfl:=zD ho2
    exact dnT R R R R
   ·refine son R R R (ld Ou R R R R (son R R R (sv R (Ac Zo R) (son R R R (sv R (l1 ti3 R R R) (son R R R ?_))))))
    obtain ⟨v5,hv5,h⟩:=Ae h
    refine Ba R Aqm (Aa R (Aa R Af)) (An R) (K9 hv5) (rm 1 R (son R R R (sv R (Db R R) (rm 1 R (Ak (ccI h R (fun h=>?_) (fun h=>?_)))))))
    ·refine csr (rm 1 R (Ak (Bs (Az (Ag (Ag (Az (Ag ?_))))))))
     obtain rfl:=SJ h
     obtain rfl:Sum.inl _=x2:=hk2
     replace ho2:some _=some _:=ho2
     obtain rfl:=zD ho2
     exact dnT R R R R
    ·refine Bf (Ap (Ab (Aq (sv R (Bo R R) (rm 1 R (Ak ?_))))))
     obtain rfl:=SJ h
     exact ⟨(n2,(wI (s2+1))),_,hk2,⟨R,R,R,R,trivial⟩,R,zG _⟩
  ·refine Da (As (As (Bj (Ab ?_))))
   obtain rfl:=SJ h
   obtain rfl:_=x2:=hk2
   exact ⟨(),_,ho2,⟨R,trivial⟩,R⟩
def P0 (b1:Unit):Option Int :=
 some (-1)
def Gv (a0:Ah) (a1:Int) (s2:Int):Option (LR (Int) (Unit) (Int)) :=
 if (decide (s2<(a0.Open.length:Int))) then ((idx a0.Open s2).bind fun u3=>if (decide (u3.ID=a1)) then (some (.ret s2)) else (some (.cont (wI (s2+1))))) else (some (.brk ()))
def Ee (a0:Ah) (a1:Int):Option Int :=
 (Lj (Gv a0 a1) fuel 0).bind fun x=>match x with | .inl r=>some r | .inr e4=>P0 e4
theorem Q3 {a0:Ah} {a1:Int} {r:Int} (h:Ee a0 a1=some r):Br Tryz.prog 48 [.agg (EL.el a0),.one (Ii6 a1)] (·=.s (.one (Ii6 r))):=by
 unfold Ee at h
 refine A5 Tryz.func48 R (nt:=21) R (Nbl R) ?_
 intro w0 S0
 refine csr (F4 R R (rm 1 R (Ak (Bl (csr (fl Qt Ahe R R R R R R (sv R (Aw Y1 R) (rm 1 R (Ak (cj (Unit) (fun b1=>[]) (fun b1=>[.box (EL.el a0)]) (fun b1=>P0 b1=some r) (fun _=>R) (fun b1 h=>?_) ?_))))))))))
 ·unfold P0 at h
  refine csr (rm 1 R (Ak (Bs ?_)))
  obtain rfl:=SJ h
  exact dnT R R R R
 ·skip
  refine Bq ?_
  obtain ⟨x2,hx2,ho2⟩:=Ae h
  refine lpo (G:=Nat × (Int)) (fun g=>[(1,.s (.one (Ii6 a1))),(8,.s (.one (.sl a0.Open.length (a0.Open.flatMap Bm)))),(9,.s (.one (Ii6 (a0.Open.length:Int)))),(10,.s (.one (Ii6 g.2)))]) (fun g=>[.box (EL.el a0)]) (fun g=>Lj (Gv a0 a1) g.1 g.2=some x2) (fun g=>g.1) (fuel,0) hx2 ⟨R,R,R,R,trivial⟩ [] R (fun _=>R) ?_
  clear hx2 h
  rintro ⟨n2,s2⟩ h
  obtain ⟨n2,y2,rfl,h,hk2⟩:=Es h
  unfold Gv at h
  refine csr (sv R (Bt R R) (Ak (Bl (ccI h R (fun h=>?_) (fun h=>?_)))))
  ·refine Bf (Ab (Bl (Bq (csr (sv R (A4 R) ?_)))))
   obtain ⟨u3,hu3,h⟩:=Ae h
   refine sv R (B8 (f:=Bm) Y1 (fun _=>R) R R R R hu3) ?_
   refine sv R (Bz (ys:=[Ii6 u3.ID,Ii6 u3.Token,Ii6 u3.Attempt,Ii6 u3.Snap,.b u3.RO,.sl u3.Buf.L.length (u3.Buf.L.flatMap Ao)]) X9 R (.cp _) R R) (Bp R Ab1 (rm 1 R (sst Ab7 R R R R R (Ak (csr (fl R9 ti3 R R R R R R (rm 1 R (sv R (B4 R R) (Ak (ccI h R (fun h=>?_) (fun h=>?_)))))))))))
   ·refine csr (rm 2 R (Ak (Bs (Az (Ag (Ag (Az (Ag ?_))))))))
    obtain rfl:=SJ h
    obtain rfl:Sum.inl _=x2:=hk2
    replace ho2:some _=some _:=ho2
    obtain rfl:=zD ho2
    exact dnT R R R R
   ·refine Bf (Ap (Ab (Aq (sv R (Bo R R) (rm 1 R (Ak ?_))))))
    obtain rfl:=SJ h
    exact ⟨(n2,(wI (s2+1))),_,hk2,⟨R,R,R,R,trivial⟩,R,zG _⟩
  ·refine Da (As (As (Bj (Ab ?_))))
   obtain rfl:=SJ h
   obtain rfl:_=x2:=hk2
   exact ⟨(),_,ho2,trivial,R⟩
def Hd (a0:Bc) (a1:Int):Option Int :=
 (N7 a0.Txs).bind fun v1=>(Ep v1 a1).bind fun v2=>some v2
theorem P2 {a0:Bc} {a1:Int} {r:Int} (h:Hd a0 a1=some r):Br Tryz.prog 132 [.agg (EL.el a0),.one (Ii6 a1)] (·=.s (.one (Ii6 r))):=by
 unfold Hd at h
 refine A5 Tryz.func132 R (nt:=10) R (Nbl R) ?_
 intro w0 S0
 refine csr (F4 R R (rm 1 R (Ak (csr (sv R (Ac Oo R) (sv R (l1 Aa8 R R R) ?_))))))
 obtain ⟨v1,hv1,h⟩:=Ae h
 refine Ba R Aus (Aa R Af) (An R) (Vi hv1) (sv R (A4 R) ?_)
 obtain ⟨v2,hv2,h⟩:=Ae h
 refine Ba R Avl (Aa R (Aa R Af)) (An R) (Qr hv2) (rm 1 R (Ak (Bs ?_)))
 obtain rfl:=SJ h
 exact dnT R R R R
def M3 (a0:Bc) (a1:Int):Option (A2 × Bool) :=
 (Hd a0 a1).bind fun v1=>if (decide (v1<0)) then (some (X7,false)) else ((idx a0.Txs v1).bind fun u2=>some (u2,true))
theorem Z0 {a0:Bc} {a1:Int} {r:A2 × Bool} (h:M3 a0 a1=some r):Br Tryz.prog 189 [.agg (EL.el a0),.one (Ii6 a1)] (·=.tup [.agg (EL.el r.1),.one (.b r.2)]):=by
 unfold M3 at h
 refine A5 Tryz.func189 R (nt:=18) R (Nbl R) ?_
 intro w0 S0
 refine csr (F4 R R (Bp R Tj (rm 1 R (Ak (csr (ld Qq R R R R (sv R (A4 R) ?_)))))))
 obtain ⟨v1,hv1,h⟩:=Ae h
 refine Ba R Ar2 (Aa R (Aa R Af)) (An R) (P2 hv1) (rm 1 R (Ak (Bl (csr (rm 1 R (sv R (Bt R R) (Ak (ccI h R (fun h=>?_) (fun h=>?_)))))))))
 ·refine csr (sv R (A6 Tj Awk A1 (.nil _)) (sst Tb R R R R R (rm 1 R (Ak (Bs (Ag ?_))))))
  obtain rfl:=SJ h
  exact dn (Ad (ra Ju R R R) (Ad (rt R) Ai)) (Ip R) R
 ·refine Bf (Ab (csr (fl Oo Aa8 R R R R R R (sv R (A4 R) ?_))))
  obtain ⟨u2,hu2,h⟩:=Ae h
  refine sv R (B8 (f:=Bb) Qm (fun _=>R) R R R R hu2) ?_
  refine sv R (Bz (ys:=[Ii6 u2.ID,Ii6 u2.Begin,Ii6 u2.End,Ii6 u2.State,.b u2.In,.b u2.Out,.b u2.RO,.sl u2.Keys.length (u2.Keys.flatMap (eL eU8))]) Ju R (.cp _) R R) (sst Tb R R R R R (rm 1 R (Ak (Bs ?_))))
  obtain rfl:=SJ h
  exact dn (Ad (ra Ju R R R) (Ad (rt R) Ai)) (An R) R
def Kx (a0:Ah) (a1:Be):Option Bool :=
 (M3 a0.Cert a1.ID).bind fun v1=>if (decide (v1.1.State=1)) then (if (decide (v1.1.Begin=a1.Snap)) then (if (v1.1.RO == a1.RO) then (if (decide (a1.Snap≤a0.Store.Ts)) then ((Fg a1.Buf).bind fun v2=>if v2 then (if a1.RO then (some (!(decide (0<(a1.Buf.L.length:Int))))) else (some true)) else (some false)) else (some false)) else (some false)) else (some false)) else (some false)
theorem V6 {a0:Ah} {a1:Be} {r:Bool} (h:Kx a0 a1=some r):Br Tryz.prog 117 [.agg (EL.el a0),.agg (EL.el a1)] (·=.s (.one (.b r))):=by
 unfold Kx at h
 refine A5 Tryz.func117 R (nt:=57) R (Nbl R) ?_
 intro w0 S0
 refine csr (F4 R R (F4 R R (rm 1 R (Ak (csr (sv R (Ac Uc R) (ld Qq R R R R (sv R (Ac R9 R) (sv R (l1 ti3 R R R) ?_)))))))))
 obtain ⟨v1,hv1,h⟩:=Ae h
 refine Ba R Ayi (Aa R (Aa R Af)) (An R) (Z0 hv1) (sv R (Ca R) (sv R (Aj R R) (sv R (Aj R R) (Bp R Tj (sst Tb R R R R R (rm 1 R (Ak (csr (fl Pj ti3 R R R R R R (sv R (B4 R R) (rm 1 R (ssI 18 h R (fun h=>?_) (fun h=>?_)))))))))))))
 ·refine son R R R (sv R (Ac Vx R) (son R R R (sv R (l1 ti3 R R R) (son R R R (sv R (Ac Aiv R) (son R R R (sv R (l1 ti3 R R R) (son R R R (sv R (B4 R R) (rm 2 R (ssI 25 h R (fun h=>?_) (fun h=>?_))))))))))))
  ·refine son R R R (sv R (Ac Ahl R) (son R R R (sv R (l1 ti4 R R R) (son R R R (sv R (Ac Am0 R) (son R R R (sv R (l1 ti4 R R R) (son R R R (sv R (Ai3 Tryz.underlying4 R R) (rm 2 R (ssI 32 h R (fun h=>?_) (fun h=>?_))))))))))))
   ·refine son R R R (sv R (Ac Aiv R) (son R R R (sv R (l1 ti3 R R R) (son R R R (sv R (Ac Pr R) (son R R R (sv R (Ac Q7 R) (son R R R (sv R (l1 ti3 R R R) (son R R R (sv R (De R R) (rm 2 R (ssI 40 h R (fun h=>?_) (fun h=>?_))))))))))))))
    ·refine son R R R (sv R (Ac Yq R) (son R R R (ld Ag4 R R R R (son R R R ?_))))
     obtain ⟨v2,hv2,h⟩:=Ae h
     refine Ba R Ary (Aa R Af) (An R) (Oq hv2) (rm 2 R (ssI 45 h R (fun h=>?_) (fun h=>?_)))
     ·refine son R R R (sv R (Ac Am0 R) (son R R R (sv R (l1 ti4 R R R) (rm 1 R (ssI 48 h R (fun h=>?_) (fun h=>?_))))))
      ·refine son R R R (sv R (Ac Yq R) (son R R R (sv R (Ac Xc R) (son R R R (sv R (l1 Aot R R R) (son R R R (sv R (Aw V5 R) (son R R R (sv R (C5 R R) (rm 1 R (son R R R (sv R (B0 R) (rm 2 R (Ak (Bs ?_)))))))))))))))
       obtain rfl:=SJ h
       exact dnT R R R R
      ·refine rm 6 R (son R R R (sv R (B0 R) (rm 2 R (Ak (Bs ?_)))))
       obtain rfl:=SJ h
       exact dnT R R R R
     ·refine rm 3 R (Ch R R R (Ch R R R (Ch R R R (Ch R R R (Ch R R R (rm 4 R (Ak (Bs ?_))))))))
      obtain rfl:=SJ h
      exact dnT R R R R
    ·refine rm 8 R (Ch R R R (Ch R R R (Ch R R R (Ch R R R (Ch R R R (rm 4 R (Ak (Bs ?_))))))))
     obtain rfl:=SJ h
     exact dnT R R R R
   ·refine rm 16 R (Ch R R R (Ch R R R (Ch R R R (Ch R R R (Ch R R R (rm 4 R (Ak (Bs ?_))))))))
    obtain rfl:=SJ h
    exact dnT R R R R
  ·refine rm 23 R (Ch R R R (Ch R R R (Ch R R R (Ch R R R (Ch R R R (rm 4 R (Ak (Bs ?_))))))))
   obtain rfl:=SJ h
   exact dnT R R R R
 ·refine rm 30 R (Ch R R R (Ch R R R (Ch R R R (Ch R R R (Ch R R R (rm 4 R (Ak (Bs ?_))))))))
  obtain rfl:=SJ h
  exact dnT R R R R
def G2 (a0:Ah) (b1:Unit):Option Bool :=
 some (decide ((a0.Open.length:Int)≤16))
def Gw (s2:Int × Int) (u3:Be) (b6:Unit):Option (LR (Int × Int) (Unit) (Bool)) :=
 some (.cont (u3.ID,(wI (s2.2+1))))
def Gy (u3:Be) (c5:List Be) (s7:Int):Option (LR (Int) (Unit) (Bool)) :=
 if (decide (s7<(c5.length:Int))) then ((idx c5 s7).bind fun u8=>if (decide (u8.Token=u3.Token)) then (some (.ret false)) else (some (.cont (wI (s7+1))))) else (some (.brk ()))
def J0 (a0:Ah) (s2:Int × Int) (u3:Be) (b4:Unit):Option (LR (Int × Int) (Unit) (Bool)) :=
 (cut a0.Open 0 s2.2).bind fun c5=>(Lj (Gy u3 c5) fuel 0).bind fun x=>match x with | .inl r=>some (.ret r) | .inr e9=>Gw s2 u3 e9
def G0 (a0:Ah) (s2:Int × Int):Option (LR (Int × Int) (Unit) (Bool)) :=
 if (decide (s2.2<(a0.Open.length:Int))) then ((idx a0.Open s2.2).bind fun u3=>if (decide (u3.ID≤s2.1)) then (some (.ret false)) else (if (decide (a0.Next≤u3.ID)) then (some (.ret false)) else ((Kx a0 u3).bind fun v10=>if (!v10) then (some (.ret false)) else (J0 a0 s2 u3 ())))) else (some (.brk ()))
def Kf (a0:Ah):Option Bool :=
 (Lj (G0 a0) fuel ((-1),0)).bind fun x=>match x with | .inl r=>some r | .inr e11=>G2 a0 e11
theorem Wd {a0:Ah} {r:Bool} (h:Kf a0=some r):Br Tryz.prog 49 [.agg (EL.el a0)] (·=.s (.one (.b r))):=by
 unfold Kf at h
 refine A5 Tryz.func49 R (nt:=55) R (Nbl R) ?_
 intro w0 S0
 refine csr (F4 R R (rm 1 R (Ak (csr (rm 1 R (Ak (Bl (csr (fl Qt Ahe R R R R R R (sv R (Aw Y1 R) (rm 1 R (Ak (cj (Unit) (fun b1=>[(1,.s (.one (.lp 0 0)))]) (fun b1=>[.box (EL.el a0)]) (fun b1=>G2 a0 b1=some r) (fun _=>R) (fun b1 h=>?_) ?_)))))))))))))
 ·unfold G2 at h
  refine csr (fl Qt Ahe R R R R R R (sv R (Aw Y1 R) (sv R (De R R) (rm 1 R (Ak (Bs ?_))))))
  obtain rfl:=SJ h
  exact dnT R R R R
 ·skip
  refine Bq ?_
  obtain ⟨x2,hx2,ho2⟩:=Ae h
  refine lpo (G:=Nat × (Int × Int)) (fun g=>[(1,.s (.one (.lp 0 0))),(3,.s (.one (Ii6 g.2.1))),(9,.s (.one (.sl a0.Open.length (a0.Open.flatMap Bm)))),(10,.s (.one (Ii6 (a0.Open.length:Int)))),(11,.s (.one (Ii6 g.2.2)))]) (fun g=>[.box (EL.el a0)]) (fun g=>Lj (G0 a0) g.1 g.2=some x2) (fun g=>g.1) (fuel,((-1),0)) hx2 ⟨R,R,R,R,R,trivial⟩ [] R (fun _=>R) ?_
  clear hx2 h
  rintro ⟨n2,s2⟩ h
  obtain ⟨n2,y2,rfl,h,hk2⟩:=Es h
  unfold G0 at h
  refine csr (sv R (Bt R R) (Ak (Bl (ccI h R (fun h=>?_) (fun h=>?_)))))
  ·refine Bf (Ab (Bl (Bq (csr (sv R (A4 R) ?_)))))
   obtain ⟨u3,hu3,h⟩:=Ae h
   refine sv R (B8 (f:=Bm) Y1 (fun _=>R) R R R R hu3) ?_
   refine sv R (Bz (ys:=[Ii6 u3.ID,Ii6 u3.Token,Ii6 u3.Attempt,Ii6 u3.Snap,.b u3.RO,.sl u3.Buf.L.length (u3.Buf.L.flatMap Ao)]) X9 R (.cp _) R R) (Bp R Ab1 (rm 1 R (sst Ab7 R R R R R (Ak (Bl (Bl (cj3 (Unit) (fun b4=>[(1,.s (.one (.lp 0 0))),(4,.s (.one (Ii6 s2.2))),(5,.s (.one (.lp 1 0))),(9,.s (.one (.sl a0.Open.length (a0.Open.flatMap Bm)))),(10,.s (.one (Ii6 (a0.Open.length:Int)))),(11,.s (.one (Ii6 s2.2)))]) (fun b4=>[.box (EL.el a0),.box (EL.el u3)]) (fun b4=>J0 a0 s2 u3 b4=some y2) (fun _=>R) (fun b4 h=>?_) ?_)))))))
   ·unfold J0 at h
    refine Bl (csr (fl Qt Ahe R R R R R R (sv R (A4 R) ?_)))
    obtain ⟨c5,hc5,h⟩:=Ae h
    refine sv R (X2 (f:=Bm) (lo:=0) (hi:=s2.2) Y1 (fun _=>R) R R R Up (Ql R (Int.le_trans (T6 hc5).1.1 (T6 hc5).1.2.1)) hc5) ?_
    refine sv R (Aw Y1 R) (rm 1 R (Ak (cj (Unit) (fun b6=>[(1,.s (.one (.lp 0 0))),(5,.s (.one (.lp 1 0))),(9,.s (.one (.sl a0.Open.length (a0.Open.flatMap Bm)))),(10,.s (.one (Ii6 (a0.Open.length:Int)))),(11,.s (.one (Ii6 s2.2)))]) (fun b6=>[.box (EL.el a0),.box (EL.el u3)]) (fun b6=>Gw s2 u3 b6=some y2) (fun _=>R) (fun b6 h=>?_) ?_)))
    ·unfold Gw at h
     refine Aq (fl R9 ti3 R R R R R R (rm 1 R (Kz (Ap (Ab (Aq (sv R (Bo R R) (rm 1 R (Ak ?_)))))))))
     obtain rfl:=SJ h
     exact ⟨(n2,(u3.ID,(wI (s2.2+1)))),_,hk2,⟨R,R,R,R,R,trivial⟩,R,zG _⟩
    ·skip
     refine Bq ?_
     obtain ⟨x7,hx7,ho7⟩:=Ae h
     refine lpo (G:=Nat × (Int)) (fun g=>[(1,.s (.one (.lp 0 0))),(5,.s (.one (.lp 1 0))),(9,.s (.one (.sl a0.Open.length (a0.Open.flatMap Bm)))),(10,.s (.one (Ii6 (a0.Open.length:Int)))),(11,.s (.one (Ii6 s2.2))),(36,.s (.one (.sl c5.length (c5.flatMap Bm)))),(37,.s (.one (Ii6 (c5.length:Int)))),(38,.s (.one (Ii6 g.2)))]) (fun g=>[.box (EL.el a0),.box (EL.el u3)]) (fun g=>Lj (Gy u3 c5) g.1 g.2=some x7) (fun g=>g.1) (fuel,0) hx7 ⟨R,R,R,R,R,R,R,R,trivial⟩ [] R (fun _=>R) ?_
     clear hx7 h
     rintro ⟨n7,s7⟩ h
     obtain ⟨n7,y7,rfl,h,hk7⟩:=Es h
     unfold Gy at h
     refine csr (sv R (Bt R R) (Ak (Bl (ccI h R (fun h=>?_) (fun h=>?_)))))
     ·refine Bf (Ab (Bl (Bq (Bl (Aq ?_)))))
      obtain ⟨u8,hu8,h⟩:=Ae h
      refine sv R (B8 (f:=Bm) Y1 (fun _=>R) R R R R hu8) ?_
      refine sv R (Bz (ys:=[Ii6 u8.ID,Ii6 u8.Token,Ii6 u8.Attempt,Ii6 u8.Snap,.b u8.RO,.sl u8.Buf.L.length (u8.Buf.L.flatMap Ao)]) X9 R (.cp _) R R) (Bp R Ab1 (sst Ab7 R R R R R (Ak (csr (fl Aed ti3 R R R R R R (fl Aed ti3 R R R R R R (sv R (B4 R R) (Ak (ccI h R (fun h=>?_) (fun h=>?_))))))))))
      ·refine csr (rm 1 R (Ak (Bs (Az (Ag (Ag (Az (Ag (Az (Ag (Ag (Az (Ag ?_)))))))))))))
       obtain rfl:=SJ h
       obtain rfl:Sum.inl _=x7:=hk7
       replace ho7:some _=some _:=ho7
       obtain rfl:=zD ho7
       obtain rfl:Sum.inl _=x2:=hk2
       replace ho2:some _=some _:=ho2
       obtain rfl:=zD ho2
       exact dnT R R R R
      ·refine Bf (Ap (Ab (Aq (sv R (Bo R R) (rm 1 R (Ak ?_))))))
       obtain rfl:=SJ h
       exact ⟨(n7,(wI (s7+1))),_,hk7,⟨R,R,R,R,R,R,R,R,trivial⟩,R,zG _⟩
     ·refine Da (As (As (Bj (Ab ?_))))
      obtain rfl:=SJ h
      obtain rfl:_=x7:=hk7
      exact ⟨(),_,ho7,⟨R,R,R,R,R,trivial⟩,R⟩
   ·skip
    refine Aq (fl R9 ti3 R R R R R R (rm 1 R (sv R (De R R) (rm 1 R (ssI 20 h R (fun h=>?_) (fun h=>?_))))))
    ·refine rm 12 R (Ak (Ci R (fun _=>?_) (fun hx=>Bool.noConfusion hx)))
     refine csr (rm 1 R (Ak (Bs (Ag (Az (Ag (Ag (Az (Ag ?_)))))))))
     obtain rfl:=SJ h
     obtain rfl:Sum.inl _=x2:=hk2
     replace ho2:some _=some _:=ho2
     obtain rfl:=zD ho2
     exact dnT R R R R
    ·refine son R R R (sv R (Ac R9 R) (son R R R (sv R (l1 ti3 R R R) (son R R R (sv R (Ac Yh R) (son R R R (sv R (l1 ti3 R R R) (son R R R (sv R (Hz R R) (rm 2 R (ssI 27 h R (fun h=>?_) (fun h=>?_))))))))))))
     ·refine rm 5 R (Ak (Ci R (fun _=>?_) (fun hx=>Bool.noConfusion hx)))
      refine csr (rm 1 R (Ak (Bs (Ag (Az (Ag (Ag (Az (Ag ?_)))))))))
      obtain rfl:=SJ h
      obtain rfl:Sum.inl _=x2:=hk2
      replace ho2:some _=some _:=ho2
      obtain rfl:=zD ho2
      exact dnT R R R R
     ·refine son R R R (ld Dd R R R R (son R R R (ld X9 R R R R (son R R R ?_))))
      obtain ⟨v10,hv10,h⟩:=Ae h
      refine Ba R Axp (Aa R (Aa R Af)) (An R) (V6 hv10) (son R R R (sv R (B0 R) (rm 1 R (Ak (ccI h R (fun h=>?_) (fun h=>?_))))))
      ·refine csr (rm 1 R (Ak (Bs (Ag (Az (Ag (Ag (Az (Ag ?_)))))))))
       obtain rfl:=SJ h
       obtain rfl:Sum.inl _=x2:=hk2
       replace ho2:some _=some _:=ho2
       obtain rfl:=zD ho2
       exact dnT R R R R
      ·refine Bf (Ab ?_)
       exact ⟨(),_,h,⟨R,R,R,R,R,R,trivial⟩,R⟩
  ·refine Da (As (As (Bj (Ab ?_))))
   obtain rfl:=SJ h
   obtain rfl:_=x2:=hk2
   exact ⟨(),_,ho2,⟨R,trivial⟩,R⟩
def Mc (a0:Ah) (b2:Unit):Option Bool :=
 (Kf a0).bind fun v3=>some v3
def Mf (a0:Ah) (s4:Int):Option (LR (Int) (Unit) (Bool)) :=
 if (decide (s4<(a0.Cert.Txs.length:Int))) then ((idx a0.Cert.Txs s4).bind fun u5=>if (decide (a0.Store.Ts<u5.End)) then (some (.ret false)) else (if (decide (u5.State=1)) then ((Ee a0 u5.ID).bind fun v6=>if (decide (v6<0)) then (some (.ret false)) else (some (.cont (wI (s4+1))))) else (some (.cont (wI (s4+1)))))) else (some (.brk ()))
def Of (a0:Ah) (b1:Unit):Option Bool :=
 (Lj (Mf a0) fuel 0).bind fun x=>match x with | .inl r=>some r | .inr e7=>Mc a0 e7
def Iz (a0:Ah):Option Bool :=
 (C7 a0.Store).bind fun v8=>if (!v8) then (some false) else ((K4 a0.Cert).bind fun v9=>if (!v9) then (some false) else ((C0 a0.Toks).bind fun v10=>if (!v10) then (some false) else (if (decide (a0.Next<0)) then (some false) else (if (decide (1099511627776<a0.Next)) then (some false) else (Of a0 ())))))
theorem Nn {a0:Ah} {r:Bool} (h:Iz a0=some r):Br Tryz.prog 16 [.agg (EL.el a0)] (·=.s (.one (.b r))):=by
 unfold Iz at h
 refine A5 Tryz.func16 R (nt:=60) R (Nbl R) ?_
 intro w0 S0
 refine csr (F4 R R (rm 1 R (Ak (Bl (Bl (cj3 (Unit) (fun b1=>[(1,.s (.one (.lp 0 0)))]) (fun b1=>[.box (EL.el a0)]) (fun b1=>Of a0 b1=some r) (fun _=>R) (fun b1 h=>?_) ?_))))))
 ·unfold Of at h
  refine Bl (csr (sv R (Ac Uc R) (fl Oo Aa8 R R R R R R (sv R (Aw Qm R) (rm 1 R (Ak (cj (Unit) (fun b2=>[(1,.s (.one (.lp 0 0)))]) (fun b2=>[.box (EL.el a0)]) (fun b2=>Mc a0 b2=some r) (fun _=>R) (fun b2 h=>?_) ?_)))))))
  ·unfold Mc at h
   refine csr (sv R (lo Dd R R R) ?_)
   obtain ⟨v3,hv3,h⟩:=Ae h
   refine Ba R A1c (Aa R Af) (An R) (Wd hv3) (rm 1 R (Ak (Bs ?_)))
   obtain rfl:=SJ h
   exact dnT R R R R
  ·skip
   refine Bq ?_
   obtain ⟨x4,hx4,ho4⟩:=Ae h
   refine lpo (G:=Nat × (Int)) (fun g=>[(1,.s (.one (.lp 0 0))),(33,.s (.one (.sl a0.Cert.Txs.length (a0.Cert.Txs.flatMap Bb)))),(34,.s (.one (Ii6 (a0.Cert.Txs.length:Int)))),(35,.s (.one (Ii6 g.2)))]) (fun g=>[.box (EL.el a0)]) (fun g=>Lj (Mf a0) g.1 g.2=some x4) (fun g=>g.1) (fuel,0) hx4 ⟨R,R,R,R,trivial⟩ [] R (fun _=>R) ?_
   clear hx4 h
   rintro ⟨n4,s4⟩ h
   obtain ⟨n4,y4,rfl,h,hk4⟩:=Es h
   unfold Mf at h
   refine csr (sv R (Bt R R) (Ak (Bl (ccI h R (fun h=>?_) (fun h=>?_)))))
   ·refine Bf (Ab (Bl (Bq (Bl (Aq ?_)))))
    obtain ⟨u5,hu5,h⟩:=Ae h
    refine sv R (B8 (f:=Bb) Qm (fun _=>R) R R R R hu5) ?_
    refine sv R (Bz (ys:=[Ii6 u5.ID,Ii6 u5.Begin,Ii6 u5.End,Ii6 u5.State,.b u5.In,.b u5.Out,.b u5.RO,.sl u5.Keys.length (u5.Keys.flatMap (eL eU8))]) Ju R (.cp _) R R) (Bp R Tj (sst Tb R R R R R (Ak (csr (fl Q0 ti3 R R R R R R (sv R (Ac Pr R) (fl Q7 ti3 R R R R R R (sv R (C5 R R) (rm 1 R (ssI 45 h R (fun h=>?_) (fun h=>?_)))))))))))
    ·refine rm 4 R (Ch R R R (Ch R R R (Ch R R R (Ch R R R (Ch R R R (rm 2 R (Ak (Ci R (fun _=>?_) (fun hx=>Bool.noConfusion hx)))))))))
     refine csr (rm 1 R (Ak (Bs (Az (Ag (Ag (Az (Ag ?_))))))))
     obtain rfl:=SJ h
     obtain rfl:Sum.inl _=x4:=hk4
     replace ho4:some _=some _:=ho4
     obtain rfl:=zD ho4
     exact dnT R R R R
    ·refine son R R R (sv R (Ac Pj R) (son R R R (sv R (l1 ti3 R R R) (son R R R (sv R (B4 R R) (rm 1 R (ssI 49 h R (fun h=>?_) (fun h=>?_))))))))
     ·refine son R R R (ld Dd R R R R (son R R R (sv R (Ac T1 R) (son R R R (sv R (l1 ti3 R R R) (son R R R ?_))))))
      obtain ⟨v6,hv6,h⟩:=Ae h
      refine Ba R Azn (Aa R (Aa R Af)) (An R) (Q3 hv6) (son R R R (sv R (Bt R R) (rm 2 R (Ak (ccI h R (fun h=>?_) (fun h=>?_))))))
      ·refine csr (rm 1 R (Ak (Bs (Az (Ag (Ag (Az (Ag ?_))))))))
       obtain rfl:=SJ h
       obtain rfl:Sum.inl _=x4:=hk4
       replace ho4:some _=some _:=ho4
       obtain rfl:=zD ho4
       exact dnT R R R R
      ·refine Bf (Ap (Ab (Aq (sv R (Bo R R) (rm 1 R (Ak ?_))))))
       obtain rfl:=SJ h
       exact ⟨(n4,(wI (s4+1))),_,hk4,⟨R,R,R,R,trivial⟩,R,zG _⟩
     ·refine rm 7 R (Ak (Ci R (fun hx=>Bool.noConfusion hx) (fun _=>?_)))
      refine Bf (Ap (Ab (Aq (sv R (Bo R R) (rm 1 R (Ak ?_))))))
      obtain rfl:=SJ h
      exact ⟨(n4,(wI (s4+1))),_,hk4,⟨R,R,R,R,trivial⟩,R,zG _⟩
   ·refine Da (As (As (Bj (Ab ?_))))
    obtain rfl:=SJ h
    obtain rfl:_=x4:=hk4
    exact ⟨(),_,ho4,⟨R,trivial⟩,R⟩
 ·skip
  refine Aq (sv R (Ac Pr R) (sv R (lo Vs R R R) ?_))
  obtain ⟨v8,hv8,h⟩:=Ae h
  refine Ba R Avu (Aa R Af) (An R) (Lq hv8) (sv R (B0 R) (rm 1 R (ssI 9 h R (fun h=>?_) (fun h=>?_))))
  ·refine rm 21 R (Ak (Ci R (fun _=>?_) (fun hx=>Bool.noConfusion hx)))
   refine csr (rm 1 R (Ak (Bs (Ag ?_))))
   obtain rfl:=SJ h
   exact dnT R R R R
  ·refine son R R R (sv R (Ac Uc R) (son R R R (ld Qq R R R R (son R R R ?_))))
   obtain ⟨v9,hv9,h⟩:=Ae h
   refine Ba R Axh (Aa R Af) (An R) (Pl hv9) (son R R R (sv R (B0 R) (rm 2 R (ssI 15 h R (fun h=>?_) (fun h=>?_)))))
   ·refine rm 15 R (Ak (Ci R (fun _=>?_) (fun hx=>Bool.noConfusion hx)))
    refine csr (rm 1 R (Ak (Bs (Ag ?_))))
    obtain rfl:=SJ h
    exact dnT R R R R
   ·refine son R R R (sv R (Ac Vd R) (son R R R (ld Ou R R R R (son R R R ?_))))
    obtain ⟨v10,hv10,h⟩:=Ae h
    refine Ba R Auu (Aa R Af) (An R) (Kj hv10) (son R R R (sv R (B0 R) (rm 2 R (ssI 21 h R (fun h=>?_) (fun h=>?_)))))
    ·refine rm 9 R (Ak (Ci R (fun _=>?_) (fun hx=>Bool.noConfusion hx)))
     refine csr (rm 1 R (Ak (Bs (Ag ?_))))
     obtain rfl:=SJ h
     exact dnT R R R R
    ·refine son R R R (sv R (Ac Yh R) (son R R R (sv R (l1 ti3 R R R) (son R R R (sv R (Bt R R) (rm 2 R (ssI 26 h R (fun h=>?_) (fun h=>?_))))))))
     ·refine rm 4 R (Ak (Ci R (fun _=>?_) (fun hx=>Bool.noConfusion hx)))
      refine csr (rm 1 R (Ak (Bs (Ag ?_))))
      obtain rfl:=SJ h
      exact dnT R R R R
     ·refine son R R R (sv R (Ac Yh R) (son R R R (sv R (l1 ti3 R R R) (son R R R (sv R (C5 R R) (rm 1 R (Ak (ccI h R (fun h=>?_) (fun h=>?_)))))))))
      ·refine csr (rm 1 R (Ak (Bs (Ag ?_))))
       obtain rfl:=SJ h
       exact dnT R R R R
      ·refine Bf (Ab ?_)
       exact ⟨(),_,h,⟨R,trivial⟩,R⟩
def O0 (b1:Unit):Option (Be × Bool) :=
 some (Pp,false)
def Je (a0:Ah) (a1:Int) (s2:Int):Option (LR (Int) (Unit) (Be × Bool)) :=
 if (decide (s2<(a0.Open.length:Int))) then ((idx a0.Open s2).bind fun u3=>if (decide (u3.Token=a1)) then (some (.ret (u3,true))) else (some (.cont (wI (s2+1))))) else (some (.brk ()))
def Kg (a0:Ah) (a1:Int):Option (Be × Bool) :=
 (Lj (Je a0 a1) fuel 0).bind fun x=>match x with | .inl r=>some r | .inr e4=>O0 e4
theorem Sq {a0:Ah} {a1:Int} {r:Be × Bool} (h:Kg a0 a1=some r):Br Tryz.prog 56 [.agg (EL.el a0),.one (Ii6 a1)] (·=.tup [.agg (EL.el r.1),.one (.b r.2)]):=by
 unfold Kg at h
 refine A5 Tryz.func56 R (nt:=22) R (Nbl R) ?_
 intro w0 S0
 refine csr (F4 R R (Bp R Ab1 (rm 1 R (Ak (Bl (csr (fl Qt Ahe R R R R R R (sv R (Aw Y1 R) (rm 1 R (Ak (cj (Unit) (fun b1=>[(4,.s (.one (.lp 1 0)))]) (fun b1=>[.box (EL.el a0),.box [Ii6 0,Ii6 0,Ii6 0,Ii6 0,.b false,Znl]]) (fun b1=>O0 b1=some r) (fun _=>R) (fun b1 h=>?_) ?_)))))))))))
 ·unfold O0 at h
  refine csr (sv R (A6 Ab1 Axa A1 (.nil _)) (sst Ab7 R R R R R (rm 1 R (Ak (Bs ?_)))))
  obtain rfl:=SJ h
  exact dn (Ad (ra X9 R R R) (Ad (rt R) Ai)) (Ip R) R
 ·skip
  refine Bq ?_
  obtain ⟨x2,hx2,ho2⟩:=Ae h
  refine lpo (G:=Nat × (Int)) (fun g=>[(1,.s (.one (Ii6 a1))),(4,.s (.one (.lp 1 0))),(9,.s (.one (.sl a0.Open.length (a0.Open.flatMap Bm)))),(10,.s (.one (Ii6 (a0.Open.length:Int)))),(11,.s (.one (Ii6 g.2)))]) (fun g=>[.box (EL.el a0),.box [Ii6 0,Ii6 0,Ii6 0,Ii6 0,.b false,Znl]]) (fun g=>Lj (Je a0 a1) g.1 g.2=some x2) (fun g=>g.1) (fuel,0) hx2 ⟨R,R,R,R,R,trivial⟩ [] R (fun _=>R) ?_
  clear hx2 h
  rintro ⟨n2,s2⟩ h
  obtain ⟨n2,y2,rfl,h,hk2⟩:=Es h
  unfold Je at h
  refine csr (sv R (Bt R R) (Ak (Bl (ccI h R (fun h=>?_) (fun h=>?_)))))
  ·refine Bf (Ab (Bl (Bq (Bl (Aq ?_)))))
   obtain ⟨u3,hu3,h⟩:=Ae h
   refine sv R (B8 (f:=Bm) Y1 (fun _=>R) R R R R hu3) ?_
   refine sv R (Bz (ys:=[Ii6 u3.ID,Ii6 u3.Token,Ii6 u3.Attempt,Ii6 u3.Snap,.b u3.RO,.sl u3.Buf.L.length (u3.Buf.L.flatMap Ao)]) X9 R (.cp _) R R) (Bp R Ab1 (sst Ab7 R R R R R (Ak (csr (fl Aed ti3 R R R R R R (rm 1 R (sv R (B4 R R) (Ak (ccI h R (fun h=>?_) (fun h=>?_))))))))))
   ·refine csr (ld X9 R R R R (sst Ab7 R R R R R (rm 1 R (Ak (Bs (Az (Ag (Ag (Az (Ag ?_))))))))))
    obtain rfl:=SJ h
    obtain rfl:Sum.inl _=x2:=hk2
    replace ho2:some _=some _:=ho2
    obtain rfl:=zD ho2
    exact dn (Ad (ra X9 R R R) (Ad (rt R) Ai)) (An R) R
   ·refine Bf (Ap (Ab (Aq (sv R (Bo R R) (rm 1 R (Ak ?_))))))
    obtain rfl:=SJ h
    exact ⟨(n2,(wI (s2+1))),_,hk2,⟨R,R,R,R,R,trivial⟩,R,zG _⟩
  ·refine Da (As (As (Bj (Ab ?_))))
   obtain rfl:=SJ h
   obtain rfl:_=x2:=hk2
   exact ⟨(),_,ho2,⟨R,trivial⟩,R⟩
def O3 (a0:Ah) (b1:(List Be)):Option Ah :=
 some ({a0 with Open:=b1})
def I2 (a0:Ah) (a1:Int) (s2:Int × (List Be)):Option (LB (Int × (List Be)) ((List Be))) :=
 if (decide (s2.1<(a0.Open.length:Int))) then ((idx a0.Open s2.1).bind fun u3=>if (!decide (u3.ID=a1)) then (if (s2.2.length+[u3].length)*64≤140737488355328 then (some (.cont ((wI (s2.1+1)),(s2.2++[u3])))) else none) else (some (.cont ((wI (s2.1+1)),s2.2)))) else (some (.brk s2.2))
def Kp (a0:Ah) (a1:Int):Option Ah :=
 (Ct (I2 a0 a1) fuel (0,([]:List Be))).bind fun e5=>O3 a0 e5
theorem R5 {a0:Ah} {a1:Int} {r:Ah} (h:Kp a0 a1=some r):Br Tryz.prog 128 [.agg (EL.el a0),.one (Ii6 a1)] (·=.s (.agg (EL.el r))):=by
 unfold Kp at h
 refine A5 Tryz.func128 R (nt:=27) R (Nbl R) ?_
 intro w0 S0
 refine csr (F4 R R (Bp R Qw (Ak (csr (rm 1 R (Ak (Bl (csr (fl Qt Ahe R R R R R R (sv R (Aw Y1 R) (rm 1 R (Ak ?_))))))))))))
 refine C6 88 6 5 (by decide) R ?_
 refine cj ((List Be)) (fun b1=>[(2,.s (.one (.lp 0 0))),(4,.s (.one (.lp 1 0))),(5,.s (.one (.ls 2 b1.length)))]) (fun b1=>[.box (EL.el a0),.box Zba,.arr 88 6 0 (b1.flatMap Bm)]) (fun b1=>O3 a0 b1=some r) (fun _=>R) (fun b1 h=>?_) ?_
 ·unfold O3 at h
  refine csr (rm 1 R (sv R (Ac Qt R) (sst Az9 R R R R R (Ak (csr (ld Dd R R R R (sst Jn R R R R R (Ak (Bs ?_)))))))))
  obtain rfl:=SJ h
  refine ⟨Or.inr R,_,_,_,(Ad (ra Dd R R R) Ai),(by (repeat' first | exact Ic.nil _ | apply Ic.cons | apply H6.one | apply H6.agg | exact Cz.nil | exact Cz.ls _ _ _ _ _ _ R (Au (f:=Bm) (fun _=>R) _).symm | exact Cz.id _ R | exact Co.nil _ | apply Co.cons)),?_⟩
  rfl
 ·skip
  refine Bq ?_
  obtain ⟨x2,hx2,ho2⟩:=Ae h
  refine lpo (G:=Nat × (Int × (List Be))) (fun g=>[(1,.s (.one (Ii6 a1))),(2,.s (.one (.lp 0 0))),(4,.s (.one (.lp 1 0))),(5,.s (.one (.ls 2 g.2.2.length))),(9,.s (.one (.sl a0.Open.length (a0.Open.flatMap Bm)))),(10,.s (.one (Ii6 (a0.Open.length:Int)))),(11,.s (.one (Ii6 g.2.1)))]) (fun g=>[.box (EL.el a0),.box Zba,.arr 88 6 0 (g.2.2.flatMap Bm)]) (fun g=>Ct (I2 a0 a1) g.1 g.2=some x2) (fun g=>g.1) (fuel,(0,([]:List Be))) hx2 ⟨R,R,R,R,R,R,R,trivial⟩ [] R (fun _=>R) ?_
  clear hx2 h
  rintro ⟨n2,s2⟩ h
  obtain ⟨n2,y2,rfl,h,hk2⟩:=Cu h
  unfold I2 at h
  refine csr (sv R (Bt R R) (Ak (Bl (ccI h R (fun h=>?_) (fun h=>?_)))))
  ·refine Bf (Ab (Bl (Bq (Bl (Aq ?_)))))
   obtain ⟨u3,hu3,h⟩:=Ae h
   refine sv R (B8 (f:=Bm) Y1 (fun _=>R) R R R R hu3) ?_
   refine sv R (Bz (ys:=[Ii6 u3.ID,Ii6 u3.Token,Ii6 u3.Attempt,Ii6 u3.Snap,.b u3.RO,.sl u3.Buf.L.length (u3.Buf.L.flatMap Ao)]) X9 R (.cp _) R R) (Bp R Ab1 (sst Ab7 R R R R R (Ak (csr (fl R9 ti3 R R R R R R (rm 1 R (sv R (Db R R) (Ak (ccI h R (fun h=>?_) (fun h=>?_))))))))))
   ·refine Aq (rm 1 R (sv R (lo X9 R R R) ?_))
    refine Fo R Tryz.underlying38 Atz R R (zJ.1 R) (by decide) ?_
    refine Pz [.box (EL.el a0),.box Zba,.arr 88 6 0 (s2.2.flatMap Bm),.box (EL.el u3),.arr 88 6 0 ([u3].flatMap Bm)] R ?_
    obtain ⟨hb4,h⟩:=Cp h
    refine Tr (f:=Bm) (xs:=s2.2) (us:=[u3]) R Tryz.underlying38 Atz Ax2 (fun _=>R) R R (.one _ _ _ _ (.ls _ _ _ _ _ _ R (Au (f:=Bm) (fun _=>R) [u3]).symm)) R R R (.sl _ _ _ (Au (f:=Bm) (fun _=>R) _)) R R hb4 (by decide) ?_
    refine rm 1 R (Kz (Ap (Ab (Aq (sv R (Bo R R) (rm 1 R (Ak ?_)))))))
    obtain rfl:=SJ h
    exact ⟨(n2,((wI (s2.1+1)),(s2.2++[u3]))),_,hk2,⟨R,R,R,R,R,R,R,trivial⟩,R,zG _⟩
   ·refine Bf (Ap (Ab (Aq (sv R (Bo R R) (rm 1 R (Ak ?_))))))
    obtain rfl:=SJ h
    exact ⟨(n2,((wI (s2.1+1)),s2.2)),_,hk2,⟨R,R,R,R,R,R,R,trivial⟩,R,zG _⟩
  ·refine Da (As (As (Bj (Ab ?_))))
   obtain rfl:=SJ h
   obtain rfl:_=x2:=hk2
   exact ⟨s2.2,_,ho2,⟨R,R,R,trivial⟩,R⟩
def Gc (a0:Bc) (a1:Int):Option Int :=
 (Hd a0 a1).bind fun v1=>if (decide (v1<0)) then (some (-1)) else ((idx a0.Txs v1).bind fun u2=>if (!decide (u2.State=1)) then (some (-1)) else (some v1))
theorem Ph {a0:Bc} {a1:Int} {r:Int} (h:Gc a0 a1=some r):Br Tryz.prog 194 [.agg (EL.el a0),.one (Ii6 a1)] (·=.s (.one (Ii6 r))):=by
 unfold Gc at h
 refine A5 Tryz.func194 R (nt:=21) R (Nbl R) ?_
 intro w0 S0
 refine csr (F4 R R (rm 1 R (Ak (csr (ld Qq R R R R (sv R (A4 R) ?_))))))
 obtain ⟨v1,hv1,h⟩:=Ae h
 refine Ba R Ar2 (Aa R (Aa R Af)) (An R) (P2 hv1) (rm 1 R (Ak (Bl (csr (rm 1 R (sv R (Bt R R) (rm 1 R (ssI 11 h R (fun h=>?_) (fun h=>?_)))))))))
 ·refine rm 8 R (Ak (Ci R (fun _=>?_) (fun hx=>Bool.noConfusion hx)))
  refine csr (rm 1 R (Ak (Bs (Ag ?_))))
  obtain rfl:=SJ h
  exact dnT R R R R
 ·refine son R R R (sv R (Ac Oo R) (son R R R (sv R (l1 Aa8 R R R) (rm 1 R (son R R R ?_)))))
  obtain ⟨u2,hu2,h⟩:=Ae h
  refine sv R (B8 (f:=Bb) Qm (fun _=>R) R R R R hu2) ?_
  refine son R R R (sv R (B9 Pj R) (son R R R (sv R (B6 ti3 R (.cp _) R) (son R R R (sv R (Db R R) (rm 1 R (Ak (ccI h R (fun h=>?_) (fun h=>?_)))))))))
  ·refine csr (rm 1 R (Ak (Bs (Ag ?_))))
   obtain rfl:=SJ h
   exact dnT R R R R
  ·refine Bf (Ab (csr (rm 2 R (Ak (Bs ?_)))))
   obtain rfl:=SJ h
   exact dnT R R R R
def K8 (a0:Bc) (a1:List Int) (b1:(List A2)):Option Bc :=
 (Kk a0.Reads a1).bind fun v2=>some (Bc.mk b1 v2)
def Fw (a0:Bc) (a1:List Int) (s3:Int × (List A2)):Option (LB (Int × (List A2)) ((List A2))) :=
 if (decide (s3.1<(a0.Txs.length:Int))) then ((idx a0.Txs s3.1).bind fun u4=>(Du a1 u4.ID).bind fun v5=>if (!v5) then (if (s3.2.length+[u4].length)*64≤140737488355328 then (some (.cont ((wI (s3.1+1)),(s3.2++[u4])))) else none) else (some (.cont ((wI (s3.1+1)),s3.2)))) else (some (.brk s3.2))
def Im (a0:Bc) (a1:List Int):Option Bc :=
 (Ct (Fw a0 a1) fuel (0,([]:List A2))).bind fun e7=>K8 a0 a1 e7
theorem Rh {a0:Bc} {a1:List Int} {r:Bc} (h:Im a0 a1=some r):Br Tryz.prog 195 [.agg (EL.el a0),.one (.sl a1.length (a1.flatMap eI))] (·=.s (.agg (EL.el r))):=by
 unfold Im at h
 refine A5 Tryz.func195 R (nt:=31) R (Nbl R) ?_
 intro w0 S0
 refine csr (F4 R R (Bp R Ya (Ak (csr (rm 1 R (Ak (Bl (csr (fl Oo Aa8 R R R R R R (sv R (Aw Qm R) (rm 1 R (Ak ?_))))))))))))
 refine C6 139 8 5 (by decide) R ?_
 refine cj ((List A2)) (fun b1=>[(1,.s (.one (.sl a1.length (a1.flatMap eI)))),(2,.s (.one (.lp 0 0))),(4,.s (.one (.lp 1 0))),(5,.s (.one (.ls 2 b1.length)))]) (fun b1=>[.box (EL.el a0),.box [Znl,Znl],.arr 139 8 0 (b1.flatMap Bb)]) (fun b1=>K8 a0 a1 b1=some r) (fun _=>R) (fun b1 h=>?_) ?_
 ·unfold K8 at h
  refine csr (rm 1 R (sv R (Ac Yo R) (ld Aco R R R R (sv R (A4 R) ?_))))
  obtain ⟨v2,hv2,h⟩:=Ae h
  refine Ba R Avf (Aa R (Aa R Af)) (An R) (R1 hv2) (sv R (A6 Ya Adx (Ax R (Ax R A1)) (.cons _ _ _ _ _ _ _ R R (Nbl R) (.cons _ _ _ _ _ _ _ R R (Nbl R) (.nil _)))) (sst Xu R R R R R (Ak (Bs ?_))))
  obtain rfl:=SJ h
  refine ⟨Or.inr R,_,_,_,(Ad (ra Qq R R R) Ai),(by (repeat' first | exact Ic.nil _ | apply Ic.cons | apply H6.one | apply H6.agg | exact Cz.nil | exact Cz.ls _ _ _ _ _ _ R (Au (f:=Bb) (fun _=>R) _).symm | exact Cz.id _ R | exact Co.nil _ | apply Co.cons)),?_⟩
  rfl
 ·skip
  refine Bq ?_
  obtain ⟨x3,hx3,ho3⟩:=Ae h
  refine lpo (G:=Nat × (Int × (List A2))) (fun g=>[(1,.s (.one (.sl a1.length (a1.flatMap eI)))),(2,.s (.one (.lp 0 0))),(4,.s (.one (.lp 1 0))),(5,.s (.one (.ls 2 g.2.2.length))),(9,.s (.one (.sl a0.Txs.length (a0.Txs.flatMap Bb)))),(10,.s (.one (Ii6 (a0.Txs.length:Int)))),(11,.s (.one (Ii6 g.2.1)))]) (fun g=>[.box (EL.el a0),.box [Znl,Znl],.arr 139 8 0 (g.2.2.flatMap Bb)]) (fun g=>Ct (Fw a0 a1) g.1 g.2=some x3) (fun g=>g.1) (fuel,(0,([]:List A2))) hx3 ⟨R,R,R,R,R,R,R,trivial⟩ [] R (fun _=>R) ?_
  clear hx3 h
  rintro ⟨n3,s3⟩ h
  obtain ⟨n3,y3,rfl,h,hk3⟩:=Cu h
  unfold Fw at h
  refine csr (sv R (Bt R R) (Ak (Bl (ccI h R (fun h=>?_) (fun h=>?_)))))
  ·refine Bf (Ab (Bl (Bq (Bl (Aq ?_)))))
   obtain ⟨u4,hu4,h⟩:=Ae h
   refine sv R (B8 (f:=Bb) Qm (fun _=>R) R R R R hu4) ?_
   refine sv R (Bz (ys:=[Ii6 u4.ID,Ii6 u4.Begin,Ii6 u4.End,Ii6 u4.State,.b u4.In,.b u4.Out,.b u4.RO,.sl u4.Keys.length (u4.Keys.flatMap (eL eU8))]) Ju R (.cp _) R R) (Bp R Tj (sst Tb R R R R R (Ak (csr (rm 1 R (sv R (Ac T1 R) (sv R (l1 ti3 R R R) ?_)))))))
   obtain ⟨v5,hv5,h⟩:=Ae h
   refine Ba R Aty (Aa R (Aa R Af)) (An R) (Lw hv5) (sv R (B0 R) (Ak (ccI h R (fun h=>?_) (fun h=>?_))))
   ·refine Aq (rm 1 R (sv R (lo Ju R R R) ?_))
    refine Fo R Tryz.underlying29 Ahb R R (zJ.1 R) (by decide) ?_
    refine Pz [.box (EL.el a0),.box [Znl,Znl],.arr 139 8 0 (s3.2.flatMap Bb),.box (EL.el u4),.arr 139 8 0 ([u4].flatMap Bb)] R ?_
    obtain ⟨hb6,h⟩:=Cp h
    refine Tr (f:=Bb) (xs:=s3.2) (us:=[u4]) R Tryz.underlying29 Ahb Ax0 (fun _=>R) R R (.one _ _ _ _ (.ls _ _ _ _ _ _ R (Au (f:=Bb) (fun _=>R) [u4]).symm)) R R R (.sl _ _ _ (Au (f:=Bb) (fun _=>R) _)) R R hb6 (by decide) ?_
    refine rm 1 R (Kz (Ap (Ab (Aq (sv R (Bo R R) (rm 1 R (Ak ?_)))))))
    obtain rfl:=SJ h
    exact ⟨(n3,((wI (s3.1+1)),(s3.2++[u4]))),_,hk3,⟨R,R,R,R,R,R,R,trivial⟩,R,zG _⟩
   ·refine Bf (Ap (Ab (Aq (sv R (Bo R R) (rm 1 R (Ak ?_))))))
    obtain rfl:=SJ h
    exact ⟨(n3,((wI (s3.1+1)),s3.2)),_,hk3,⟨R,R,R,R,R,R,R,trivial⟩,R,zG _⟩
  ·refine Da (As (As (Bj (Ab ?_))))
   obtain rfl:=SJ h
   obtain rfl:_=x3:=hk3
   exact ⟨s3.2,_,ho3,⟨R,R,R,R,trivial⟩,R⟩
def Ea (a0:Bc) (a1:Int):Option Bc :=
 (Gc a0 a1).bind fun v1=>if (decide (v1<0)) then (some a0) else ((Im a0 [a1]).bind fun v2=>some v2)
theorem Y2 {a0:Bc} {a1:Int} {r:Bc} (h:Ea a0 a1=some r):Br Tryz.prog 129 [.agg (EL.el a0),.one (Ii6 a1)] (·=.s (.agg (EL.el r))):=by
 unfold Ea at h
 refine A5 Tryz.func129 R (nt:=14) R (Nbl R) ?_
 intro w0 S0
 refine csr (F4 R R (Bp R Ya (Ak (Bl (csr (ld Qq R R R R (sv R (A4 R) ?_)))))))
 obtain ⟨v1,hv1,h⟩:=Ae h
 refine Ba R Asx (Aa R (Aa R Af)) (An R) (Ph hv1) (sv R (Bt R R) (Ak (ccI h R (fun h=>?_) (fun h=>?_))))
 ·refine csr (ld Qq R R R R (sst Xu R R R R R (Ak (Bs (Ag ?_)))))
  obtain rfl:=SJ h
  exact dnA R Qq R (.lp _ _ _ R) (Nbl R) R R
 ·refine Bf (Ab (csr (ld Qq R R R R (sv R (A4 R) ?_))))
  refine Fo R Tryz.underlying225 ei3 R R (zJ.1 R) (by decide) ?_
  refine Pz [.box (EL.el a0),.box [Znl,Znl],.arr 3 1 0 ([a1].flatMap eI)] R ?_
  refine Ah4 12 R (by (repeat' first | exact Ic.nil _ | apply Ic.cons | apply H6.one | apply H6.agg | exact Cz.nil | exact Cz.ls _ _ _ _ _ _ R (Au (f:=eI) (fun _=>R) ([a1]:List Int)).symm | exact Cz.ls _ _ _ _ _ _ R (Au (f:=eI) (fun _=>R) _).symm | exact Cz.id _ R | exact Co.nil _ | apply Co.cons)) ?_
  obtain ⟨v2,hv2,h⟩:=Ae h
  refine Ba R Auj (Aa R (Aa R Af)) (An R) (Rh hv2) (sst Xu R R R R R (Ak (Bs ?_)))
  obtain rfl:=SJ h
  exact dnA R Qq R (.lp _ _ _ R) (Nbl R) R R
def E3 (a0:Bi) (a1:Int):Option (A8 × Bool) :=
 (Ej a0 a1).bind fun v1=>if (decide (v1=(a0.L.length:Int))) then (some ((A8.mk 0 0 0 0),false)) else ((idx a0.L v1).bind fun u2=>some (u2,true))
theorem Ku {a0:Bi} {a1:Int} {r:A8 × Bool} (h:E3 a0 a1=some r):Br Tryz.prog 74 [.agg [.sl a0.L.length (a0.L.flatMap Am)],.one (Ii6 a1)] (·=.tup [.agg (EL.el r.1),.one (.b r.2)]):=by
 unfold E3 at h
 refine A5 Tryz.func74 R (nt:=21) R (Nbl R) ?_
 intro w0 S0
 refine csr (F4 R R (Bp R V8 (rm 1 R (Ak (csr (ld Ou R R R R (sv R (A4 R) ?_)))))))
 obtain ⟨v1,hv1,h⟩:=Ae h
 refine Ba R Aqm (Aa R (Aa R Af)) (An R) (K9 hv1) (rm 1 R (Ak (Bl (csr (rm 1 R (fl Wp Ak9 R R R R R R (sv R (Aw Acx R) (sv R (B4 R R) (Ak (ccI h R (fun h=>?_) (fun h=>?_)))))))))))
 ·refine csr (sv R (A6 V8 Ahi A1 (.nil _)) (sst Aax R R R R R (rm 1 R (Ak (Bs (Ag ?_))))))
  obtain rfl:=SJ h
  exact dn (Ad (ra Ac9 R R R) (Ad (rt R) Ai)) (An R) R
 ·refine Bf (Ab (csr (fl Wp Ak9 R R R R R R (sv R (A4 R) ?_))))
  obtain ⟨u2,hu2,h⟩:=Ae h
  refine sv R (B8 (f:=Am) Acx (fun _=>R) R R R R hu2) ?_
  refine sv R (Bz (ys:=[Ii6 u2.Tok,Ii6 u2.Attempt,Ii6 u2.State,Ii6 u2.Ts]) Ac9 R (.cp _) R R) (sst Aax R R R R R (rm 1 R (Ak (Bs ?_))))
  obtain rfl:=SJ h
  exact dn (Ad (ra Ac9 R R R) (Ad (rt R) Ai)) (An R) R
def Jb (a0:List A8):Option (List A8) :=
 if (([]:List A8).length+a0.length)*32≤140737488355328 then (some (([]:List A8)++a0)) else none
theorem U2 {a0:List A8} {r:(List A8)} (h:Jb a0=some r):Dl Tryz.prog 249 [] [.one (.sl a0.length (a0.flatMap Am))] (fun y m'=>y=.s (.one (.ls 0 r.length))∧m'=[.arr 145 4 0 (r.flatMap Am)]):=by
 unfold Jb at h
 refine Dc Tryz.func249 R (nt:=8) R (Nbl R) ?_
 intro w0 S0 X0 H0
 refine csr (rm 1 R (Ak (Bl (csr (rm 1 R (Ac4 R Tryz.underlying35 R (fun nq hnq=>?_)))))))
 cases nq
 ·skip
  refine Ak (Ci R (fun hx=>Bool.noConfusion hx) (fun _=>?_))
  refine Bf (Ab (csr (S8 R Tryz.underlying35 Aky (sv R (A4 R) ?_))))
  obtain ⟨hb1,h⟩:=Cp h
  refine Tr (f:=Am) (xs:=([]:List A8)) (us:=a0) R Tryz.underlying35 Aky Ayv (fun _=>R) R R (.one _ _ _ _ (.id _ R)) R R R (.sl _ _ _ (Au (f:=Am) (fun _=>R) _)) R R hb1 (by decide) ?_
  refine rm 1 R (Ak (Bs ?_))
  obtain rfl:=SJ h
  exact ⟨Or.inr R,_,[0],[.one (.ls 0 (([]:List A8)++a0).length)],[.arr 145 4 0 ((([]:List A8)++a0).flatMap Am)],(Ad (rt R) Ai),R,R,⟨by decide,R⟩,R,R,⟨R,R⟩⟩
 ·obtain rfl:=zZ (hnq rfl)
  replace h:(some ([]:List A8))=some r:=by first | exact h | (rw [if_pos (by decide)] at h;exact h)
  refine Ak (Ci R (fun _=>?_) (fun hx=>Bool.noConfusion hx))
  refine csr (rm 1 R (Ak ?_))
  refine C6 145 4 2 (by decide) R ?_
  refine Bs (Ag ?_)
  obtain rfl:=SJ h
  exact ⟨Or.inr R,_,[0],[.one (.ls 0 ([]:List A8).length)],[.arr 145 4 0 (([]:List A8).flatMap Am)],(Ad (rt R) Ai),R,R,⟨by decide,R⟩,R,R,⟨R,R⟩⟩
def Mm (a0:List A8) (a1:Int) (a2:A8):Option (List A8) :=
 (Jb a0).bind fun v1=>if (decide ((v1.length:Int)≤a1)) then (if (v1.length+[a2].length)*32≤140737488355328 then (some (v1++[a2])) else none) else ((idx v1 a1).bind fun u3=>some (v1.set a1.toNat a2))
theorem Xo {a0:List A8} {a1:Int} {a2:A8} {r:(List A8)} (h:Mm a0 a1 a2=some r):Br Tryz.prog 196 [.one (.sl a0.length (a0.flatMap Am)),.one (Ii6 a1),.agg (EL.el a2)] (·=.s (.one (.sl r.length (r.flatMap Am)))):=by
 unfold Mm at h
 refine A5 Tryz.func196 R (nt:=23) R (Nbl R) ?_
 intro w0 S0
 refine csr (F4 R R (rm 1 R (Ak (csr (sv R (A4 R) ?_)))))
 obtain ⟨v1,hv1,h⟩:=Ae h
 refine Ie (x':=.s (.one (.ls 1 v1.length))) (M':=[.box (EL.el a2),.arr 145 4 0 (v1.flatMap Am)]) [] R Ax9 (.func _) (Aa R Af) (U2 hv1) R R (by decide) R R R ?_
 refine rm 1 R (Ak (Bl (csr (rm 2 R (sv R (Fu Acx R R (Au (f:=Am) (fun _=>R) _).symm) ?_)))))
 refine sv R (Hz R R) (Ak (ccI h R (fun h=>?_) (fun h=>?_)))
 ·refine csr (rm 1 R (sv R (lo Ac9 R R R) ?_))
  refine Fo R Tryz.underlying35 Aky R R (zJ.1 R) (by decide) ?_
  refine Pz [.box (EL.el a2),.arr 145 4 0 (v1.flatMap Am),.arr 145 4 0 ([a2].flatMap Am)] R ?_
  obtain ⟨hb2,h⟩:=Cp h
  refine Tr (f:=Am) (xs:=v1) (us:=[a2]) R Tryz.underlying35 Aky Ayv (fun _=>R) R R (.one _ _ _ _ (.ls _ _ _ _ _ _ R (Au (f:=Am) (fun _=>R) [a2]).symm)) R R R (.sl _ _ _ (Au (f:=Am) (fun _=>R) _)) R R hb2 (by decide) ?_
  refine rm 1 R (Ak (Bs (Ag ?_)))
  obtain rfl:=SJ h
  refine ⟨Or.inr R,_,_,_,(Ad (rt R) Ai),(by (repeat' first | exact Ic.nil _ | apply Ic.cons | apply H6.one | apply H6.agg | exact Cz.nil | exact Cz.ls _ _ _ _ _ _ R (Au (f:=Am) (fun _=>R) _).symm | exact Cz.id _ R | exact Co.nil _ | apply Co.cons)),?_⟩
  rfl
 ·refine Bf (Ab (csr (rm 2 R (sv R (lo Ac9 R R R) ?_))))
  obtain ⟨u3,hu3,h⟩:=Ae h
  refine sv R (Et (f:=Am) Acx (fun _=>R) R R R R R hu3) ?_
  refine Zw (f:=Am) (u':=a2) (sz:=4) 0 Aax (fun _=>R) R R R R R R R (zJ.1 R) (Gq hu3).2 (Nbl R) R ?_
  refine Mx 9 (y:=.s (.one (.ls 1 v1.length))) (.s (.one (.ls 1 (v1.set a1.toNat a2).length))) R (congrArg (fun n=>AV.s (.one (.ls 1 n))) List.length_set.symm) ?_
  refine Mx 7 (y:=.s (.one (.ls 1 v1.length))) (.s (.one (.ls 1 (v1.set a1.toNat a2).length))) R (congrArg (fun n=>AV.s (.one (.ls 1 n))) List.length_set.symm) ?_
  refine Mx 11 (y:=.s (.one (.ls 1 v1.length))) (.s (.one (.ls 1 (v1.set a1.toNat a2).length))) R (congrArg (fun n=>AV.s (.one (.ls 1 n))) List.length_set.symm) ?_
  refine Mx 18 (y:=.s (.one (.ls 1 v1.length))) (.s (.one (.ls 1 (v1.set a1.toNat a2).length))) R (congrArg (fun n=>AV.s (.one (.ls 1 n))) List.length_set.symm) ?_
  refine Ak (csr (rm 2 R (Ak (Bs ?_))))
  obtain rfl:=SJ h
  refine ⟨Or.inr R,_,_,_,(Ad (rt R) Ai),(by (repeat' first | exact Ic.nil _ | apply Ic.cons | apply H6.one | apply H6.agg | exact Cz.nil | exact Cz.ls _ _ _ _ _ _ R (Au (f:=Am) (fun _=>R) _).symm | exact Cz.id _ R | exact Co.nil _ | apply Co.cons)),?_⟩
  rfl
def C4 (a0:Bi) (a1:A8):Option (Bi × Int) :=
 (Ej a0 a1.Tok).bind fun v1=>if (decide (32≤v1)) then (some (Cm,8)) else ((Mm a0.L v1 a1).bind fun v2=>some ((Bi.mk v2),0))
theorem Hr {a0:Bi} {a1:A8} {r:Bi × Int} (h:C4 a0 a1=some r):Br Tryz.prog 131 [.agg [.sl a0.L.length (a0.L.flatMap Am)],.agg (EL.el a1)] (·=.tup [.agg [.sl r.1.L.length (r.1.L.flatMap Am)],.one (Ii6 r.2)]):=by
 unfold C4 at h
 refine A5 Tryz.func131 R (nt:=20) R (Nbl R) ?_
 intro w0 S0
 refine csr (F4 R R (F4 R R (Bp R Wc (rm 1 R (Ak (csr (ld Ou R R R R (sv R (Ac Zo R) (sv R (l1 ti3 R R R) ?_)))))))))
 obtain ⟨v1,hv1,h⟩:=Ae h
 refine Ba R Aqm (Aa R (Aa R Af)) (An R) (K9 hv1) (rm 1 R (Ak (Bl (csr (rm 1 R (sv R (Hz R R) (Ak (ccI h R (fun h=>?_) (fun h=>?_)))))))))
 ·refine csr (sv R (A6 Wc Abt A1 (.nil _)) (sst Tg R R R R R (rm 1 R (Ak (Bs (Ag ?_))))))
  obtain rfl:=SJ h
  exact dn (Ad (ra Ou R R R) (Ad (rt R) Ai)) (Ip R) R
 ·refine Bf (Ab (csr (fl Wp Ak9 R R R R R R (rm 1 R (sv R (lo Ac9 R R R) ?_)))))
  obtain ⟨v2,hv2,h⟩:=Ae h
  refine Ba R Az4 (Aa R (Aa R (Aa R Af))) (An R) (Xo hv2) (sv R (A6 Wc Abt (Ax R A1) (.cons _ _ _ _ _ _ _ R R (Nbl R) (.nil _))) (sst Tg R R R R R (rm 1 R (Ak (Bs ?_)))))
  obtain rfl:=SJ h
  exact dn (Ad (ra Ou R R R) (Ad (rt R) Ai)) (An R) R
def Ld (a0:Bi) (a1:Int) (a2:Int) (b1:Unit):Option (Bi × Int × Int) :=
 (E3 a0 a1).bind fun v2=>if (decide (v2.1.State=2)) then (some (a0,v2.1.Ts,0)) else ((C4 a0 (A8.mk a1 (if a2 > v2.1.Attempt then a2 else v2.1.Attempt) 3 0)).bind fun v3=>some (v3.1,0,v3.2))
def Cq (a0:Bi) (a1:Int) (a2:Int):Option (Bi × Int × Int) :=
 (C0 a0).bind fun v4=>if (!v4) then (some (Cm,0,1)) else ((Cn a1 a2).bind fun v5=>if (!v5) then (some (Cm,0,1)) else (Ld a0 a1 a2 ()))
theorem Ro {a0:Bi} {a1:Int} {a2:Int} {r:Bi × Int × Int} (h:Cq a0 a1 a2=some r):Br Tryz.prog 73 [.agg [.sl a0.L.length (a0.L.flatMap Am)],.one (Ii6 a1),.one (Ii6 a2)] (·=.tup [.agg [.sl r.1.L.length (r.1.L.flatMap Am)],.one (Ii6 r.2.1),.one (Ii6 r.2.2)]):=by
 unfold Cq at h
 refine A5 Tryz.func73 R (nt:=48) R (Nbl R) ?_
 intro w0 S0
 refine csr (F4 R R (Bp R Wc (rm 2 R (Ak (Bl (Bl (cj3 (Unit) (fun b1=>[(1,.s (.one (Ii6 a1))),(2,.s (.one (Ii6 a2))),(3,.s (.one (.lp 0 0))),(6,.s (.one (.lp 1 0)))]) (fun b1=>[.box [.sl a0.L.length (a0.L.flatMap Am)],.box [Znl]]) (fun b1=>Ld a0 a1 a2 b1=some r) (fun _=>R) (fun b1 h=>?_) ?_)))))))
 ·unfold Ld at h
  refine csr (ld Ou R R R R (sv R (A4 R) ?_))
  obtain ⟨v2,hv2,h⟩:=Ae h
  refine Ba R Av6 (Aa R (Aa R Af)) (An R) (Ku hv2) (sv R (Ca R) (sv R (Aj R R) (sv R (Aj R R) (Bp R V8 (sst Aax R R R R R (rm 1 R (Ak (Bl (csr (fl Wh ti3 R R R R R R (sv R (B4 R R) (Ak (ccI h R (fun h=>?_) (fun h=>?_))))))))))))))
  ·refine Bl ?_
   refine Ig [3] [0,0,2,1,15,31] [[.box [.sl a0.L.length (a0.L.flatMap Am)],.box [Znl],.box (EL.el v2.1)],[.box [.sl a0.L.length (a0.L.flatMap Am)],.box [.sl a0.L.length (a0.L.flatMap Am)],.box (EL.el v2.1)]] (by kernel_rfl) mixed (by kernel_rfl) (by decide) R R R R ?_
   refine evs (md:=[.box [.sl a0.L.length (a0.L.flatMap Am)],.dead,.box (EL.el v2.1)]) (fun hS=>ev (A7 0 R R) R R (lo Ou R R R) (ev (B5 hS) R R (Ac Ahr R) (ev (B5 hS) R R (l1 ti3 R R R) (ee0 0 R R R R (fun ζ=>?_) ?_)))) ⟨⟨R,⟨trivial,⟨R,trivial⟩⟩⟩,⟨⟨R,⟨trivial,⟨R,trivial⟩⟩⟩,trivial⟩⟩
   ·refine sst Tg R R R R R (Pz [.box [.sl a0.L.length (a0.L.flatMap Am)],.box [.sl a0.L.length (a0.L.flatMap Am)],.box (EL.el v2.1)] R ?_)
    exact Sv
   refine ev (A7 1 R R) R R (Iu R) (ev (A7 1 R R) R R (Iu R) (Aas (Ab (Bs (Ag ?_)))))
   obtain rfl:=SJ h
   exact dn (Ad (ra Ou R R R) (Ad (rt R) (Ad (rt R) Ai))) (An R) R
  ·refine Bf (Ab (csr (ld Ou R R R R (rm 1 R (fl We ti3 R R R R R R (rm 1 R (sv R (Ash R R) (sv R (A6 V8 Ahi (Ax R (Ax R (Ax R A1))) (.cons _ _ _ _ _ _ _ R R (Nbl R) (.cons _ _ _ _ _ _ _ R R (Nbl R) (.cons _ _ _ _ _ _ _ R R (Nbl R) (.nil _))))) ?_))))))))
   obtain ⟨v3,hv3,h⟩:=Ae h
   refine Ba R Ajo (Aa R (Aa R Af)) (An R) (Hr hv3) (sv R (Ca R) (sv R (Aj R R) (sv R (Aj R R) (Bp R Wc (sst Tg R R R R R (rm 1 R (Ak (csr (ld Ou R R R R (rm 1 R (sst Tg R R R R R (rm 2 R (Ak (Bs ?_))))))))))))))
   obtain rfl:=SJ h
   exact dn (Ad (ra Ou R R R) (Ad (rt R) (Ad (rt R) Ai))) (An R) R
 ·skip
  refine Aq (sv R (lo Ou R R R) ?_)
  obtain ⟨v4,hv4,h⟩:=Ae h
  refine Ba R Auu (Aa R Af) (An R) (Kj hv4) (sv R (B0 R) (rm 1 R (ssI 16 h R (fun h=>?_) (fun h=>?_))))
  ·refine rm 5 R (Ak (Ci R (fun _=>?_) (fun hx=>Bool.noConfusion hx)))
   refine csr (sv R (A6 Wc Abt A1 (.nil _)) (sst Tg R R R R R (rm 2 R (Ak (Bs (Ag ?_))))))
   obtain rfl:=SJ h
   exact dn (Ad (ra Ou R R R) (Ad (rt R) (Ad (rt R) Ai))) (Ip R) R
  ·refine rm 2 R (son R R R ?_)
   obtain ⟨v5,hv5,h⟩:=Ae h
   refine Ba R Akm (Aa R (Aa R Af)) (An R) (D4 hv5) (son R R R (sv R (B0 R) (rm 1 R (Ak (ccI h R (fun h=>?_) (fun h=>?_))))))
   ·refine csr (sv R (A6 Wc Abt A1 (.nil _)) (sst Tg R R R R R (rm 2 R (Ak (Bs (Ag ?_))))))
    obtain rfl:=SJ h
    exact dn (Ad (ra Ou R R R) (Ad (rt R) (Ad (rt R) Ai))) (Ip R) R
   ·refine Bf (Ab ?_)
    exact ⟨(),_,h,⟨R,R,R,R,trivial⟩,R⟩
def Cv (a0:Ah) (a1:Be):Option Ah :=
 (Kp a0 a1.ID).bind fun v1=>(Ea v1.Cert a1.ID).bind fun v2=>(Cq v1.Toks a1.Token a1.Attempt).bind fun v3=>if (decide (v3.2.2=0)) then (some ({v1 with Cert:=v2,Toks:=v3.1})) else (some ({v1 with Cert:=v2}))
theorem Ih {a0:Ah} {a1:Be} {r:Ah} (h:Cv a0 a1=some r):Br Tryz.prog 57 [.agg (EL.el a0),.agg (EL.el a1)] (·=.s (.agg (EL.el r))):=by
 unfold Cv at h
 refine A5 Tryz.func57 R (nt:=34) R (Nbl R) ?_
 intro w0 S0
 refine csr (F4 R R (F4 R R (Bp R Qw (Ak (csr (ld Dd R R R R (sv R (Ac R9 R) (sv R (l1 ti3 R R R) ?_))))))))
 obtain ⟨v1,hv1,h⟩:=Ae h
 refine Ba R Awv (Aa R (Aa R Af)) (An R) (R5 hv1) (sst Jn R R R R R (Ak (csr (sv R (Ac Uc R) (ld Qq R R R R (sv R (Ac R9 R) (sv R (l1 ti3 R R R) ?_)))))))
 obtain ⟨v2,hv2,h⟩:=Ae h
 refine Ba R Az1 (Aa R (Aa R Af)) (An R) (Y2 hv2) (sv R (Ac Uc R) (sst Xu R R R R R (Ak (Bl (csr (sv R (Ac Vd R) (ld Ou R R R R (fl Aed ti3 R R R R R R (sv R (Ac Ai4 R) (sv R (l1 ti3 R R R) ?_))))))))))
 obtain ⟨v3,hv3,h⟩:=Ae h
 refine Ba R A0j (Aa R (Aa R (Aa R Af))) (An R) (Ro hv3) (sv R (Ca R) (sv R (Aj R R) (sv R (Aj R R) (sv R (Aj R R) (Bp R Wc (sst Tg R R R R R (rm 2 R (Ak (csr (rm 1 R (sv R (B4 R R) (Ak (ccI h R (fun h=>?_) (fun h=>?_))))))))))))))
 ·refine Aq (ld Ou R R R R (sv R (Ac Vd R) (sst Tg R R R R R (Ak (csr (ld Dd R R R R (sst Jn R R R R R (Ak (Bs ?_)))))))))
  obtain rfl:=SJ h
  exact dnA R Dd R (.lp _ _ _ R) (Nbl R) R R
 ·refine Bf (Ab (csr (ld Dd R R R R (sst Jn R R R R R (Ak (Bs ?_))))))
  obtain rfl:=SJ h
  exact dnA R Dd R (.lp _ _ _ R) (Nbl R) R R
def K6 (a0:Bi) (a1:Int) (a2:Int) (b1:Unit):Option (Bi × Int) :=
 (E3 a0 a1).bind fun v2=>if v2.2 then (if (decide (v2.1.State=2)) then (some (Cm,7)) else (if v2.2 then (if (decide (a2≤v2.1.Attempt)) then (some (Cm,14)) else ((C4 a0 (A8.mk a1 a2 1 0)).bind fun v3=>some (v3.1,v3.2))) else ((C4 a0 (A8.mk a1 a2 1 0)).bind fun v4=>some (v4.1,v4.2)))) else (if v2.2 then (if (decide (a2≤v2.1.Attempt)) then (some (Cm,14)) else ((C4 a0 (A8.mk a1 a2 1 0)).bind fun v5=>some (v5.1,v5.2))) else ((C4 a0 (A8.mk a1 a2 1 0)).bind fun v6=>some (v6.1,v6.2)))
def Ii (a0:Bi) (a1:Int) (a2:Int):Option (Bi × Int) :=
 (C0 a0).bind fun v7=>if (!v7) then (some (Cm,1)) else ((Cn a1 a2).bind fun v8=>if (!v8) then (some (Cm,1)) else (K6 a0 a1 a2 ()))
theorem Wr {a0:Bi} {a1:Int} {a2:Int} {r:Bi × Int} (h:Ii a0 a1 a2=some r):Br Tryz.prog 58 [.agg [.sl a0.L.length (a0.L.flatMap Am)],.one (Ii6 a1),.one (Ii6 a2)] (·=.tup [.agg [.sl r.1.L.length (r.1.L.flatMap Am)],.one (Ii6 r.2)]):=by
 unfold Ii at h
 refine A5 Tryz.func58 R (nt:=50) R (Nbl R) ?_
 intro w0 S0
 refine csr (F4 R R (Bp R Wc (rm 1 R (Ak (Bl (Bl (cj3 (Unit) (fun b1=>[(1,.s (.one (Ii6 a1))),(2,.s (.one (Ii6 a2))),(3,.s (.one (.lp 0 0))),(6,.s (.one (.lp 1 0)))]) (fun b1=>[.box [.sl a0.L.length (a0.L.flatMap Am)],.box [Znl]]) (fun b1=>K6 a0 a1 a2 b1=some r) (fun _=>R) (fun b1 h=>?_) ?_)))))))
 ·unfold K6 at h
  refine csr (ld Ou R R R R (sv R (A4 R) ?_))
  obtain ⟨v2,hv2,h⟩:=Ae h
  refine Ba R Av6 (Aa R (Aa R Af)) (An R) (Ku hv2) (sv R (Ca R) (sv R (Aj R R) (sv R (Aj R R) (Bp R V8 (sst Aax R R R R R (rm 1 R (Ak (Bl (Bq (csr (rm 2 R (ssI 28 h R (fun h=>?_) (fun h=>?_)))))))))))))
  ·refine son R R R (sv R (Ac Wh R) (son R R R (sv R (l1 ti3 R R R) (son R R R (sv R (B4 R R) (rm 2 R (Ak (ccI h R (fun h=>?_) (fun h=>?_)))))))))
   ·refine csr (sv R (A6 Wc Abt A1 (.nil _)) (sst Tg R R R R R (rm 1 R (Ak (Bs (Az (Ag ?_)))))))
    obtain rfl:=SJ h
    exact dn (Ad (ra Ou R R R) (Ad (rt R) Ai)) (Ip R) R
   ·refine csr (rm 2 R (ssI 36 h R (fun h=>?_) (fun h=>?_)))
    ·refine rm 1 R (son R R R (sv R (Ac We R) (son R R R (sv R (l1 ti3 R R R) (son R R R (sv R (De R R) (rm 2 R (Ak (ccI h R (fun h=>?_) (fun h=>?_))))))))))
     ·refine csr (sv R (A6 Wc Abt A1 (.nil _)) (sst Tg R R R R R (rm 1 R (Ak (Bs (Az (Ag ?_)))))))
      obtain rfl:=SJ h
      exact dn (Ad (ra Ou R R R) (Ad (rt R) Ai)) (Ip R) R
     ·refine Bf (Ap (Ab (csr (ld Ou R R R R (rm 2 R (sv R (A6 V8 Ahi (Ax R (Ax R (Ax R A1))) (.cons _ _ _ _ _ _ _ R R (Nbl R) (.cons _ _ _ _ _ _ _ R R (Nbl R) (.cons _ _ _ _ _ _ _ R R (Nbl R) (.nil _))))) ?_))))))
      obtain ⟨v3,hv3,h⟩:=Ae h
      refine Ba R Ajo (Aa R (Aa R Af)) (An R) (Hr hv3) (sv R (Aj R R) (sv R (Aj R R) (sst Tg R R R R R (rm 1 R (Ak (Bs ?_))))))
      obtain rfl:=SJ h
      exact dn (Ad (ra Ou R R R) (Ad (rt R) Ai)) (An R) R
    ·refine rm 6 R (Ak (Ci R (fun hx=>Bool.noConfusion hx) (fun _=>?_)))
     refine Bf (Ap (Ab (csr (ld Ou R R R R (rm 2 R (sv R (A6 V8 Ahi (Ax R (Ax R (Ax R A1))) (.cons _ _ _ _ _ _ _ R R (Nbl R) (.cons _ _ _ _ _ _ _ R R (Nbl R) (.cons _ _ _ _ _ _ _ R R (Nbl R) (.nil _))))) ?_))))))
     obtain ⟨v4,hv4,h⟩:=Ae h
     refine Ba R Ajo (Aa R (Aa R Af)) (An R) (Hr hv4) (sv R (Aj R R) (sv R (Aj R R) (sst Tg R R R R R (rm 1 R (Ak (Bs ?_))))))
     obtain rfl:=SJ h
     exact dn (Ad (ra Ou R R R) (Ad (rt R) Ai)) (An R) R
  ·refine rm 5 R (Ak (Ci R (fun hx=>Bool.noConfusion hx) (fun _=>?_)))
   refine csr (rm 2 R (ssI 36 h R (fun h=>?_) (fun h=>?_)))
   ·refine rm 1 R (son R R R (sv R (Ac We R) (son R R R (sv R (l1 ti3 R R R) (son R R R (sv R (De R R) (rm 2 R (Ak (ccI h R (fun h=>?_) (fun h=>?_))))))))))
    ·refine csr (sv R (A6 Wc Abt A1 (.nil _)) (sst Tg R R R R R (rm 1 R (Ak (Bs (Az (Ag ?_)))))))
     obtain rfl:=SJ h
     exact dn (Ad (ra Ou R R R) (Ad (rt R) Ai)) (Ip R) R
    ·refine Bf (Ap (Ab (csr (ld Ou R R R R (rm 2 R (sv R (A6 V8 Ahi (Ax R (Ax R (Ax R A1))) (.cons _ _ _ _ _ _ _ R R (Nbl R) (.cons _ _ _ _ _ _ _ R R (Nbl R) (.cons _ _ _ _ _ _ _ R R (Nbl R) (.nil _))))) ?_))))))
     obtain ⟨v5,hv5,h⟩:=Ae h
     refine Ba R Ajo (Aa R (Aa R Af)) (An R) (Hr hv5) (sv R (Aj R R) (sv R (Aj R R) (sst Tg R R R R R (rm 1 R (Ak (Bs ?_))))))
     obtain rfl:=SJ h
     exact dn (Ad (ra Ou R R R) (Ad (rt R) Ai)) (An R) R
   ·refine rm 6 R (Ak (Ci R (fun hx=>Bool.noConfusion hx) (fun _=>?_)))
    refine Bf (Ap (Ab (csr (ld Ou R R R R (rm 2 R (sv R (A6 V8 Ahi (Ax R (Ax R (Ax R A1))) (.cons _ _ _ _ _ _ _ R R (Nbl R) (.cons _ _ _ _ _ _ _ R R (Nbl R) (.cons _ _ _ _ _ _ _ R R (Nbl R) (.nil _))))) ?_))))))
    obtain ⟨v6,hv6,h⟩:=Ae h
    refine Ba R Ajo (Aa R (Aa R Af)) (An R) (Hr hv6) (sv R (Aj R R) (sv R (Aj R R) (sst Tg R R R R R (rm 1 R (Ak (Bs ?_))))))
    obtain rfl:=SJ h
    exact dn (Ad (ra Ou R R R) (Ad (rt R) Ai)) (An R) R
 ·skip
  refine Aq (sv R (lo Ou R R R) ?_)
  obtain ⟨v7,hv7,h⟩:=Ae h
  refine Ba R Auu (Aa R Af) (An R) (Kj hv7) (sv R (B0 R) (rm 1 R (ssI 13 h R (fun h=>?_) (fun h=>?_))))
  ·refine rm 5 R (Ak (Ci R (fun _=>?_) (fun hx=>Bool.noConfusion hx)))
   refine csr (sv R (A6 Wc Abt A1 (.nil _)) (sst Tg R R R R R (rm 1 R (Ak (Bs (Ag ?_))))))
   obtain rfl:=SJ h
   exact dn (Ad (ra Ou R R R) (Ad (rt R) Ai)) (Ip R) R
  ·refine rm 2 R (son R R R ?_)
   obtain ⟨v8,hv8,h⟩:=Ae h
   refine Ba R Akm (Aa R (Aa R Af)) (An R) (D4 hv8) (son R R R (sv R (B0 R) (rm 1 R (Ak (ccI h R (fun h=>?_) (fun h=>?_))))))
   ·refine csr (sv R (A6 Wc Abt A1 (.nil _)) (sst Tg R R R R R (rm 1 R (Ak (Bs (Ag ?_))))))
    obtain rfl:=SJ h
    exact dn (Ad (ra Ou R R R) (Ad (rt R) Ai)) (Ip R) R
   ·refine Bf (Ab ?_)
    exact ⟨(),_,h,⟨R,R,R,R,trivial⟩,R⟩
def J6 (a0:Int) (b1:Unit):Option (List A2) :=
 if (decide (0<(wI (a0-(wI (0-0)))))) then (if 0<(wI (a0-(wI (0-0))))∧(wI (a0-(wI (0-0))))*((64:Nat):Int)≤281474976710656 then (if (0:Int)≤0∧0≤((List.replicate (wI (a0-(wI (0-0)))).toNat X7).length:Int) then (some ((List.replicate (wI (a0-(wI (0-0)))).toNat X7).take (0:Int).toNat)) else none) else none) else (some ([]:List A2))
def Kr (a0:Int):Option (List A2) :=
 if (decide (a0<0)) then none else (J6 a0 ())
theorem Wf {a0:Int} {r:(List A2)} (h:Kr a0=some r):Dl Tryz.prog 198 [] [.one (Znl),.one (Ii6 a0)] (fun y m'=>y=.s (.one (.ls 0 r.length))∧m'=[.arr 139 8 0 (r.flatMap Bb)]):=by
 unfold Kr at h
 refine Dc Tryz.func198 R (nt:=27) R (Nbl R) ?_
 intro w0 S0 X0 H0
 refine csr (rm 1 R (Ak (Bl (csr (rm 1 R (sv R (Bt R R) (Ak (cj (Unit) (fun b1=>[(0,.s (.one (Znl))),(1,.s (.one (Ii6 a0)))]) (fun b1=>[]) (fun b1=>J6 a0 b1=some r) (fun _=>R) (fun b1 h=>?_) ?_))))))))
 ·unfold J6 at h
  refine Bl (csr (rm 2 R (sv R (Gu Qm R) (rm 1 R (sv R (F2 Qm R) (sv R (Nk R R) (sv R (Nk R R) (rm 1 R (Ak (csr (rm 1 R (sv R (C5 R R) (Ak (ccI h R (fun h=>?_) (fun h=>?_)))))))))))))))
  ·refine Aq (rm 2 R (sv R (Gu Qm R) (sv R (M0 Qm R R) (sv R (A4 R) ?_))))
   obtain ⟨hm2,h⟩:=Cp h
   refine Ahu (f:=Bb) (z:=X7) R Tryz.underlying29 Ahb Tryz.underlying3 (fun _=>R) R R R hm2 (by decide) ?_
   refine rm 1 R (sv R (F2 Qm R) ?_)
   obtain ⟨hs3,h⟩:=Cp h
   refine Abz (f:=Bb) R Qm (fun _=>R) R R R R R hs3 ?_
   refine rm 1 R (Ak (csr (rm 2 R (Ak (Bs ?_)))))
   obtain rfl:=SJ h
   exact ⟨Or.inr R,_,[1],[.one (.ls 0 ((List.replicate (wI (a0-(wI (0-0)))).toNat X7).take (0:Int).toNat).length)],[.arr 139 8 0 (((List.replicate (wI (a0-(wI (0-0)))).toNat X7).take (0:Int).toNat).flatMap Bb)],(Ad (rt R) Ai),R,R,⟨by decide,R⟩,R,R,⟨R,R⟩⟩
  ·refine Bf (Ab (csr (rm 2 R (Ak ?_))))
   refine C6 139 8 4 (by decide) R ?_
   refine Bs ?_
   obtain rfl:=SJ h
   exact ⟨Or.inr R,_,[0],[.one (.ls 0 ([]:List A2).length)],[.arr 139 8 0 (([]:List A2).flatMap Bb)],(Ad (rt R) Ai),R,R,⟨by decide,R⟩,R,R,⟨R,R⟩⟩
 ·skip
  refine ccI h R (fun h=>?_) (fun h=>?_)
  ·cases h
  ·refine Bf (Ab ?_)
   exact ⟨(),_,h,⟨R,R,trivial⟩,R⟩
def Mq (b3:(List A2)):Option (List A2) :=
 some b3
def Ek (a0:List (List A2)) (s4:Int × (List A2)):Option (LB (Int × (List A2)) ((List A2))) :=
 if (decide (s4.1<(a0.length:Int))) then ((idx a0 s4.1).bind fun u5=>if (s4.2.length+u5.length)*64≤140737488355328 then (some (.cont ((wI (s4.1+1)),(s4.2++u5)))) else none) else (some (.brk s4.2))
def I7 (a0:List (List A2)) (b1:Int):Option (List A2) :=
 (Kr b1).bind fun v2=>(Ct (Ek a0) fuel (0,v2)).bind fun e7=>Mq e7
def Eo (a0:List (List A2)) (s8:Int × Int):Option (LB (Int × Int) (Int)) :=
 if (decide (s8.2<(a0.length:Int))) then ((idx a0 s8.2).bind fun u9=>if (decide ((wI (s8.1+(u9.length:Int)))<0)) then none else (some (.cont ((wI (s8.1+(u9.length:Int))),(wI (s8.2+1)))))) else (some (.brk s8.1))
end Go.Proofs.YtkblaobhhoebaaaGreat.Abs
