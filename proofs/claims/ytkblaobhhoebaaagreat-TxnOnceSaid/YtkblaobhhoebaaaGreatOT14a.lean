/-
 t
-/
import Derived.Test.YtkblaobhhoebaaaGreatOAbsC
import Derived.Test.YtkblaobhhoebaaaGreatProg
set_option linter.unusedVariables false
set_option linter.unusedSimpArgs false
namespace Go.Proofs.YtkblaobhhoebaaaGreat.Abs
open Go.RowKit Go.Proofs
set_option maxRecDepth 100000
structure A8 where
 Key:List UInt8
 Val:List UInt8
 Del:Bool
def Ba (x:A8):List Lf:=[.sl x.Key.length (x.Key.flatMap eU8),.sl x.Val.length (x.Val.flatMap eU8),.b x.Del]
structure B4 where
 L:List A8
def Afk (x:B4):List Lf:=[.sl x.L.length (x.L.flatMap Ba)]
structure B8 where
 Key:List UInt8
 Val:List UInt8
def Cg (x:B8):List Lf:=[.sl x.Key.length (x.Key.flatMap eU8),.sl x.Val.length (x.Val.flatMap eU8)]
structure Bi where
 Lo:List UInt8
 Hi:List UInt8
 Open:Bool
def Aa6 (x:Bi):List Lf:=[.sl x.Lo.length (x.Lo.flatMap eU8),.sl x.Hi.length (x.Hi.flatMap eU8),.b x.Open]
structure I0 where
 What:Int
 N:Int
 Token:Int
 Attempt:Int
 RO:Bool
 Del:Bool
 Key:List UInt8
 Val:List UInt8
 Rng:Bi
def Ev (x:I0):List Lf:=[.i .i64 x.What,.i .i64 x.N,.i .i64 x.Token,.i .i64 x.Attempt,.b x.RO,.b x.Del,.sl x.Key.length (x.Key.flatMap eU8),.sl x.Val.length (x.Val.flatMap eU8),.sl x.Rng.Lo.length (x.Rng.Lo.flatMap eU8),.sl x.Rng.Hi.length (x.Rng.Hi.flatMap eU8),.b x.Rng.Open]
structure A3 where
 Ts:Int
 Val:List UInt8
 Del:Bool
def A7 (x:A3):List Lf:=[.i .i64 x.Ts,.sl x.Val.length (x.Val.flatMap eU8),.b x.Del]
structure An where
 L:List A3
def Aw (x:An):List Lf:=[.sl x.L.length (x.L.flatMap A7)]
structure B1 where
 Keys:List (List UInt8)
 Chains:List An
 Ts:Int
def Ac2 (x:B1):List Lf:=[.sl x.Keys.length (x.Keys.flatMap (eL eU8)),.sl x.Chains.length (x.Chains.flatMap Aw),.i .i64 x.Ts]
structure A2 where
 ID:Int
 Begin:Int
 End:Int
 State:Int
 In:Bool
 Out:Bool
 RO:Bool
 Keys:List (List UInt8)
def Be (x:A2):List Lf:=[.i .i64 x.ID,.i .i64 x.Begin,.i .i64 x.End,.i .i64 x.State,.b x.In,.b x.Out,.b x.RO,.sl x.Keys.length (x.Keys.flatMap (eL eU8))]
structure A0 where
 Tx:Int
 Rng:Bi
def Aq (x:A0):List Lf:=[.i .i64 x.Tx,.sl x.Rng.Lo.length (x.Rng.Lo.flatMap eU8),.sl x.Rng.Hi.length (x.Rng.Hi.flatMap eU8),.b x.Rng.Open]
structure Bz where
 L:List A0
def Adt (x:Bz):List Lf:=[.sl x.L.length (x.L.flatMap Aq)]
structure Bh where
 Txs:List A2
 Reads:Bz
def Ajo (x:Bh):List Lf:=[.sl x.Txs.length (x.Txs.flatMap Be),.sl x.Reads.L.length (x.Reads.L.flatMap Aq)]
structure A9 where
 Tok:Int
 Attempt:Int
 State:Int
 Ts:Int
def Al (x:A9):List Lf:=[.i .i64 x.Tok,.i .i64 x.Attempt,.i .i64 x.State,.i .i64 x.Ts]
structure Bm where
 L:List A9
def Abq (x:Bm):List Lf:=[.sl x.L.length (x.L.flatMap Al)]
structure Bl where
 ID:Int
 Token:Int
 Attempt:Int
 Snap:Int
 RO:Bool
 Buf:B4
def Bo (x:Bl):List Lf:=[.i .i64 x.ID,.i .i64 x.Token,.i .i64 x.Attempt,.i .i64 x.Snap,.b x.RO,.sl x.Buf.L.length (x.Buf.L.flatMap Ba)]
structure Am where
 Store:B1
 Cert:Bh
 Toks:Bm
 Open:List Bl
 Next:Int
def Aeq (x:Am):List Lf:=[.sl x.Store.Keys.length (x.Store.Keys.flatMap (eL eU8)),.sl x.Store.Chains.length (x.Store.Chains.flatMap Aw),.i .i64 x.Store.Ts,.sl x.Cert.Txs.length (x.Cert.Txs.flatMap Be),.sl x.Cert.Reads.L.length (x.Cert.Reads.L.flatMap Aq),.sl x.Toks.L.length (x.Toks.L.flatMap Al),.sl x.Open.length (x.Open.flatMap Bo),.i .i64 x.Next]
structure Cj where
 tx_:Int
 lo_:List UInt8
 hi_:List UInt8
 open_:Bool
def D3 (x:Cj):List Lf:=[.i .i64 x.tx_,.s ⟨x.lo_.toArray⟩,.s ⟨x.hi_.toArray⟩,.b x.open_]
structure Hz where
 n_:Int
 found_:Bool
 v_:List UInt8
 l_:List B8
 e_:Int
def Akp (x:Hz):List Lf:=[.i .i64 x.n_,.b x.found_,.sl x.v_.length (x.v_.flatMap eU8),.sl x.l_.length (x.l_.flatMap Cg),.i .i64 x.e_]
class EL (α:Type) where
 el:α→List Lf
instance:EL A8:=⟨Ba⟩
instance:EL B4:=⟨Afk⟩
instance:EL B8:=⟨Cg⟩
instance:EL Bi:=⟨Aa6⟩
instance:EL I0:=⟨Ev⟩
instance:EL A3:=⟨A7⟩
instance:EL An:=⟨Aw⟩
instance:EL B1:=⟨Ac2⟩
instance:EL A2:=⟨Be⟩
instance:EL A0:=⟨Aq⟩
instance:EL Bz:=⟨Adt⟩
instance:EL Bh:=⟨Ajo⟩
instance:EL A9:=⟨Al⟩
instance:EL Bm:=⟨Abq⟩
instance:EL Bl:=⟨Bo⟩
instance:EL Am:=⟨Aeq⟩
instance:EL Cj:=⟨D3⟩
instance:EL Hz:=⟨Akp⟩
abbrev O8:B1:=(B1.mk ([]:List (List UInt8)) ([]:List An) 0)
abbrev W8:A2:=(A2.mk 0 0 0 0 false false false ([]:List (List UInt8)))
abbrev Qd:A0:=(A0.mk 0 (Bi.mk ([]:List UInt8) ([]:List UInt8) false))
abbrev Ip:Bh:=(Bh.mk ([]:List A2) (Bz.mk ([]:List A0)))
abbrev Cm:Bm:=(Bm.mk ([]:List A9))
abbrev Pf:Bl:=(Bl.mk 0 0 0 0 false (B4.mk ([]:List A8)))
abbrev Fi:Am:=(Am.mk (B1.mk ([]:List (List UInt8)) ([]:List An) 0) (Bh.mk ([]:List A2) (Bz.mk ([]:List A0))) (Bm.mk ([]:List A9)) ([]:List Bl) 0)
abbrev Znl:Lf:=.raw (.slice none 0 0)
abbrev Ii6 (n:Int):Lf:=.i .i64 n
theorem SJ {α:Type} {a b:α} (h:some a=some b):a=b:=Option.some.inj h
abbrev Nfu:Lf:=.raw .nilFunc
abbrev Zba:List Lf:=[Znl,Znl,Ii6 0,Znl,Znl,Znl,Znl,Ii6 0]
abbrev Zbb:List Lf:=[Ii6 0,Ii6 0,Ii6 0,Ii6 0,.b false,.b false,.b false,Znl]
theorem Nbl {n m:Nat} (h:Nat.ble n m=true):n≤m:=Nat.le_of_ble_eq_true h
theorem V2:FI Tryz.prog 86 0 0:=⟨⟨_,_,1,Tryz.underlying86,rfl,rfl,by kernel_rfl,by decide⟩⟩
theorem Ani:TI Tryz.prog 84 false 1:=⟨⟨_,Tryz.underlying84,rfl⟩,by kernel_rfl⟩
theorem Ab9:SI Tryz.prog 84 99 3:=⟨Tryz.underlying84,by kernel_rfl,by decide⟩
theorem Aea:TI Tryz.prog 99 true 3:=⟨⟨_,Tryz.underlying99,rfl⟩,by kernel_rfl⟩
theorem Ai2:ZI Tryz.prog 99 ([Znl,Znl,.b false]):=Rw (by kernel_rfl)
theorem Ajm:(Tryz.prog.info? 99).map (·.size)=some 3:=by kernel_rfl
theorem Sa:FI Tryz.prog 99 0 0:=⟨⟨_,_,1,Tryz.underlying99,rfl,rfl,by kernel_rfl,by decide⟩⟩
theorem Nr:TI Tryz.prog 56 false 1:=⟨⟨_,Tryz.underlying56,rfl⟩,by kernel_rfl⟩
theorem X9:SI Tryz.prog 56 5 1:=⟨Tryz.underlying56,by kernel_rfl,by decide⟩
theorem Au4:FnI Tryz.prog 62:=⟨⟨_,Tryz.func62,by kernel_rfl,by kernel_rfl⟩⟩
theorem Za:FI Tryz.prog 99 1 1:=⟨⟨_,_,1,Tryz.underlying99,rfl,rfl,by kernel_rfl,by decide⟩⟩
theorem Adq:FI Tryz.prog 99 2 2:=⟨⟨_,_,1,Tryz.underlying99,rfl,rfl,by kernel_rfl,by decide⟩⟩
theorem ti4:TI Tryz.prog 4 false 1:=⟨⟨_,Tryz.underlying4,rfl⟩,by kernel_rfl⟩
theorem Aur:FnI Tryz.prog 124:=⟨⟨_,Tryz.func124,by kernel_rfl,by kernel_rfl⟩⟩
theorem Af3:TI Tryz.prog 86 true 1:=⟨⟨_,Tryz.underlying86,rfl⟩,by kernel_rfl⟩
theorem Ahl:EI Tryz.prog 56 1 24 [Znl]:=Ub (by kernel_rfl) (by decide)
theorem Asa:NI Tryz.prog 25:=⟨.inl ⟨_,Tryz.underlying25⟩⟩
theorem As7:FnI Tryz.prog 125:=⟨⟨_,Tryz.func125,by kernel_rfl,by kernel_rfl⟩⟩
theorem Sn:SI Tryz.prog 25 56 1:=⟨Tryz.underlying25,by kernel_rfl,by decide⟩
theorem mixed:Tryz.prog.follows .mixedOrders=true:=by kernel_rfl
theorem Auv:XI Tryz.prog 259 Extern.BytealgCompare.compare:=⟨⟨Tryz.f259,Tryz.func259,by kernel_rfl,by kernel_rfl,by kernel_rfl,by kernel_rfl⟩⟩
theorem Axj:FnI Tryz.prog 219:=⟨⟨_,Tryz.func219,by kernel_rfl,by kernel_rfl⟩⟩
theorem Amg:FnI Tryz.prog 150:=⟨⟨_,Tryz.func150,by kernel_rfl,by kernel_rfl⟩⟩
theorem Aos:FnI Tryz.prog 181:=⟨⟨_,Tryz.func181,by kernel_rfl,by kernel_rfl⟩⟩
theorem Ar1:SI Tryz.prog 61 157 2:=⟨Tryz.underlying61,by kernel_rfl,by decide⟩
theorem An8:TI Tryz.prog 157 true 2:=⟨⟨_,Tryz.underlying157,rfl⟩,by kernel_rfl⟩
theorem Ajx:ZI Tryz.prog 157 ([Znl,Znl]):=Rw (by kernel_rfl)
theorem Ari:(Tryz.prog.info? 157).map (·.size)=some 2:=by kernel_rfl
theorem Aed:FI Tryz.prog 157 0 0:=⟨⟨_,_,1,Tryz.underlying157,rfl,rfl,by kernel_rfl,by decide⟩⟩
theorem Aak:FI Tryz.prog 58 0 0:=⟨⟨_,_,1,Tryz.underlying58,rfl,rfl,by kernel_rfl,by decide⟩⟩
theorem Agy:FI Tryz.prog 58 2 2:=⟨⟨_,_,1,Tryz.underlying58,rfl,rfl,by kernel_rfl,by decide⟩⟩
theorem Xl:FI Tryz.prog 58 1 1:=⟨⟨_,_,1,Tryz.underlying58,rfl,rfl,by kernel_rfl,by decide⟩⟩
theorem Aqw:(Tryz.prog.info? 86).map (·.size)=some 1:=by kernel_rfl
theorem Abw:TI Tryz.prog 58 true 3:=⟨⟨_,Tryz.underlying58,rfl⟩,by kernel_rfl⟩
theorem Ay2:(Tryz.prog.info? 58).map (·.size)=some 3:=by kernel_rfl
theorem Anf:EI Tryz.prog 157 2 48 [Znl,Znl]:=Ub (by kernel_rfl) (by decide)
theorem Axx:NI Tryz.prog 61:=⟨.inl ⟨_,Tryz.underlying61⟩⟩
theorem Asi:PI Tryz.prog 157 [(0,1),(1,1)]:=Sk Tryz.underlying157 (by kernel_rfl) (by kernel_rfl)
theorem Aqn:FnI Tryz.prog 119:=⟨⟨_,Tryz.func119,by kernel_rfl,by kernel_rfl⟩⟩
theorem Awv:FnI Tryz.prog 120:=⟨⟨_,Tryz.func120,by kernel_rfl,by kernel_rfl⟩⟩
theorem Akc:FnI Tryz.prog 121:=⟨⟨_,Tryz.func121,by kernel_rfl,by kernel_rfl⟩⟩
theorem Axo:FnI Tryz.prog 122:=⟨⟨_,Tryz.func122,by kernel_rfl,by kernel_rfl⟩⟩
theorem Q8:ZI Tryz.prog 40 (Zba):=Rw (by kernel_rfl)
theorem Aj8:PI Tryz.prog 40 [(0,3),(3,2),(5,1),(6,1),(7,1)]:=Sk Tryz.underlying40 (by kernel_rfl) (by kernel_rfl)
theorem Dh:TI Tryz.prog 40 true 8:=⟨⟨_,Tryz.underlying40,rfl⟩,by kernel_rfl⟩
theorem Tl:FI Tryz.prog 40 0 0:=⟨⟨_,_,3,Tryz.underlying40,rfl,rfl,by kernel_rfl,by decide⟩⟩
theorem Xk:TI Tryz.prog 28 true 3:=⟨⟨_,Tryz.underlying28,rfl⟩,by kernel_rfl⟩
theorem Sb:FI Tryz.prog 28 2 2:=⟨⟨_,_,1,Tryz.underlying28,rfl,rfl,by kernel_rfl,by decide⟩⟩
theorem ti3:TI Tryz.prog 3 false 1:=⟨⟨_,Tryz.underlying3,rfl⟩,by kernel_rfl⟩
theorem Q4:FI Tryz.prog 28 0 0:=⟨⟨_,_,1,Tryz.underlying28,rfl,rfl,by kernel_rfl,by decide⟩⟩
theorem Abm:TI Tryz.prog 25 false 1:=⟨⟨_,Tryz.underlying25,rfl⟩,by kernel_rfl⟩
theorem Qj:FI Tryz.prog 28 1 1:=⟨⟨_,_,1,Tryz.underlying28,rfl,rfl,by kernel_rfl,by decide⟩⟩
theorem Ahz:TI Tryz.prog 26 false 1:=⟨⟨_,Tryz.underlying26,rfl⟩,by kernel_rfl⟩
theorem Am4:SI Tryz.prog 26 134 1:=⟨Tryz.underlying26,by kernel_rfl,by decide⟩
theorem Atf:FnI Tryz.prog 107:=⟨⟨_,Tryz.func107,by kernel_rfl,by kernel_rfl⟩⟩
theorem Oh:TI Tryz.prog 134 true 1:=⟨⟨_,Tryz.underlying134,rfl⟩,by kernel_rfl⟩
theorem X5:ZI Tryz.prog 134 ([Znl]):=Rw (by kernel_rfl)
theorem X8:(Tryz.prog.info? 134).map (·.size)=some 1:=by kernel_rfl
theorem Sx:FI Tryz.prog 134 0 0:=⟨⟨_,_,1,Tryz.underlying134,rfl,rfl,by kernel_rfl,by decide⟩⟩
theorem Z4:TI Tryz.prog 132 false 1:=⟨⟨_,Tryz.underlying132,rfl⟩,by kernel_rfl⟩
theorem Vy:SI Tryz.prog 132 136 3:=⟨Tryz.underlying132,by kernel_rfl,by decide⟩
theorem zi4:ZI Tryz.prog 4 ([.b false]):=Rw (by kernel_rfl)
theorem zi3:ZI Tryz.prog 3 ([Ii6 0]):=Rw (by kernel_rfl)
theorem sz3:(Tryz.prog.info? 3).map (·.size)=some 1:=by kernel_rfl
theorem Aq2:FnI Tryz.prog 182:=⟨⟨_,Tryz.func182,by kernel_rfl,by kernel_rfl⟩⟩
theorem Aek:TI Tryz.prog 136 true 3:=⟨⟨_,Tryz.underlying136,rfl⟩,by kernel_rfl⟩
theorem Aqt:FnI Tryz.prog 235:=⟨⟨_,Tryz.func235,by kernel_rfl,by kernel_rfl⟩⟩
theorem Afj:ZI Tryz.prog 136 ([Ii6 0,Znl,.b false]):=Rw (by kernel_rfl)
theorem Ah3:(Tryz.prog.info? 136).map (·.size)=some 3:=by kernel_rfl
theorem Vq:FI Tryz.prog 136 0 0:=⟨⟨_,_,1,Tryz.underlying136,rfl,rfl,by kernel_rfl,by decide⟩⟩
theorem Aen:FI Tryz.prog 136 1 1:=⟨⟨_,_,1,Tryz.underlying136,rfl,rfl,by kernel_rfl,by decide⟩⟩
theorem Ae8:FI Tryz.prog 136 2 2:=⟨⟨_,_,1,Tryz.underlying136,rfl,rfl,by kernel_rfl,by decide⟩⟩
theorem As1:FnI Tryz.prog 183:=⟨⟨_,Tryz.func183,by kernel_rfl,by kernel_rfl⟩⟩
theorem sz4:(Tryz.prog.info? 4).map (·.size)=some 1:=by kernel_rfl
theorem Ap6:FnI Tryz.prog 108:=⟨⟨_,Tryz.func108,by kernel_rfl,by kernel_rfl⟩⟩
theorem Atg:FnI Tryz.prog 109:=⟨⟨_,Tryz.func109,by kernel_rfl,by kernel_rfl⟩⟩
theorem At2:FnI Tryz.prog 45:=⟨⟨_,Tryz.func45,by kernel_rfl,by kernel_rfl⟩⟩
theorem Sz:FI Tryz.prog 40 1 3:=⟨⟨_,_,2,Tryz.underlying40,rfl,rfl,by kernel_rfl,by decide⟩⟩
theorem P9:TI Tryz.prog 34 true 2:=⟨⟨_,Tryz.underlying34,rfl⟩,by kernel_rfl⟩
theorem Of:FI Tryz.prog 34 0 0:=⟨⟨_,_,1,Tryz.underlying34,rfl,rfl,by kernel_rfl,by decide⟩⟩
theorem Aaa:TI Tryz.prog 29 false 1:=⟨⟨_,Tryz.underlying29,rfl⟩,by kernel_rfl⟩
theorem P7:SI Tryz.prog 29 139 8:=⟨Tryz.underlying29,by kernel_rfl,by decide⟩
theorem Zm:FI Tryz.prog 34 1 1:=⟨⟨_,_,1,Tryz.underlying34,rfl,rfl,by kernel_rfl,by decide⟩⟩
theorem Ab7:TI Tryz.prog 32 true 1:=⟨⟨_,Tryz.underlying32,rfl⟩,by kernel_rfl⟩
theorem Un:FI Tryz.prog 32 0 0:=⟨⟨_,_,1,Tryz.underlying32,rfl,rfl,by kernel_rfl,by decide⟩⟩
theorem Ah6:TI Tryz.prog 30 false 1:=⟨⟨_,Tryz.underlying30,rfl⟩,by kernel_rfl⟩
theorem Aat:SI Tryz.prog 30 142 4:=⟨Tryz.underlying30,by kernel_rfl,by decide⟩
theorem Aah:TI Tryz.prog 142 true 4:=⟨⟨_,Tryz.underlying142,rfl⟩,by kernel_rfl⟩
theorem Ail:ZI Tryz.prog 142 ([Ii6 0,Znl,Znl,.b false]):=Rw (by kernel_rfl)
theorem Aj1:(Tryz.prog.info? 142).map (·.size)=some 4:=by kernel_rfl
theorem Abc:FI Tryz.prog 142 0 0:=⟨⟨_,_,1,Tryz.underlying142,rfl,rfl,by kernel_rfl,by decide⟩⟩
theorem W4:FI Tryz.prog 142 1 1:=⟨⟨_,_,3,Tryz.underlying142,rfl,rfl,by kernel_rfl,by decide⟩⟩
theorem Ax7:FnI Tryz.prog 71:=⟨⟨_,Tryz.func71,by kernel_rfl,by kernel_rfl⟩⟩
theorem ti5:TI Tryz.prog 5 false 1:=⟨⟨_,Tryz.underlying5,rfl⟩,by kernel_rfl⟩
theorem Axy:FnI Tryz.prog 72:=⟨⟨_,Tryz.func72,by kernel_rfl,by kernel_rfl⟩⟩
theorem As9:FnI Tryz.prog 184:=⟨⟨_,Tryz.func184,by kernel_rfl,by kernel_rfl⟩⟩
instance:DecidableEq Cj:=fun a b=>decidable_of_iff (a.tx_=b.tx_∧a.lo_=b.lo_∧a.hi_=b.hi_∧a.open_=b.open_) (by cases a;cases b;simp)
theorem Asr:Ad6 Cj Tryz.prog 354 D3 [0,2,2,1]:=⟨⟨by kernel_rfl,by kernel_rfl,by kernel_rfl,by kernel_rfl⟩,fun _=>rfl,by decide,fun a b=>by cases a;cases b;simp [D3,Ase,Au9,Ayb,Ay6]⟩
theorem Asw:ZI Tryz.prog 354 ([Ii6 0,.s ByteArray.empty,.s ByteArray.empty,.b false]):=Rw (by kernel_rfl)
theorem Avo:PI Tryz.prog 354 [(0,1),(1,1),(2,1),(3,1)]:=Sk Tryz.underlying354 (by kernel_rfl) (by kernel_rfl)
theorem Avs:(Tryz.prog.info? 354).map (·.size)=some 4:=by kernel_rfl
theorem Awi:TI Tryz.prog 354 true 4:=⟨⟨_,Tryz.underlying354,rfl⟩,by kernel_rfl⟩
theorem Aug:FnI Tryz.prog 236:=⟨⟨_,Tryz.func236,by kernel_rfl,by kernel_rfl⟩⟩
theorem Aub:FnI Tryz.prog 185:=⟨⟨_,Tryz.func185,by kernel_rfl,by kernel_rfl⟩⟩
theorem At8:FnI Tryz.prog 110:=⟨⟨_,Tryz.func110,by kernel_rfl,by kernel_rfl⟩⟩
theorem I6:TI Tryz.prog 139 true 8:=⟨⟨_,Tryz.underlying139,rfl⟩,by kernel_rfl⟩
theorem Sj:ZI Tryz.prog 139 (Zbb):=Rw (by kernel_rfl)
theorem Rx:(Tryz.prog.info? 139).map (·.size)=some 8:=by kernel_rfl
theorem Sv:FI Tryz.prog 139 0 0:=⟨⟨_,_,1,Tryz.underlying139,rfl,rfl,by kernel_rfl,by decide⟩⟩
theorem Ux:FI Tryz.prog 139 1 1:=⟨⟨_,_,1,Tryz.underlying139,rfl,rfl,by kernel_rfl,by decide⟩⟩
theorem Oo:FI Tryz.prog 139 3 3:=⟨⟨_,_,1,Tryz.underlying139,rfl,rfl,by kernel_rfl,by decide⟩⟩
theorem Qg:FI Tryz.prog 139 2 2:=⟨⟨_,_,1,Tryz.underlying139,rfl,rfl,by kernel_rfl,by decide⟩⟩
theorem Sy:FI Tryz.prog 139 7 7:=⟨⟨_,_,1,Tryz.underlying139,rfl,rfl,by kernel_rfl,by decide⟩⟩
theorem Aus:FnI Tryz.prog 186:=⟨⟨_,Tryz.func186,by kernel_rfl,by kernel_rfl⟩⟩
theorem Aei:FI Tryz.prog 139 6 6:=⟨⟨_,_,1,Tryz.underlying139,rfl,rfl,by kernel_rfl,by decide⟩⟩
theorem Auf:FnI Tryz.prog 111:=⟨⟨_,Tryz.func111,by kernel_rfl,by kernel_rfl⟩⟩
theorem Aw3:FnI Tryz.prog 112:=⟨⟨_,Tryz.func112,by kernel_rfl,by kernel_rfl⟩⟩
theorem ei3:EI Tryz.prog 3 1 8 [Ii6 0]:=Ub (by kernel_rfl) (by decide)
theorem Anw:NI Tryz.prog 225:=⟨.inl ⟨_,Tryz.underlying225⟩⟩
theorem Aso:FnI Tryz.prog 114:=⟨⟨_,Tryz.func114,by kernel_rfl,by kernel_rfl⟩⟩
theorem Aou:ZI Tryz.prog 32 ([Znl]):=Rw (by kernel_rfl)
theorem Aql:SI Tryz.prog 225 3 1:=⟨Tryz.underlying225,by kernel_rfl,by decide⟩
theorem At4:FnI Tryz.prog 197:=⟨⟨_,Tryz.func197,by kernel_rfl,by kernel_rfl⟩⟩
theorem Aq7:FnI Tryz.prog 237:=⟨⟨_,Tryz.func237,by kernel_rfl,by kernel_rfl⟩⟩
theorem Akk:EI Tryz.prog 142 4 64 [Ii6 0,Znl,Znl,.b false]:=Ub (by kernel_rfl) (by decide)
theorem Ax3:NI Tryz.prog 30:=⟨.inl ⟨_,Tryz.underlying30⟩⟩
theorem Ato:PI Tryz.prog 32 [(0,1)]:=Sk Tryz.underlying32 (by kernel_rfl) (by kernel_rfl)
theorem Ape:(Tryz.prog.info? 32).map (·.size)=some 1:=by kernel_rfl
theorem Axm:FnI Tryz.prog 187:=⟨⟨_,Tryz.func187,by kernel_rfl,by kernel_rfl⟩⟩
theorem Au0:FnI Tryz.prog 113:=⟨⟨_,Tryz.func113,by kernel_rfl,by kernel_rfl⟩⟩
theorem Atp:FT Tryz.prog 32 0 0 30:=⟨⟨_,_,Tryz.underlying32,rfl,rfl,rfl⟩⟩
theorem Au7:FnI Tryz.prog 46:=⟨⟨_,Tryz.func46,by kernel_rfl,by kernel_rfl⟩⟩
theorem Uj:FI Tryz.prog 40 2 5:=⟨⟨_,_,1,Tryz.underlying40,rfl,rfl,by kernel_rfl,by decide⟩⟩
theorem Nz:TI Tryz.prog 37 true 1:=⟨⟨_,Tryz.underlying37,rfl⟩,by kernel_rfl⟩
theorem V7:FI Tryz.prog 37 0 0:=⟨⟨_,_,1,Tryz.underlying37,rfl,rfl,by kernel_rfl,by decide⟩⟩
theorem Ajr:TI Tryz.prog 35 false 1:=⟨⟨_,Tryz.underlying35,rfl⟩,by kernel_rfl⟩
theorem Abp:SI Tryz.prog 35 145 4:=⟨Tryz.underlying35,by kernel_rfl,by decide⟩
theorem Abb:TI Tryz.prog 145 true 4:=⟨⟨_,Tryz.underlying145,rfl⟩,by kernel_rfl⟩
theorem Vj:ZI Tryz.prog 145 ([Ii6 0,Ii6 0,Ii6 0,Ii6 0]):=Rw (by kernel_rfl)
theorem Aac:(Tryz.prog.info? 145).map (·.size)=some 4:=by kernel_rfl
theorem Uy:FI Tryz.prog 145 2 2:=⟨⟨_,_,1,Tryz.underlying145,rfl,rfl,by kernel_rfl,by decide⟩⟩
theorem Yx:FI Tryz.prog 145 0 0:=⟨⟨_,_,1,Tryz.underlying145,rfl,rfl,by kernel_rfl,by decide⟩⟩
theorem Uz:FI Tryz.prog 145 1 1:=⟨⟨_,_,1,Tryz.underlying145,rfl,rfl,by kernel_rfl,by decide⟩⟩
theorem Ain:FnI Tryz.prog 130:=⟨⟨_,Tryz.func130,by kernel_rfl,by kernel_rfl⟩⟩
theorem Ae3:FI Tryz.prog 145 3 3:=⟨⟨_,_,1,Tryz.underlying145,rfl,rfl,by kernel_rfl,by decide⟩⟩
theorem At5:FnI Tryz.prog 188:=⟨⟨_,Tryz.func188,by kernel_rfl,by kernel_rfl⟩⟩
theorem Axp:FnI Tryz.prog 115:=⟨⟨_,Tryz.func115,by kernel_rfl,by kernel_rfl⟩⟩
theorem Am7:FnI Tryz.prog 116:=⟨⟨_,Tryz.func116,by kernel_rfl,by kernel_rfl⟩⟩
theorem At3:FnI Tryz.prog 47:=⟨⟨_,Tryz.func47,by kernel_rfl,by kernel_rfl⟩⟩
theorem Ui:FI Tryz.prog 40 4 7:=⟨⟨_,_,1,Tryz.underlying40,rfl,rfl,by kernel_rfl,by decide⟩⟩
theorem Ro:FI Tryz.prog 40 3 6:=⟨⟨_,_,1,Tryz.underlying40,rfl,rfl,by kernel_rfl,by decide⟩⟩
theorem Ai1:TI Tryz.prog 38 false 1:=⟨⟨_,Tryz.underlying38,rfl⟩,by kernel_rfl⟩
theorem Yl:SI Tryz.prog 38 88 6:=⟨Tryz.underlying38,by kernel_rfl,by decide⟩
theorem Vv:TI Tryz.prog 88 true 6:=⟨⟨_,Tryz.underlying88,rfl⟩,by kernel_rfl⟩
theorem Zv:ZI Tryz.prog 88 ([Ii6 0,Ii6 0,Ii6 0,Ii6 0,.b false,Znl]):=Rw (by kernel_rfl)
theorem Zx:(Tryz.prog.info? 88).map (·.size)=some 6:=by kernel_rfl
theorem Ri:FI Tryz.prog 88 0 0:=⟨⟨_,_,1,Tryz.underlying88,rfl,rfl,by kernel_rfl,by decide⟩⟩
theorem Avx:FnI Tryz.prog 48:=⟨⟨_,Tryz.func48,by kernel_rfl,by kernel_rfl⟩⟩
theorem Aqe:FnI Tryz.prog 132:=⟨⟨_,Tryz.func132,by kernel_rfl,by kernel_rfl⟩⟩
theorem Asj:PI Tryz.prog 139 [(0,1),(1,1),(2,1),(3,1),(4,1),(5,1),(6,1),(7,1)]:=Sk Tryz.underlying139 (by kernel_rfl) (by kernel_rfl)
theorem Axi:FnI Tryz.prog 189:=⟨⟨_,Tryz.func189,by kernel_rfl,by kernel_rfl⟩⟩
theorem Agk:FI Tryz.prog 88 3 3:=⟨⟨_,_,1,Tryz.underlying88,rfl,rfl,by kernel_rfl,by decide⟩⟩
theorem Aj3:FI Tryz.prog 88 4 4:=⟨⟨_,_,1,Tryz.underlying88,rfl,rfl,by kernel_rfl,by decide⟩⟩
theorem Xj:FI Tryz.prog 88 5 5:=⟨⟨_,_,1,Tryz.underlying88,rfl,rfl,by kernel_rfl,by decide⟩⟩
theorem Axs:FnI Tryz.prog 117:=⟨⟨_,Tryz.func117,by kernel_rfl,by kernel_rfl⟩⟩
theorem Aao:FI Tryz.prog 88 1 1:=⟨⟨_,_,1,Tryz.underlying88,rfl,rfl,by kernel_rfl,by decide⟩⟩
theorem Ayv:FnI Tryz.prog 49:=⟨⟨_,Tryz.func49,by kernel_rfl,by kernel_rfl⟩⟩
theorem At6:FnI Tryz.prog 16:=⟨⟨_,Tryz.func16,by kernel_rfl,by kernel_rfl⟩⟩
theorem J8:(Tryz.prog.info? 40).map (·.size)=some 8:=by kernel_rfl
theorem Au5:PI Tryz.prog 88 [(0,1),(1,1),(2,1),(3,1),(4,1),(5,1)]:=Sk Tryz.underlying88 (by kernel_rfl) (by kernel_rfl)
theorem Ax4:FnI Tryz.prog 56:=⟨⟨_,Tryz.func56,by kernel_rfl,by kernel_rfl⟩⟩
theorem Ac6:FI Tryz.prog 88 2 2:=⟨⟨_,_,1,Tryz.underlying88,rfl,rfl,by kernel_rfl,by decide⟩⟩
theorem Arj:EI Tryz.prog 88 6 64 [Ii6 0,Ii6 0,Ii6 0,Ii6 0,.b false,Znl]:=Ub (by kernel_rfl) (by decide)
theorem Avu:NI Tryz.prog 38:=⟨.inl ⟨_,Tryz.underlying38⟩⟩
theorem Axz:(Tryz.prog.info? 38).map (·.size)=some 1:=by kernel_rfl
theorem Ass:FnI Tryz.prog 128:=⟨⟨_,Tryz.func128,by kernel_rfl,by kernel_rfl⟩⟩
theorem Wq:ZI Tryz.prog 34 ([Znl,Znl]):=Rw (by kernel_rfl)
theorem Arz:FnI Tryz.prog 194:=⟨⟨_,Tryz.func194,by kernel_rfl,by kernel_rfl⟩⟩
theorem Ws:(Tryz.prog.info? 34).map (·.size)=some 2:=by kernel_rfl
theorem Afs:EI Tryz.prog 139 8 64 Zbb:=Ub (by kernel_rfl) (by decide)
theorem Awu:NI Tryz.prog 29:=⟨.inl ⟨_,Tryz.underlying29⟩⟩
theorem Ab8:PI Tryz.prog 34 [(0,1),(1,1)]:=Sk Tryz.underlying34 (by kernel_rfl) (by kernel_rfl)
theorem As8:FnI Tryz.prog 195:=⟨⟨_,Tryz.func195,by kernel_rfl,by kernel_rfl⟩⟩
theorem Axh:FnI Tryz.prog 129:=⟨⟨_,Tryz.func129,by kernel_rfl,by kernel_rfl⟩⟩
theorem U0:ZI Tryz.prog 37 ([Znl]):=Rw (by kernel_rfl)
theorem Aa5:PI Tryz.prog 37 [(0,1)]:=Sk Tryz.underlying37 (by kernel_rfl) (by kernel_rfl)
theorem Sf:(Tryz.prog.info? 37).map (·.size)=some 1:=by kernel_rfl
theorem Ae9:PI Tryz.prog 145 [(0,1),(1,1),(2,1),(3,1)]:=Sk Tryz.underlying145 (by kernel_rfl) (by kernel_rfl)
theorem Aue:FnI Tryz.prog 74:=⟨⟨_,Tryz.func74,by kernel_rfl,by kernel_rfl⟩⟩
theorem Aih:EI Tryz.prog 145 4 32 [Ii6 0,Ii6 0,Ii6 0,Ii6 0]:=Ub (by kernel_rfl) (by decide)
theorem Avy:NI Tryz.prog 35:=⟨.inl ⟨_,Tryz.underlying35⟩⟩
theorem Awl:FnI Tryz.prog 249:=⟨⟨_,Tryz.func249,by kernel_rfl,by kernel_rfl⟩⟩
theorem Ave:FnI Tryz.prog 196:=⟨⟨_,Tryz.func196,by kernel_rfl,by kernel_rfl⟩⟩
theorem Ah8:FnI Tryz.prog 131:=⟨⟨_,Tryz.func131,by kernel_rfl,by kernel_rfl⟩⟩
theorem Ax9:FnI Tryz.prog 73:=⟨⟨_,Tryz.func73,by kernel_rfl,by kernel_rfl⟩⟩
theorem Ash:FnI Tryz.prog 57:=⟨⟨_,Tryz.func57,by kernel_rfl,by kernel_rfl⟩⟩
theorem Ayk:FnI Tryz.prog 58:=⟨⟨_,Tryz.func58,by kernel_rfl,by kernel_rfl⟩⟩
theorem Ayt:EI Tryz.prog 29 1 24 [Znl]:=Ub (by kernel_rfl) (by decide)
theorem Aoa:SI Tryz.prog 312 29 1:=⟨Tryz.underlying312,by kernel_rfl,by decide⟩
theorem Axf:FnI Tryz.prog 198:=⟨⟨_,Tryz.func198,by kernel_rfl,by kernel_rfl⟩⟩
theorem Avn:FnI Tryz.prog 133:=⟨⟨_,Tryz.func133,by kernel_rfl,by kernel_rfl⟩⟩
theorem Aza:FnI Tryz.prog 59:=⟨⟨_,Tryz.func59,by kernel_rfl,by kernel_rfl⟩⟩
theorem Ayh:EI Tryz.prog 38 1 24 [Znl]:=Ub (by kernel_rfl) (by decide)
theorem Aom:SI Tryz.prog 246 38 1:=⟨Tryz.underlying246,by kernel_rfl,by decide⟩
theorem Awt:FnI Tryz.prog 134:=⟨⟨_,Tryz.func134,by kernel_rfl,by kernel_rfl⟩⟩
theorem Aym:FnI Tryz.prog 60:=⟨⟨_,Tryz.func60,by kernel_rfl,by kernel_rfl⟩⟩
theorem Aw1:FnI Tryz.prog 23:=⟨⟨_,Tryz.func23,by kernel_rfl,by kernel_rfl⟩⟩
theorem ei5:EI Tryz.prog 5 1 1 [.i .u8 0]:=Ub (by kernel_rfl) (by decide)
theorem Asb:FnI Tryz.prog 55:=⟨⟨_,Tryz.func55,by kernel_rfl,by kernel_rfl⟩⟩
theorem Arr:FnI Tryz.prog 61:=⟨⟨_,Tryz.func61,by kernel_rfl,by kernel_rfl⟩⟩
theorem Art:FnI Tryz.prog 135:=⟨⟨_,Tryz.func135,by kernel_rfl,by kernel_rfl⟩⟩
theorem Au8:PI Tryz.prog 99 [(0,1),(1,1),(2,1)]:=Sk Tryz.underlying99 (by kernel_rfl) (by kernel_rfl)
theorem Ayn:FnI Tryz.prog 63:=⟨⟨_,Tryz.func63,by kernel_rfl,by kernel_rfl⟩⟩
theorem Ax0:ZI Tryz.prog 58 ([Znl,Znl,.b false]):=Rw (by kernel_rfl)
theorem Avt:FnI Tryz.prog 206:=⟨⟨_,Tryz.func206,by kernel_rfl,by kernel_rfl⟩⟩
theorem Ayg:NI Tryz.prog 56:=⟨.inl ⟨_,Tryz.underlying56⟩⟩
theorem Axe:FnI Tryz.prog 137:=⟨⟨_,Tryz.func137,by kernel_rfl,by kernel_rfl⟩⟩
theorem Ayr:PI Tryz.prog 58 [(0,1),(1,1),(2,1)]:=Sk Tryz.underlying58 (by kernel_rfl) (by kernel_rfl)
theorem Ayd:FnI Tryz.prog 65:=⟨⟨_,Tryz.func65,by kernel_rfl,by kernel_rfl⟩⟩
theorem Awf:PI Tryz.prog 142 [(0,1),(1,3)]:=Sk Tryz.underlying142 (by kernel_rfl) (by kernel_rfl)
theorem zv3:(Tryz.prog.info? 3).bind (·.zero)=some (.int .i64 0):=by kernel_rfl
theorem Ay8:EI Tryz.prog 30 1 24 [Znl]:=Ub (by kernel_rfl) (by decide)
theorem Amv:SI Tryz.prog 396 30 1:=⟨Tryz.underlying396,by kernel_rfl,by decide⟩
theorem Avd:FnI Tryz.prog 268:=⟨⟨_,Tryz.func268,by kernel_rfl,by kernel_rfl⟩⟩
theorem Aws:FnI Tryz.prog 250:=⟨⟨_,Tryz.func250,by kernel_rfl,by kernel_rfl⟩⟩
theorem Awr:FnI Tryz.prog 199:=⟨⟨_,Tryz.func199,by kernel_rfl,by kernel_rfl⟩⟩
theorem At9:FnI Tryz.prog 200:=⟨⟨_,Tryz.func200,by kernel_rfl,by kernel_rfl⟩⟩
theorem Auj:FnI Tryz.prog 251:=⟨⟨_,Tryz.func251,by kernel_rfl,by kernel_rfl⟩⟩
theorem Aqv:FnI Tryz.prog 201:=⟨⟨_,Tryz.func201,by kernel_rfl,by kernel_rfl⟩⟩
theorem Avg:FnI Tryz.prog 202:=⟨⟨_,Tryz.func202,by kernel_rfl,by kernel_rfl⟩⟩
theorem Auh:ZI Tryz.prog 320 ([Nfu,Nfu]):=Rw (by kernel_rfl)
theorem Aww:PI Tryz.prog 320 [(0,1),(1,1)]:=Sk Tryz.underlying320 (by kernel_rfl) (by kernel_rfl)
theorem Awp:(Tryz.prog.info? 320).map (·.size)=some 2:=by kernel_rfl
theorem Avl:TI Tryz.prog 320 true 2:=⟨⟨_,Tryz.underlying320,rfl⟩,by kernel_rfl⟩
theorem Aua:FnI Tryz.prog 203:=⟨⟨_,Tryz.func203,by kernel_rfl,by kernel_rfl⟩⟩
theorem Arl:FI Tryz.prog 320 0 0:=⟨⟨_,_,1,Tryz.underlying320,rfl,rfl,by kernel_rfl,by decide⟩⟩
theorem Asu:TI Tryz.prog 318 false 1:=⟨⟨_,Tryz.underlying318,rfl⟩,by kernel_rfl⟩
theorem Ake:FI Tryz.prog 139 5 5:=⟨⟨_,_,1,Tryz.underlying139,rfl,rfl,by kernel_rfl,by decide⟩⟩
theorem Awm:FnI Tryz.prog 252:=⟨⟨_,Tryz.func252,by kernel_rfl,by kernel_rfl⟩⟩
theorem Arm:FI Tryz.prog 320 1 1:=⟨⟨_,_,1,Tryz.underlying320,rfl,rfl,by kernel_rfl,by decide⟩⟩
theorem Ak1:FI Tryz.prog 139 4 4:=⟨⟨_,_,1,Tryz.underlying139,rfl,rfl,by kernel_rfl,by decide⟩⟩
theorem Awk:FnI Tryz.prog 253:=⟨⟨_,Tryz.func253,by kernel_rfl,by kernel_rfl⟩⟩
theorem Auc:FnI Tryz.prog 204:=⟨⟨_,Tryz.func204,by kernel_rfl,by kernel_rfl⟩⟩
theorem Ap5:FnI Tryz.prog 205:=⟨⟨_,Tryz.func205,by kernel_rfl,by kernel_rfl⟩⟩
theorem Awj:FnI Tryz.prog 136:=⟨⟨_,Tryz.func136,by kernel_rfl,by kernel_rfl⟩⟩
theorem Axw:FnI Tryz.prog 64:=⟨⟨_,Tryz.func64,by kernel_rfl,by kernel_rfl⟩⟩
theorem As5:FnI Tryz.prog 148:=⟨⟨_,Tryz.func148,by kernel_rfl,by kernel_rfl⟩⟩
theorem At0:FnI Tryz.prog 147:=⟨⟨_,Tryz.func147,by kernel_rfl,by kernel_rfl⟩⟩
theorem Ava:FnI Tryz.prog 69:=⟨⟨_,Tryz.func69,by kernel_rfl,by kernel_rfl⟩⟩
theorem Atx:FnI Tryz.prog 218:=⟨⟨_,Tryz.func218,by kernel_rfl,by kernel_rfl⟩⟩
theorem Aum:PI Tryz.prog 136 [(0,1),(1,1),(2,1)]:=Sk Tryz.underlying136 (by kernel_rfl) (by kernel_rfl)
theorem Avv:FnI Tryz.prog 149:=⟨⟨_,Tryz.func149,by kernel_rfl,by kernel_rfl⟩⟩
theorem Axv:FnI Tryz.prog 70:=⟨⟨_,Tryz.func70,by kernel_rfl,by kernel_rfl⟩⟩
theorem Ayp:FnI Tryz.prog 28:=⟨⟨_,Tryz.func28,by kernel_rfl,by kernel_rfl⟩⟩
theorem Aw6:FnI Tryz.prog 24:=⟨⟨_,Tryz.func24,by kernel_rfl,by kernel_rfl⟩⟩
theorem Aqf:ZI Tryz.prog 86 ([Znl]):=Rw (by kernel_rfl)
theorem Atw:PI Tryz.prog 86 [(0,1)]:=Sk Tryz.underlying86 (by kernel_rfl) (by kernel_rfl)
theorem Avi:EI Tryz.prog 99 3 56 [Znl,Znl,.b false]:=Ub (by kernel_rfl) (by decide)
theorem Ayw:NI Tryz.prog 84:=⟨.inl ⟨_,Tryz.underlying84⟩⟩
theorem Awy:FnI Tryz.prog 126:=⟨⟨_,Tryz.func126,by kernel_rfl,by kernel_rfl⟩⟩
theorem Aw7:FnI Tryz.prog 127:=⟨⟨_,Tryz.func127,by kernel_rfl,by kernel_rfl⟩⟩
theorem Ays:FnI Tryz.prog 53:=⟨⟨_,Tryz.func53,by kernel_rfl,by kernel_rfl⟩⟩
theorem Av2:FnI Tryz.prog 138:=⟨⟨_,Tryz.func138,by kernel_rfl,by kernel_rfl⟩⟩
theorem Ay0:FnI Tryz.prog 66:=⟨⟨_,Tryz.func66,by kernel_rfl,by kernel_rfl⟩⟩
theorem Awz:FnI Tryz.prog 139:=⟨⟨_,Tryz.func139,by kernel_rfl,by kernel_rfl⟩⟩
theorem Ay7:FnI Tryz.prog 67:=⟨⟨_,Tryz.func67,by kernel_rfl,by kernel_rfl⟩⟩
theorem Avm:FnI Tryz.prog 25:=⟨⟨_,Tryz.func25,by kernel_rfl,by kernel_rfl⟩⟩
theorem Aw0:FnI Tryz.prog 141:=⟨⟨_,Tryz.func141,by kernel_rfl,by kernel_rfl⟩⟩
theorem Axb:FnI Tryz.prog 209:=⟨⟨_,Tryz.func209,by kernel_rfl,by kernel_rfl⟩⟩
theorem Aw2:FnI Tryz.prog 210:=⟨⟨_,Tryz.func210,by kernel_rfl,by kernel_rfl⟩⟩
theorem Av3:FnI Tryz.prog 269:=⟨⟨_,Tryz.func269,by kernel_rfl,by kernel_rfl⟩⟩
theorem Av4:FnI Tryz.prog 270:=⟨⟨_,Tryz.func270,by kernel_rfl,by kernel_rfl⟩⟩
theorem Av6:FnI Tryz.prog 254:=⟨⟨_,Tryz.func254,by kernel_rfl,by kernel_rfl⟩⟩
theorem Avj:FnI Tryz.prog 212:=⟨⟨_,Tryz.func212,by kernel_rfl,by kernel_rfl⟩⟩
theorem Aw4:FnI Tryz.prog 211:=⟨⟨_,Tryz.func211,by kernel_rfl,by kernel_rfl⟩⟩
theorem Avh:(Tryz.prog.info? 25).map (·.size)=some 1:=by kernel_rfl
theorem Axd:FnI Tryz.prog 140:=⟨⟨_,Tryz.func140,by kernel_rfl,by kernel_rfl⟩⟩
theorem Av5:FnI Tryz.prog 142:=⟨⟨_,Tryz.func142,by kernel_rfl,by kernel_rfl⟩⟩
theorem Aeb:ZI Tryz.prog 28 ([Znl,Znl,Ii6 0]):=Rw (by kernel_rfl)
theorem Ao9:PI Tryz.prog 28 [(0,1),(1,1),(2,1)]:=Sk Tryz.underlying28 (by kernel_rfl) (by kernel_rfl)
theorem Aez:(Tryz.prog.info? 28).map (·.size)=some 3:=by kernel_rfl
theorem Av1:FnI Tryz.prog 213:=⟨⟨_,Tryz.func213,by kernel_rfl,by kernel_rfl⟩⟩
theorem Auo:FnI Tryz.prog 214:=⟨⟨_,Tryz.func214,by kernel_rfl,by kernel_rfl⟩⟩
theorem Alm:EI Tryz.prog 134 1 24 [Znl]:=Ub (by kernel_rfl) (by decide)
theorem Axt:NI Tryz.prog 26:=⟨.inl ⟨_,Tryz.underlying26⟩⟩
theorem Auz:FnI Tryz.prog 215:=⟨⟨_,Tryz.func215,by kernel_rfl,by kernel_rfl⟩⟩
theorem Aw9:FnI Tryz.prog 255:=⟨⟨_,Tryz.func255,by kernel_rfl,by kernel_rfl⟩⟩
theorem Aiu:PI Tryz.prog 134 [(0,1)]:=Sk Tryz.underlying134 (by kernel_rfl) (by kernel_rfl)
theorem Avr:FnI Tryz.prog 256:=⟨⟨_,Tryz.func256,by kernel_rfl,by kernel_rfl⟩⟩
theorem Ax5:(Tryz.prog.info? 26).map (·.size)=some 1:=by kernel_rfl
theorem Al2:EI Tryz.prog 136 3 40 [Ii6 0,Znl,.b false]:=Ub (by kernel_rfl) (by decide)
theorem Awb:EI Tryz.prog 132 1 24 [Znl]:=Ub (by kernel_rfl) (by decide)
theorem Am5:SI Tryz.prog 408 132 1:=⟨Tryz.underlying408,by kernel_rfl,by decide⟩
theorem Axc:FnI Tryz.prog 281:=⟨⟨_,Tryz.func281,by kernel_rfl,by kernel_rfl⟩⟩
theorem Ath:NI Tryz.prog 132:=⟨.inl ⟨_,Tryz.underlying132⟩⟩
theorem Avz:FnI Tryz.prog 275:=⟨⟨_,Tryz.func275,by kernel_rfl,by kernel_rfl⟩⟩
theorem Axa:FnI Tryz.prog 257:=⟨⟨_,Tryz.func257,by kernel_rfl,by kernel_rfl⟩⟩
theorem Axk:FnI Tryz.prog 216:=⟨⟨_,Tryz.func216,by kernel_rfl,by kernel_rfl⟩⟩
theorem Avp:FnI Tryz.prog 143:=⟨⟨_,Tryz.func143,by kernel_rfl,by kernel_rfl⟩⟩
theorem Asz:FnI Tryz.prog 146:=⟨⟨_,Tryz.func146,by kernel_rfl,by kernel_rfl⟩⟩
theorem Axn:FnI Tryz.prog 144:=⟨⟨_,Tryz.func144,by kernel_rfl,by kernel_rfl⟩⟩
theorem Av0:FnI Tryz.prog 258:=⟨⟨_,Tryz.func258,by kernel_rfl,by kernel_rfl⟩⟩
theorem Aw8:FnI Tryz.prog 217:=⟨⟨_,Tryz.func217,by kernel_rfl,by kernel_rfl⟩⟩
theorem Axq:FnI Tryz.prog 145:=⟨⟨_,Tryz.func145,by kernel_rfl,by kernel_rfl⟩⟩
theorem Ayx:FnI Tryz.prog 68:=⟨⟨_,Tryz.func68,by kernel_rfl,by kernel_rfl⟩⟩
theorem Av8:FnI Tryz.prog 27:=⟨⟨_,Tryz.func27,by kernel_rfl,by kernel_rfl⟩⟩
theorem fn9:FnI Tryz.prog 9:=⟨⟨_,Tryz.func9,by kernel_rfl,by kernel_rfl⟩⟩
theorem Afa:SI Tryz.prog 22 60 11:=⟨Tryz.underlying22,by kernel_rfl,by decide⟩
theorem Apf:FI Tryz.prog 60 8 8:=⟨⟨_,_,3,Tryz.underlying60,rfl,rfl,by kernel_rfl,by decide⟩⟩
theorem Ayf:FnI Tryz.prog 29:=⟨⟨_,Tryz.func29,by kernel_rfl,by kernel_rfl⟩⟩
theorem Alr:FI Tryz.prog 60 6 6:=⟨⟨_,_,1,Tryz.underlying60,rfl,rfl,by kernel_rfl,by decide⟩⟩
theorem Api:FI Tryz.prog 60 7 7:=⟨⟨_,_,1,Tryz.underlying60,rfl,rfl,by kernel_rfl,by decide⟩⟩
theorem Ayj:FnI Tryz.prog 10:=⟨⟨_,Tryz.func10,by kernel_rfl,by kernel_rfl⟩⟩
theorem Sd:FI Tryz.prog 60 0 0:=⟨⟨_,_,1,Tryz.underlying60,rfl,rfl,by kernel_rfl,by decide⟩⟩
theorem Asx:FI Tryz.prog 60 1 1:=⟨⟨_,_,1,Tryz.underlying60,rfl,rfl,by kernel_rfl,by decide⟩⟩
theorem Ayc:FnI Tryz.prog 22:=⟨⟨_,Tryz.func22,by kernel_rfl,by kernel_rfl⟩⟩
theorem Ayi:TI Tryz.prog 60 true 11:=⟨⟨_,Tryz.underlying60,rfl⟩,by kernel_rfl⟩
theorem Ajw:ZI Tryz.prog 64 ([Ii6 0,.b false,Znl,Znl,Ii6 0]):=Rw (by kernel_rfl)
theorem Ahb:FI Tryz.prog 60 2 2:=⟨⟨_,_,1,Tryz.underlying60,rfl,rfl,by kernel_rfl,by decide⟩⟩
theorem Akd:FI Tryz.prog 60 3 3:=⟨⟨_,_,1,Tryz.underlying60,rfl,rfl,by kernel_rfl,by decide⟩⟩
theorem Aty:FI Tryz.prog 60 4 4:=⟨⟨_,_,1,Tryz.underlying60,rfl,rfl,by kernel_rfl,by decide⟩⟩
theorem Apr:PI Tryz.prog 64 [(0,1),(1,1),(2,1),(3,1),(4,1)]:=Sk Tryz.underlying64 (by kernel_rfl) (by kernel_rfl)
theorem Aof:(Tryz.prog.info? 64).map (·.size)=some 5:=by kernel_rfl
theorem Apc:TI Tryz.prog 64 true 5:=⟨⟨_,Tryz.underlying64,rfl⟩,by kernel_rfl⟩
theorem Aya:FnI Tryz.prog 54:=⟨⟨_,Tryz.func54,by kernel_rfl,by kernel_rfl⟩⟩
theorem Ay1:FnI Tryz.prog 52:=⟨⟨_,Tryz.func52,by kernel_rfl,by kernel_rfl⟩⟩
theorem Ay5:FnI Tryz.prog 30:=⟨⟨_,Tryz.func30,by kernel_rfl,by kernel_rfl⟩⟩
theorem Att:FI Tryz.prog 60 5 5:=⟨⟨_,_,1,Tryz.underlying60,rfl,rfl,by kernel_rfl,by decide⟩⟩
theorem Ayz:FnI Tryz.prog 26:=⟨⟨_,Tryz.func26,by kernel_rfl,by kernel_rfl⟩⟩
theorem Ayl:FnI Tryz.prog 31:=⟨⟨_,Tryz.func31,by kernel_rfl,by kernel_rfl⟩⟩
theorem Ayo:EI Tryz.prog 35 1 24 [Znl]:=Ub (by kernel_rfl) (by decide)
theorem Ao0:SI Tryz.prog 337 35 1:=⟨Tryz.underlying337,by kernel_rfl,by decide⟩
theorem Awc:FnI Tryz.prog 220:=⟨⟨_,Tryz.func220,by kernel_rfl,by kernel_rfl⟩⟩
theorem Awg:FnI Tryz.prog 151:=⟨⟨_,Tryz.func151,by kernel_rfl,by kernel_rfl⟩⟩
theorem Ay9:FnI Tryz.prog 75:=⟨⟨_,Tryz.func75,by kernel_rfl,by kernel_rfl⟩⟩
theorem Aye:FnI Tryz.prog 32:=⟨⟨_,Tryz.func32,by kernel_rfl,by kernel_rfl⟩⟩
theorem Ayq:FnI Tryz.prog 11:=⟨⟨_,Tryz.func11,by kernel_rfl,by kernel_rfl⟩⟩
theorem Alz:FI Tryz.prog 64 4 4:=⟨⟨_,_,1,Tryz.underlying64,rfl,rfl,by kernel_rfl,by decide⟩⟩
theorem Avq:TI Tryz.prog 62 false 1:=⟨⟨_,Tryz.underlying62,rfl⟩,by kernel_rfl⟩
theorem Ao8:FI Tryz.prog 64 0 0:=⟨⟨_,_,1,Tryz.underlying64,rfl,rfl,by kernel_rfl,by decide⟩⟩
def Dp (a0:List UInt8):Option Bool :=
 if (decide (1≤(a0.length:Int))) then (some (decide ((a0.length:Int)≤16))) else (some false)
theorem Nv {a0:List UInt8} {r:Bool} (h:Dp a0=some r):Bt Tryz.prog 62 [.one (.sl a0.length (a0.flatMap eU8))] (·=.s (.one (.b r))):=by
 unfold Dp at h
 refine A4 Tryz.func62 R (nt:=11) R (Nbl R) ?_
 intro w0 S0
 refine csr (rm 1 R (Ai (csr (rm 1 R (sv R (Ax X9 R) (sv R (He R R) (rm 1 R (ssI 6 h R (fun h=>?_) (fun h=>?_)))))))))
 ·refine rm 1 R (son R R R (sv R (Ax X9 R) (son R R R (sv R (Dj R R) (rm 2 R (Ai (Bv ?_)))))))
  obtain rfl:=SJ h
  exact dnT R R R R
 ·refine rm 5 R (Ai (Bv ?_))
  obtain rfl:=SJ h
  exact dnT R R R R
def Cv (a0:A8):Option Bool :=
 (Dp a0.Key).bind fun v1=>if v1 then (if (decide ((a0.Val.length:Int)≤32)) then (if a0.Del then (some (!(decide (0<(a0.Val.length:Int))))) else (some true)) else (some false)) else (some false)
theorem N6 {a0:A8} {r:Bool} (h:Cv a0=some r):Bt Tryz.prog 124 [.agg (EL.el a0)] (·=.s (.one (.b r))):=by
 unfold Cv at h
 refine A4 Tryz.func124 R (nt:=23) R (Nbl R) ?_
 intro w0 S0
 refine csr (F0 R R (rm 1 R (Ai (csr (sv R (Ac Sa R) (sv R (Ak Nr R (.lp _ _ _ R) R) ?_))))))
 obtain ⟨v1,hv1,h⟩:=Ae h
 refine Bb R Au4 (Aa R Af) (Ao R) (Nv hv1) (rm 1 R (ssI 6 h R (fun h=>?_) (fun h=>?_)))
 ·refine son R R R (sv R (Ac Za R) (son R R R (sv R (Ak Nr R (.lp _ _ _ R) R) (son R R R (sv R (Ax X9 R) (son R R R (sv R (Dj R R) (rm 2 R (ssI 12 h R (fun h=>?_) (fun h=>?_))))))))))
  ·refine son R R R (sv R (Ac Adq R) (son R R R (sv R (Ak ti4 R (.lp _ _ _ R) R) (rm 1 R (ssI 15 h R (fun h=>?_) (fun h=>?_))))))
   ·refine son R R R (sv R (Ac Za R) (son R R R (sv R (Ak Nr R (.lp _ _ _ R) R) (son R R R (sv R (Ax X9 R) (son R R R (sv R (C7 R R) (rm 1 R (son R R R (sv R (B2 R) (rm 2 R (Ai (Bv ?_)))))))))))))
    obtain rfl:=SJ h
    exact dnT R R R R
   ·refine rm 5 R (son R R R (sv R (B2 R) (rm 2 R (Ai (Bv ?_)))))
    obtain rfl:=SJ h
    exact dnT R R R R
  ·refine rm 3 R (Cl R R R (Cl R R R (Cl R R R (Cl R R R (rm 4 R (Ai (Bv ?_)))))))
   obtain rfl:=SJ h
   exact dnT R R R R
 ·refine rm 9 R (Cl R R R (Cl R R R (Cl R R R (Cl R R R (rm 4 R (Ai (Bv ?_)))))))
  obtain rfl:=SJ h
  exact dnT R R R R
def Lu (b1:(List (List UInt8))):Option (List (List UInt8)) :=
 some b1
def F6 (a0:B4) (s2:Int × (List (List UInt8))):Option (LB (Int × (List (List UInt8))) ((List (List UInt8)))) :=
 if (decide (s2.1<(a0.L.length:Int))) then ((idx a0.L s2.1).bind fun u3=>if (s2.2.length+[u3.Key].length)*24≤140737488355328 then (some (.cont ((wI (s2.1+1)),(s2.2++[u3.Key])))) else none) else (some (.brk s2.2))
def E1 (a0:B4):Option (List (List UInt8)) :=
 (C5 (F6 a0) fuel (0,([]:List (List UInt8)))).bind fun e5=>Lu e5
theorem Pt {a0:B4} {r:(List (List UInt8))} (h:E1 a0=some r):Bt Tryz.prog 125 [.agg [.sl a0.L.length (a0.L.flatMap Ba)]] (·=.s (.one (.sl r.length (r.flatMap (eL eU8))))):=by
 unfold E1 at h
 refine A4 Tryz.func125 R (nt:=20) R (Nbl R) ?_
 intro w0 S0
 refine csr (F0 R R (rm 1 R (Ai (csr (rm 1 R (Ai (Br (csr (fl V2 Ani R R R R R R (sv R (Ax Ab9 R) (rm 1 R (Ai ?_))))))))))))
 refine D1 56 1 3 (by decide) R ?_
 refine Dt ((List (List UInt8))) (fun b1=>[(3,.s (.one (.ls 1 b1.length)))]) (fun b1=>[.box [.sl a0.L.length (a0.L.flatMap Ba)],.arr 56 1 0 (b1.flatMap (eL eU8))]) (fun b1=>Lu b1=some r) (fun _ _=>A5 R) (fun _ _=>Ap R) (fun _ _=>Nbl R) (fun b1 h=>?_) ?_
 ·unfold Lu at h
  refine csr (rm 2 R (Ai (Bv ?_)))
  obtain rfl:=SJ h
  refine ⟨Or.inr R,_,_,_,(Ad (rt R) Ah),(by (repeat' first | exact J7.nil _ | apply J7.cons | apply Jm.one | apply Jm.agg | exact Dm.nil | exact Dm.ls _ _ _ _ _ _ R (A1 (f:=(eL eU8)) (fun _=>R) _).symm | exact Dm.id _ R | exact Cw.nil _ | apply Cw.cons)),?_⟩
  rfl
 ·skip
  refine Bu ?_
  obtain ⟨x2,hx2,ho2⟩:=Ae h
  refine B6 (G:=Nat × (Int × (List (List UInt8)))) (fun g=>[(3,.s (.one (.ls 1 g.2.2.length))),(7,.s (.one (.sl a0.L.length (a0.L.flatMap Ba)))),(8,.s (.one (Ii6 (a0.L.length:Int)))),(9,.s (.one (Ii6 g.2.1)))]) (fun g=>[.box [.sl a0.L.length (a0.L.flatMap Ba)],.arr 56 1 0 (g.2.2.flatMap (eL eU8))]) (fun g=>C5 (F6 a0) g.1 g.2=some x2) (fun g=>g.1) (fuel,(0,([]:List (List UInt8)))) hx2 ⟨R,R,R,R,trivial⟩ [] R (fun _ _=>A5 R) (fun _ _=>Ap R) (fun _ _=>Nbl R) ?_
  clear hx2 h
  rintro ⟨n2,s2⟩ h
  obtain ⟨n2,y2,rfl,h,hk2⟩:=C8 h
  unfold F6 at h
  refine csr (sv R (Bw R R) (Ai (Br (ccI h R (fun h=>?_) (fun h=>?_)))))
  ·refine Bj (Ab (Br (Bu (Br (As ?_)))))
   obtain ⟨u3,hu3,h⟩:=Ae h
   refine sv R (Cb (f:=Ba) Ab9 (fun _=>R) R R R R hu3) ?_
   refine sv R (B3 (ys:=[.sl u3.Key.length (u3.Key.flatMap eU8),.sl u3.Val.length (u3.Val.flatMap eU8),.b u3.Del]) Aea R (.cp _) R R) (Bq R Ai2 (sst Ajm R R R R R (Ai (As (rm 1 R (sv R (Ac Sa R) (sv R (Ak Nr R (.lp _ _ _ R) R) ?_)))))))
   refine Gk R Tryz.underlying25 Ahl R R (List.all_eq_true.1 R) (by decide) ?_
   refine P4 [.box [.sl a0.L.length (a0.L.flatMap Ba)],.arr 56 1 0 (s2.2.flatMap (eL eU8)),.box (EL.el u3),.arr 56 1 0 ([u3.Key].flatMap (eL eU8))] R ?_
   obtain ⟨hb4,h⟩:=Cy h
   refine Wb (f:=(eL eU8)) (xs:=s2.2) (us:=[u3.Key]) R Tryz.underlying25 Ahl Asa (fun _=>R) R R (.one _ _ _ _ (.ls _ _ _ _ _ _ R (A1 (f:=(eL eU8)) (fun _=>R) [u3.Key]).symm)) R R R (.sl _ _ _ (A1 (f:=(eL eU8)) (fun _=>R) _)) R R hb4 (by decide) ?_
   refine rm 1 R (Ks (Ar (Ab (As (sv R (Bs R R) (rm 1 R (Ai ?_)))))))
   obtain rfl:=SJ h
   exact ⟨(n2,((wI (s2.1+1)),(s2.2++[u3.Key]))),_,hk2,⟨R,R,R,R,trivial⟩,R,Nat.lt_succ_self _⟩
  ·refine Di (Au (Au (Bn (Ab ?_))))
   obtain rfl:=SJ h
   obtain rfl:_=x2:=hk2
   exact ⟨s2.2,_,ho2,⟨R,trivial⟩,R⟩
def Ob (a0:List UInt8) (a1:List UInt8):Option Int :=
 some (Dc a0 a1)
theorem T1 {a0:List UInt8} {a1:List UInt8} {r:Int} (h:Ob a0 a1=some r):Bt Tryz.prog 219 [.one (.sl a0.length (a0.flatMap eU8)),.one (.sl a1.length (a1.flatMap eU8))] (·=.s (.one (Ii6 r))):=by
 unfold Ob at h
 refine A4 Tryz.func219 R (nt:=8) R (Nbl R) ?_
 intro w0 S0
 refine csr (rm 1 R (Ai (csr (rm 2 R (sv R (Amu (a:=a0) (b:=a1) Auv R R R R R R) (rm 1 R (Ai (Bv ?_))))))))
 obtain rfl:=SJ h
 exact dnT R R R R
def Fw (a0:List UInt8) (a1:List UInt8):Option Int :=
 (Ob a0 a1).bind fun v1=>some v1
theorem Md {a0:List UInt8} {a1:List UInt8} {r:Int} (h:Fw a0 a1=some r):Bt Tryz.prog 150 [.one (.sl a0.length (a0.flatMap eU8)),.one (.sl a1.length (a1.flatMap eU8))] (·=.s (.one (Ii6 r))):=by
 unfold Fw at h
 refine A4 Tryz.func150 R (nt:=8) R (Nbl R) ?_
 intro w0 S0
 refine csr (rm 1 R (Ai (csr (rm 1 R (sv R (Bc R) ?_)))))
 obtain ⟨v1,hv1,h⟩:=Ae h
 refine Bb R Axj (Aa R (Aa R Af)) (Ao R) (T1 hv1) (rm 1 R (Ai (Bv ?_)))
 obtain rfl:=SJ h
 exact dnT R R R R
def Ni (b1:Unit):Option Bool :=
 some true
def B7 (a0:List (List UInt8)) (s2:Int):Option (LR (Int) (Unit) (Bool)) :=
 if (decide (s2<(a0.length:Int))) then ((idx a0 (wI (s2-1))).bind fun u3=>(idx a0 s2).bind fun u4=>(Fw u3 u4).bind fun v5=>if (decide (0≤v5)) then (some (.ret false)) else (some (.cont (wI (s2+1))))) else (some (.brk ()))
def B9 (a0:List (List UInt8)):Option Bool :=
 (Lj (B7 a0) fuel 1).bind fun x=>match x with | .inl r=>some r | .inr e6=>Ni e6
theorem Lc {a0:List (List UInt8)} {r:Bool} (h:B9 a0=some r):Bt Tryz.prog 181 [.one (.sl a0.length (a0.flatMap (eL eU8)))] (·=.s (.one (.b r))):=by
 unfold B9 at h
 refine A4 Tryz.func181 R (nt:=21) R (Nbl R) ?_
 intro w0 S0
 refine csr (rm 1 R (Ai (Br (csr (rm 1 R (Ai (Dt (Unit) (fun b1=>[]) (fun b1=>[]) (fun b1=>Ni b1=some r) (fun _ _=>A5 R) (fun _ _=>Ap R) (fun _ _=>Nbl R) (fun b1 h=>?_) ?_)))))))
 ·unfold Ni at h
  refine csr (rm 1 R (Ai (Bv ?_)))
  obtain rfl:=SJ h
  exact dnT R R R R
 ·skip
  refine Bu ?_
  obtain ⟨x2,hx2,ho2⟩:=Ae h
  refine B6 (G:=Nat × (Int)) (fun g=>[(0,.s (.one (.sl a0.length (a0.flatMap (eL eU8))))),(3,.s (.one (Ii6 g.2)))]) (fun g=>[]) (fun g=>Lj (B7 a0) g.1 g.2=some x2) (fun g=>g.1) (fuel,1) hx2 ⟨R,R,trivial⟩ [] R (fun _ _=>A5 R) (fun _ _=>Ap R) (fun _ _=>Nbl R) ?_
  clear hx2 h
  rintro ⟨n2,s2⟩ h
  obtain ⟨n2,y2,rfl,h,hk2⟩:=Ff h
  unfold B7 at h
  refine Br (csr (rm 2 R (sv R (Ax Sn R) (sv R (Bw R R) (Ai (ccI h R (fun h=>?_) (fun h=>?_)))))))
  ·refine Bj (Ab (Br (Bu (Br ?_))))
   refine Z9 mixed (by kernel_rfl) ?_
   refine dv R (Bc R) (dv R (Bc R) (dv R (Nh R R) ?_))
   obtain ⟨u3,hu3,h⟩:=Ae h
   refine dv R (Cb (f:=(eL eU8)) Sn (fun _=>R) R R R R hu3) ?_
   refine dv R (Ak Nr R (.cp _) R) (dv R (Bc R) (dv R (Bc R) ?_))
   obtain ⟨u4,hu4,h⟩:=Ae h
   refine dv R (Cb (f:=(eL eU8)) Sn (fun _=>R) R R R R hu4) ?_
   refine dv R (Ak Nr R (.cp _) R) ?_
   obtain ⟨v5,hv5,h⟩:=Ae h
   refine dd R (C9 Amg (Aa R (Aa R Af)) R (Md hv5)) (dv R (He R R) (Adw (Ab (ccI h R (fun h=>?_) (fun h=>?_)))))
   ·refine csr (rm 1 R (Ai (Bv (Ay (Ag (Ag (Ay (Ag ?_))))))))
    obtain rfl:=SJ h
    obtain rfl:Sum.inl _=x2:=hk2
    replace ho2:some _=some _:=ho2
    obtain rfl:=Option.some.inj ho2
    exact dnT R R R R
   ·refine Bj (Ar (Ab (As (rm 1 R (sv R (Bs R R) (rm 1 R (Ai ?_)))))))
    obtain rfl:=SJ h
    exact ⟨(n2,(wI (s2+1))),_,hk2,⟨R,R,trivial⟩,R,Nat.lt_succ_self _⟩
  ·refine Di (Au (Au (Bn (Ab ?_))))
   obtain rfl:=SJ h
   obtain rfl:_=x2:=hk2
   exact ⟨(),_,ho2,trivial,R⟩
def Hd (a0:B4) (b1:Unit):Option Bool :=
 if (decide ((a0.L.length:Int)≤16)) then ((E1 a0).bind fun v2=>(B9 v2).bind fun v3=>some v3) else (some false)
def Fl (a0:B4) (s4:Int):Option (LR (Int) (Unit) (Bool)) :=
 if (decide (s4<(a0.L.length:Int))) then ((idx a0.L s4).bind fun u5=>(Cv u5).bind fun v6=>if (!v6) then (some (.ret false)) else (some (.cont (wI (s4+1))))) else (some (.brk ()))
def Fe (a0:B4):Option Bool :=
 (Lj (Fl a0) fuel 0).bind fun x=>match x with | .inl r=>some r | .inr e7=>Hd a0 e7
theorem Oe {a0:B4} {r:Bool} (h:Fe a0=some r):Bt Tryz.prog 119 [.agg [.sl a0.L.length (a0.L.flatMap Ba)]] (·=.s (.one (.b r))):=by
 unfold Fe at h
 refine A4 Tryz.func119 R (nt:=25) R (Nbl R) ?_
 intro w0 S0
 refine csr (F0 R R (rm 1 R (Ai (Br (csr (fl V2 Ani R R R R R R (sv R (Ax Ab9 R) (rm 1 R (Ai (Dt (Unit) (fun b1=>[(1,.s (.one (.lp 0 0)))]) (fun b1=>[.box [.sl a0.L.length (a0.L.flatMap Ba)]]) (fun b1=>Hd a0 b1=some r) (fun _ _=>A5 R) (fun _ _=>Ap R) (fun _ _=>Nbl R) (fun b1 h=>?_) ?_))))))))))
 ·unfold Hd at h
  refine csr (fl V2 Ani R R R R R R (sv R (Ax Ab9 R) (sv R (Dj R R) (rm 1 R (ssI 20 h R (fun h=>?_) (fun h=>?_))))))
  ·refine son R R R (ld Af3 R R R R (son R R R ?_))
   obtain ⟨v2,hv2,h⟩:=Ae h
   refine Bb R As7 (Aa R Af) (Ao R) (Pt hv2) (son R R R ?_)
   obtain ⟨v3,hv3,h⟩:=Ae h
   refine Bb R Aos (Aa R Af) (Ao R) (Lc hv3) (rm 2 R (Ai (Bv ?_)))
   obtain rfl:=SJ h
   exact dnT R R R R
  ·refine rm 5 R (Ai (Bv ?_))
   obtain rfl:=SJ h
   exact dnT R R R R
 ·skip
  refine Bu ?_
  obtain ⟨x4,hx4,ho4⟩:=Ae h
  refine B6 (G:=Nat × (Int)) (fun g=>[(1,.s (.one (.lp 0 0))),(6,.s (.one (.sl a0.L.length (a0.L.flatMap Ba)))),(7,.s (.one (Ii6 (a0.L.length:Int)))),(8,.s (.one (Ii6 g.2)))]) (fun g=>[.box [.sl a0.L.length (a0.L.flatMap Ba)]]) (fun g=>Lj (Fl a0) g.1 g.2=some x4) (fun g=>g.1) (fuel,0) hx4 ⟨R,R,R,R,trivial⟩ [] R (fun _ _=>A5 R) (fun _ _=>Ap R) (fun _ _=>Nbl R) ?_
  clear hx4 h
  rintro ⟨n4,s4⟩ h
  obtain ⟨n4,y4,rfl,h,hk4⟩:=Ff h
  unfold Fl at h
  refine csr (sv R (Bw R R) (Ai (Br (ccI h R (fun h=>?_) (fun h=>?_)))))
  ·refine Bj (Ab (Br (Bu (Br (As ?_)))))
   obtain ⟨u5,hu5,h⟩:=Ae h
   refine sv R (Cb (f:=Ba) Ab9 (fun _=>R) R R R R hu5) ?_
   refine sv R (B3 (ys:=[.sl u5.Key.length (u5.Key.flatMap eU8),.sl u5.Val.length (u5.Val.flatMap eU8),.b u5.Del]) Aea R (.cp _) R R) (Bq R Ai2 (sst Ajm R R R R R (Ai (csr (sv R (Bf Aea R (.lp _ _ _ R) (Nbl R)) ?_)))))
   obtain ⟨v6,hv6,h⟩:=Ae h
   refine Bb R Aur (Aa R Af) (Ao R) (N6 hv6) (sv R (B2 R) (Ai (ccI h R (fun h=>?_) (fun h=>?_))))
   ·refine csr (rm 1 R (Ai (Bv (Ay (Ag (Ag (Ay (Ag ?_))))))))
    obtain rfl:=SJ h
    obtain rfl:Sum.inl _=x4:=hk4
    replace ho4:some _=some _:=ho4
    obtain rfl:=Option.some.inj ho4
    exact dnT R R R R
   ·refine Bj (Ar (Ab (As (sv R (Bs R R) (rm 1 R (Ai ?_))))))
    obtain rfl:=SJ h
    exact ⟨(n4,(wI (s4+1))),_,hk4,⟨R,R,R,R,trivial⟩,R,Nat.lt_succ_self _⟩
  ·refine Di (Au (Au (Bn (Ab ?_))))
   obtain rfl:=SJ h
   obtain rfl:_=x4:=hk4
   exact ⟨(),_,ho4,⟨R,trivial⟩,R⟩
def Dx (b1:(List (List UInt8))):Option Bool :=
 (B9 b1).bind fun v2=>some v2
def Dv (a0:List B8) (s3:Int × (List (List UInt8))):Option (LB (Int × (List (List UInt8))) ((List (List UInt8)))) :=
 if (decide (s3.1<(a0.length:Int))) then ((idx a0 s3.1).bind fun u4=>if (s3.2.length+[u4.Key].length)*24≤140737488355328 then (some (.cont ((wI (s3.1+1)),(s3.2++[u4.Key])))) else none) else (some (.brk s3.2))
def Fh (a0:List B8):Option Bool :=
 (C5 (Dv a0) fuel (0,([]:List (List UInt8)))).bind fun e6=>Dx e6
theorem U3 {a0:List B8} {r:Bool} (h:Fh a0=some r):Bt Tryz.prog 120 [.one (.sl a0.length (a0.flatMap Cg))] (·=.s (.one (.b r))):=by
 unfold Fh at h
 refine A4 Tryz.func120 R (nt:=20) R (Nbl R) ?_
 intro w0 S0
 refine csr (rm 1 R (Ai (csr (rm 1 R (Ai (Br (csr (rm 1 R (sv R (Ax Ar1 R) (rm 1 R (Ai ?_)))))))))))
 refine D1 56 1 3 (by decide) R ?_
 refine Dt ((List (List UInt8))) (fun b1=>[(3,.s (.one (.ls 0 b1.length)))]) (fun b1=>[.arr 56 1 0 (b1.flatMap (eL eU8))]) (fun b1=>Dx b1=some r) (fun _ _=>A5 R) (fun _ _=>Ap R) (fun _ _=>Nbl R) (fun b1 h=>?_) ?_
 ·unfold Dx at h
  refine csr (sv R (Bc R) ?_)
  refine Aii 18 R (by (repeat' first | exact J7.nil _ | apply J7.cons | apply Jm.one | apply Jm.agg | exact Dm.nil | exact Dm.ls _ _ _ _ _ _ R (A1 (f:=(eL eU8)) (fun _=>R) _).symm | exact Dm.id _ R | exact Cw.nil _ | apply Cw.cons)) ?_
  obtain ⟨v2,hv2,h⟩:=Ae h
  refine Bb R Aos (Aa R Af) (Ao R) (Lc hv2) (rm 1 R (Ai (Bv ?_)))
  obtain rfl:=SJ h
  exact dnT R R R R
 ·skip
  refine Bu ?_
  obtain ⟨x3,hx3,ho3⟩:=Ae h
  refine B6 (G:=Nat × (Int × (List (List UInt8)))) (fun g=>[(3,.s (.one (.ls 0 g.2.2.length))),(6,.s (.one (.sl a0.length (a0.flatMap Cg)))),(7,.s (.one (Ii6 (a0.length:Int)))),(8,.s (.one (Ii6 g.2.1)))]) (fun g=>[.arr 56 1 0 (g.2.2.flatMap (eL eU8))]) (fun g=>C5 (Dv a0) g.1 g.2=some x3) (fun g=>g.1) (fuel,(0,([]:List (List UInt8)))) hx3 ⟨R,R,R,R,trivial⟩ [] R (fun _ _=>A5 R) (fun _ _=>Ap R) (fun _ _=>Nbl R) ?_
  clear hx3 h
  rintro ⟨n3,s3⟩ h
  obtain ⟨n3,y3,rfl,h,hk3⟩:=C8 h
  unfold Dv at h
  refine csr (sv R (Bw R R) (Ai (Br (ccI h R (fun h=>?_) (fun h=>?_)))))
  ·refine Bj (Ab (Br (Bu (Br (As ?_)))))
   obtain ⟨u4,hu4,h⟩:=Ae h
   refine sv R (Cb (f:=Cg) Ar1 (fun _=>R) R R R R hu4) ?_
   refine sv R (B3 (ys:=[.sl u4.Key.length (u4.Key.flatMap eU8),.sl u4.Val.length (u4.Val.flatMap eU8)]) An8 R (.cp _) R R) (Bq R Ajx (sst Ari R R R R R (Ai (As (rm 1 R (sv R (Ac Aed R) (sv R (Ak Nr R (.lp _ _ _ R) R) ?_)))))))
   refine Gk R Tryz.underlying25 Ahl R R (List.all_eq_true.1 R) (by decide) ?_
   refine P4 [.arr 56 1 0 (s3.2.flatMap (eL eU8)),.box (EL.el u4),.arr 56 1 0 ([u4.Key].flatMap (eL eU8))] R ?_
   obtain ⟨hb5,h⟩:=Cy h
   refine Wb (f:=(eL eU8)) (xs:=s3.2) (us:=[u4.Key]) R Tryz.underlying25 Ahl Asa (fun _=>R) R R (.one _ _ _ _ (.ls _ _ _ _ _ _ R (A1 (f:=(eL eU8)) (fun _=>R) [u4.Key]).symm)) R R R (.sl _ _ _ (A1 (f:=(eL eU8)) (fun _=>R) _)) R R hb5 (by decide) ?_
   refine rm 1 R (Ks (Ar (Ab (As (sv R (Bs R R) (rm 1 R (Ai ?_)))))))
   obtain rfl:=SJ h
   exact ⟨(n3,((wI (s3.1+1)),(s3.2++[u4.Key]))),_,hk3,⟨R,R,R,R,trivial⟩,R,Nat.lt_succ_self _⟩
  ·refine Di (Au (Au (Bn (Ab ?_))))
   obtain rfl:=SJ h
   obtain rfl:_=x3:=hk3
   exact ⟨s3.2,_,ho3,⟨R,trivial⟩,R⟩
def Dq (a0:Bi) (a1:List UInt8):Option Bool :=
 (Fw a1 a0.Lo).bind fun v1=>if (decide (0≤v1)) then (if a0.Open then (some true) else ((Fw a1 a0.Hi).bind fun v2=>some (decide (v2<0)))) else (some false)
theorem L0 {a0:Bi} {a1:List UInt8} {r:Bool} (h:Dq a0 a1=some r):Bt Tryz.prog 121 [.agg (EL.el a0),.one (.sl a1.length (a1.flatMap eU8))] (·=.s (.one (.b r))):=by
 unfold Dq at h
 refine A4 Tryz.func121 R (nt:=21) R (Nbl R) ?_
 intro w0 S0
 refine csr (F0 R R (rm 1 R (Ai (csr (rm 1 R (sv R (Ac Aak R) (sv R (Ak Nr R (.lp _ _ _ R) R) ?_)))))))
 obtain ⟨v1,hv1,h⟩:=Ae h
 refine Bb R Amg (Aa R (Aa R Af)) (Ao R) (Md hv1) (sv R (He R R) (rm 1 R (ssI 10 h R (fun h=>?_) (fun h=>?_))))
 ·refine son R R R (sv R (Ac Agy R) (son R R R (sv R (Ak ti4 R (.lp _ _ _ R) R) (rm 1 R (ssI 13 h R (fun h=>?_) (fun h=>?_))))))
  ·refine rm 8 R (Ai (Bv ?_))
   obtain rfl:=SJ h
   exact dnT R R R R
  ·refine rm 1 R (son R R R (sv R (Ac Xl R) (son R R R (sv R (Ak Nr R (.lp _ _ _ R) R) (son R R R ?_)))))
   obtain ⟨v2,hv2,h⟩:=Ae h
   refine Bb R Amg (Aa R (Aa R Af)) (Ao R) (Md hv2) (son R R R (sv R (Bw R R) (rm 3 R (Ai (Bv ?_)))))
   obtain rfl:=SJ h
   exact dnT R R R R
 ·refine rm 3 R (Cl R R R (Cl R R R (Cl R R R (Cl R R R (Cl R R R (rm 3 R (Ai (Bv ?_))))))))
  obtain rfl:=SJ h
  exact dnT R R R R
def kvk (x:B8):List UInt8:=x.Key
def kB (x:B8):ByteArray:=⟨x.Key.toArray⟩
theorem Aco {t:List B8} {j:Nat} {k:List UInt8} (h:(t.map kB)[j]? = some ⟨k.toArray⟩):(t.map kvk)[j]? = some k:=by
 rw [List.getElem?_map] at h ⊢
 cases ht:t[j]? with
 | none=>rw [ht] at h;cases h
 | some x =>
  rw [ht] at h
  have h1:(⟨x.Key.toArray⟩:ByteArray)=⟨k.toArray⟩:=Option.some.inj h
  have h2:x.Key.toArray=k.toArray:=congrArg ByteArray.data h1
  have h3:x.Key=k:=by have:=congrArg Array.toList h2;simpa using this
  rw [Option.map_some];exact congrArg some h3
theorem Amm {t:List B8} {k:List UInt8} (h:(⟨k.toArray⟩:ByteArray) ∉ t.map kB):k ∉ t.map kvk:=fun hk=>by
 obtain ⟨x,hx,rfl⟩:=List.mem_map.1 hk
 exact h (List.mem_map.2 ⟨x,hx,R⟩)
theorem Apd {t:List B8} {j:Nat} {x:B8} (h:(t.map kvk)[j]? = some (kvk x)):(t.set j x).map kB=t.map kB:=by
 rw [List.map_set]
 apply List.ext_getElem?
 intro i
 rw [List.getElem?_set]
 by_cases hij:j=i
 ·subst hij
  rw [List.getElem?_map] at h ⊢
  cases ht:t[j]? with
  | none=>rw [ht] at h;cases h
  | some y =>
   rw [ht] at h
   have h2:y.Key=x.Key:=Option.some.inj h
   have hlt:j<t.length:=(List.getElem?_eq_some_iff.1 ht).1
   rw [if_pos rfl,if_pos (by simpa using hlt),Option.map_some]
   show some (ByteArray.mk x.Key.toArray)=some (ByteArray.mk y.Key.toArray)
   rw [h2]
 ·rw [if_neg hij]
theorem Ati {W:World} {S:Cq} {a b:List UInt8} {va vb:Value} (h1:Rep W S (.sl a.length (a.flatMap eU8)) va) (h2:Rep W S (.sl b.length (b.flatMap eU8)) vb):(callFunc 259 #[va,vb]).run Tryz.prog W=.ok (.value (.int .i64 (Dc a b))) W:=by
 rw [← Ala] at h1 h2
 obtain ⟨fn,q1,q2,q3,q4,q5⟩:=Auv.h
 have hrun:(Extern.BytealgCompare.compare #[va,vb]).run Tryz.prog W=.ok (.int .i64 (Dc a b)) W:=by
  change Sem.run Tryz.prog (do
   let p ← Extern.Bytes.bytesOf va
   let q ← Extern.Bytes.bytesOf vb
   pure (goInt (Extern.BytealgCompare.cmp p q))) W=_
  simp only [Sem.run_bind,R0 h1,R0 h2,Result.andThen_ok,Apu,Sem.run_pure]
  rfl
 have hcall:=run_callFunc_extern (P:=Tryz.prog) q1 q2 q3 q4 q5 #[va,vb] W
 rw [hrun] at hcall
 simpa using hcall
theorem Aru {W:World} {S:Cq} {a b:List UInt8} {va vb:Value} (h1:Rep W S (.sl a.length (a.flatMap eU8)) va) (h2:Rep W S (.sl b.length (b.flatMap eU8)) vb):Calls Tryz.prog 219 #[va,vb] W fun e w'=>e=.returned (.int .i64 (Dc a b))∧w'=W:=by
 have hx:=Ati h1 h2
 generalize Dc a b=r at hx ⊢
 clear h1 h2
 go_enter Tryz.func219,Tryz.ntmps219
 go_wp2
 go_ret
 exact ⟨R,R⟩
theorem Arn {W:World} {S:Cq} {a b:List UInt8} {va vb:Value} (h1:Rep W S (.sl a.length (a.flatMap eU8)) va) (h2:Rep W S (.sl b.length (b.flatMap eU8)) vb):Calls Tryz.prog 150 #[va,vb] W fun e w'=>e=.returned (.int .i64 (Dc a b))∧w'=W:=by
 have hcon:=Aru h1 h2
 generalize Dc a b=r at hcon ⊢
 clear h1 h2
 go_enter Tryz.func150,Tryz.ntmps150
 go_wp2_with (go_at_call 219;refine hcon.mono ?_;rintro e w' ⟨rfl,rfl⟩)
 go_ret
 exact ⟨R,R⟩
set_option maxHeartbeats 1000000 in
theorem Aud {W:World} {S:Cq} {a b:List UInt8} {va vb ua ub:Value} (hS:∀ b i,S b i→b<W.heap.size) (h1:Rep W S (.sl a.length (a.flatMap eU8)) va) (h2:Rep W S (.sl b.length (b.flatMap eU8)) vb) (oc:ua.oneCell'=true) (od:ub.oneCell'=true) :
  Calls Tryz.prog 123 #[.agg #[va,ua],.agg #[vb,ub]] W fun e w'=>e=.returned (.int .i64 (Dc a b))∧∃ q os',w'=Go.Sort.grow (W.drewN q) os':=by
 have oa:=h1.oneCell
 have ob:=h2.oneCell
 have hcon:∀ o1 o2:Obj,Calls Tryz.prog 150 #[va,vb] ((W.alloc o1).alloc o2) fun e w'=>e=.returned (.int .i64 (Dc a b))∧w'=(W.alloc o1).alloc o2:=fun o1 o2=>by
  have k1:∀ b i,S b i→S b i∧((W.alloc o1).alloc o2).cell? ⟨b,i,none⟩=W.cell? ⟨b,i,none⟩:=fun b i hs =>
   ⟨hs,World.cell?_of_block (w:=W) ((Below.heap_alloc _ o2 b (by have:=hS b i hs;simp;omega)).trans (Below.heap_alloc W o1 b (hS b i hs)))⟩
  exact Arn (h1.mono k1) (h2.mono k1)
 generalize Dc a b=r at hcon ⊢
 clear h1 h2
 go_enter Tryz.func123,Tryz.ntmps123
 go_wp2_with (go_at_call 150;refine (hcon _ _).mono ?_;rintro e w' ⟨rfl,rfl⟩)
 go_ret
 exact ⟨rfl,0,_,by rw [Go.Sort.alloc_eq_grow,Go.Sort.alloc_eq_grow,Go.Sort.grow_grow];rfl⟩
def Aaj:Go.Shelf.Ren:=⟨fun | 6=>122 | 15=>191 | 14=>190 | 28=>246 | 29=>247 | 20=>238 | 21=>239 | 22=>240 | 23=>241 | 24=>242 | 25=>243 | 26=>244 | 27=>245 | 46=>262 | 47=>263 | 48=>264 | 49=>265 | 50=>266 | 57=>277 | n=>n,fun | 22=>61 | 24=>157 | 25=>235 | 3=>3 | 39=>307 | 0=>0 | 53=>365 | 55=>367 | 4=>4 | 46=>359 | 45=>358 | 50=>177 | 5=>5 | 9=>9 | 66=>389 | 70=>393 | 76=>404 | 77=>405 | n=>n,fun | n=>n⟩
theorem Atb:Go.Proofs.SlLaysF0.n6 Tryz.prog Aaj:={
 mixed:=by kernel_rfl,
 f6 :=⟨ "slices.SortFunc[[]godwit/api.KV,godwit/api.KV]", by decide, Tryz.func122.trans (congrArg some (by kernel_rfl))⟩,
 f14 :=⟨ "slices.pdqsortCmpFunc[godwit/api.KV]", by decide, Tryz.func190.trans (congrArg some (by kernel_rfl))⟩,
 f15:=Tryz.func191.trans (congrArg some (by kernel_rfl)),
 f20 :=⟨ "slices.insertionSortCmpFunc[godwit/api.KV]", by decide, Tryz.func238.trans (congrArg some (by kernel_rfl))⟩,
 f21 :=⟨ "slices.heapSortCmpFunc[godwit/api.KV]", by decide, Tryz.func239.trans (congrArg some (by kernel_rfl))⟩,
 f22 :=⟨ "slices.breakPatternsCmpFunc[godwit/api.KV]", by decide, Tryz.func240.trans (congrArg some (by kernel_rfl))⟩,
 f23 :=⟨ "slices.choosePivotCmpFunc[godwit/api.KV]", by decide, Tryz.func241.trans (congrArg some (by kernel_rfl))⟩,
 f24 :=⟨ "slices.reverseRangeCmpFunc[godwit/api.KV]", by decide, Tryz.func242.trans (congrArg some (by kernel_rfl))⟩,
 f25 :=⟨ "slices.partialInsertionSortCmpFunc[godwit/api.KV]", by decide, Tryz.func243.trans (congrArg some (by kernel_rfl))⟩,
 f26 :=⟨ "slices.partitionEqualCmpFunc[godwit/api.KV]", by decide, Tryz.func244.trans (congrArg some (by kernel_rfl))⟩,
 f27 :=⟨ "slices.partitionCmpFunc[godwit/api.KV]", by decide, Tryz.func245.trans (congrArg some (by kernel_rfl))⟩,
 f28:=Tryz.func246.trans (congrArg some (by kernel_rfl)),
 f29:=Tryz.func247.trans (congrArg some (by kernel_rfl)),
 f46 :=⟨ "slices.siftDownCmpFunc[godwit/api.KV]", by decide, Tryz.func262.trans (congrArg some (by kernel_rfl))⟩,
 f47:=Tryz.func263.trans (congrArg some (by kernel_rfl)),
 f48:=Tryz.func264.trans (congrArg some (by kernel_rfl)),
 f49 :=⟨ "slices.medianAdjacentCmpFunc[godwit/api.KV]", by decide, Tryz.func265.trans (congrArg some (by kernel_rfl))⟩,
 f50 :=⟨ "slices.medianCmpFunc[godwit/api.KV]", by decide, Tryz.func266.trans (congrArg some (by kernel_rfl))⟩,
 f57 :=⟨ "slices.order2CmpFunc[godwit/api.KV]", by decide, Tryz.func277.trans (congrArg some (by kernel_rfl))⟩,
 t0:=Tryz.underlying0,
 a0:=Tryz.isAgg0,
 z0:=Tryz.sizeOf0,
 v0:=Tryz.zeroValue0,
 t3:=Tryz.underlying3,
 a3:=Tryz.isAgg3,
 z3:=Tryz.sizeOf3,
 v3:=Tryz.zeroValue3,
 t4:=Tryz.underlying4,
 a4:=Tryz.isAgg4,
 z4:=Tryz.sizeOf4,
 v4:=Tryz.zeroValue4,
 t5:=Tryz.underlying5,
 a5:=Tryz.isAgg5,
 z5:=Tryz.sizeOf5,
 v5:=Tryz.zeroValue5,
 t9:=Tryz.underlying9,
 a9:=Tryz.isAgg9,
 z9:=Tryz.sizeOf9,
 v9:=Tryz.zeroValue9,
 t22:=Tryz.underlying61,
 a22:=Tryz.isAgg61,
 z22:=Tryz.sizeOf61,
 v22:=Tryz.zeroValue61,
 t25:=Tryz.underlying235,
 a25:=Tryz.isAgg235,
 z25:=Tryz.sizeOf235,
 v25:=Tryz.zeroValue235,
 t39:=Tryz.underlying307,
 a39:=Tryz.isAgg307,
 z39:=Tryz.sizeOf307,
 v39:=Tryz.zeroValue307,
 t45:=Tryz.underlying358,
 a45:=Tryz.isAgg358,
 z45:=Tryz.sizeOf358,
 v45:=Tryz.zeroValue358,
 t46:=Tryz.underlying359,
 a46:=Tryz.isAgg359,
 z46:=Tryz.sizeOf359,
 v46:=Tryz.zeroValue359,
 t50:=Tryz.underlying177,
 a50:=Tryz.isAgg177,
 z50:=Tryz.sizeOf177,
 v50:=Tryz.zeroValue177,
 t53:=Tryz.underlying365,
 a53:=Tryz.isAgg365,
 z53:=Tryz.sizeOf365,
 v53:=Tryz.zeroValue365,
 t55:=Tryz.underlying367,
 a55:=Tryz.isAgg367,
 z55:=Tryz.sizeOf367,
 v55:=Tryz.zeroValue367,
 t66:=Tryz.underlying389,
 a66:=Tryz.isAgg389,
 z66:=Tryz.sizeOf389,
 v66:=Tryz.zeroValue389,
 t70:=Tryz.underlying393,
 a70:=Tryz.isAgg393,
 z70:=Tryz.sizeOf393,
 v70:=Tryz.zeroValue393,
 t76:=Tryz.underlying404,
 a76:=Tryz.isAgg404,
 z76:=Tryz.sizeOf404,
 v76:=Tryz.zeroValue404,
 t77:=Tryz.underlying405,
 a77:=Tryz.isAgg405,
 z77:=Tryz.sizeOf405,
 v77:=Tryz.zeroValue405 }
theorem Amj {xs:List B8} (hn:xs.length≤1000000000000000000) (hd:Ox kvk xs):De Tryz.prog 122 [.arr 157 2 0 (xs.flatMap Cg)] [.one (.ls 0 xs.length),.one (.raw (.func (.func 123) #[] #[]))] (fun y m'=>y=.tup []∧m'=[.arr 157 2 0 ((Aa8 kvk xs).flatMap Cg)]) :=
 Atv (ρ:=Aaj) (f:=Cg) (g:=123) Atb (fun a b=>Dc (kvk a) (kvk b)) (fun _=>rfl) (by decide) Tryz.isAgg157 Tryz.sizeOf157 Ayy (enters_of Tryz.func123 (by kernel_rfl) rfl) (fun W S x y vx vy hS hx hy=>by
  obtain ⟨v0,u0,rfl⟩:∃ v0 u0,vx=[v0,u0]:=by
   match vx,hx.1 with
   | [a,b],_=>exact ⟨a,b,rfl⟩
  obtain ⟨v1,u1,rfl⟩:∃ v1 u1,vy=[v1,u1]:=by
   match vy,hy.1 with
   | [a,b],_=>exact ⟨a,b,rfl⟩
  exact Aud hS (hx.2 0 _ _ R R) (hy.2 0 _ _ R R) (hx.2 1 _ _ R R).oneCell (hy.2 1 _ _ R R).oneCell) hn (Ajg hd)
def Yv (a1:List B8) (a2:Bi) (s:Int × List B8):Option (LB (Int × List B8) (List B8)) :=
 if decide (s.1<(a1.length:Int)) then ((idx a1 s.1).bind fun u=>(Dq a2 u.Key).bind fun v=>some (.cont (wI (s.1+1),if v then Rk kvk s.2 u else s.2))) else some (.brk s.2)
def Zs (a0:B4) (a2:Bi) (s:Int × List B8):Option (LB (Int × List B8) (List B8)) :=
 if decide (s.1<(a0.L.length:Int)) then ((idx a0.L s.1).bind fun u=>if u.Del then some (.cont (wI (s.1+1),Aa7 kvk s.2 u.Key)) else (Dq a2 u.Key).bind fun v=>some (.cont (wI (s.1+1),if v then Rk kvk s.2 ⟨u.Key,u.Val⟩ else s.2))) else some (.brk s.2)
def Ag2 (a3:Int) (t:List B8):Option (List B8) :=
 if t.length*48≤140737488355328 then cut (Aa8 kvk t) 0 (if a3<((Aa8 kvk t).length:Int) then a3 else ((Aa8 kvk t).length:Int)) else none
def Agd (a0:B4) (a2:Bi) (a3:Int) (t:List B8):Option (List B8):=(C5 (Zs a0 a2) fuel (0,t)).bind fun t2=>Ag2 a3 t2
def F8 (a0:B4) (a1:List B8) (a2:Bi) (a3:Int):Option (List B8) :=
 (Fe a0).bind fun v1=>if !v1 then some [] else (Fh a1).bind fun v2=>if !v2 then some [] else if decide (a3<1) then some [] else (C5 (Yv a1 a2) fuel (0,[])).bind fun t1=>Agd a0 a2 a3 t1
theorem Wo {a0:B4} {a1:List B8} {a2:Bi} {a3:Int} {r:List B8} (h:F8 a0 a1 a2 a3=some r) :
  Bt Tryz.prog 52 [.agg [.sl a0.L.length (a0.L.flatMap Ba)],.one (.sl a1.length (a1.flatMap Cg)),.agg (EL.el a2),.one (Ii6 a3)] (·=.s (.one (.sl r.length (r.flatMap Cg)))):=by
 unfold F8 at h
 refine A4 Tryz.func52 R (nt:=91) R (Nbl R) ?_
 intro w0 S0
 refine csr (F0 R R (F0 R R (rm 1 R (Ai (Br (csr (sv R (Bf Af3 R (.lp _ _ _ R) (Nbl R)) ?_)))))))
 obtain ⟨v1,hv1,h⟩:=Ae h
 refine Bb R Aqn (Aa R Af) (Ao R) (Oe hv1) (sv R (B2 R) (rm 1 R (Ak7 20 R (fun hc=>?_) (fun hc=>?_))))
 ·replace h:=Va hc h
  clear hc
  refine rm 8 R (Ai (Cp R (fun hc=>?_) (fun hc=>nomatch hc)))
  refine csr (rm 1 R (Ai (Bv (Ag ?_))))
  obtain rfl:=SJ h
  exact dn (Ad (rt R) Ah) (Iz R) R
 replace h:=Vr hc h
 clear hc
 refine rm 1 R (son R R R ?_)
 obtain ⟨v2,hv2,h⟩:=Ae h
 refine Bb R Awv (Aa R Af) (Ao R) (U3 hv2) (son R R R (sv R (B2 R) (rm 2 R (Ak7 25 R (fun hc=>?_) (fun hc=>?_)))))
 ·replace h:=Va hc h
  clear hc
  refine rm 3 R (Ai (Cp R (fun hc=>?_) (fun hc=>nomatch hc)))
  refine csr (rm 1 R (Ai (Bv (Ag ?_))))
  obtain rfl:=SJ h
  exact dn (Ad (rt R) Ah) (Iz R) R
 replace h:=Vr hc h
 clear hc
 refine rm 1 R (son R R R (sv R (Bw R R) (rm 1 R (Ai (Cp R (fun hc=>?_) (fun hc=>?_))))))
 ·replace h:=Va hc h
  refine csr (rm 1 R (Ai (Bv (Ag ?_))))
  obtain rfl:=SJ h
  exact dn (Ad (rt R) Ah) (Iz R) R
 replace h:=Vr hc h
 clear hc
 refine Bj (Ab (csr (Aog Uh R (fun g=>?_))))
 refine rm 1 R (Ai (Br (csr (rm 1 R (sv R (Ax Ar1 R) (rm 1 R (Ai (Dt (List B8 × List B8) (fun _=>[(4,.s (.one (.lp 0 0))),(6,.s (.one (.lp 1 0))),(3,.s (.one (Ii6 a3))),(9,.s (.one (.raw (.map (some g)))))]) (fun b=>[.box [.sl a0.L.length (a0.L.flatMap Ba)],.box (EL.el a2),.obj g (L2 Uh ((b.2.map kB).map .string)) (b.2.map Cg)]) (fun b=>b.2.Perm b.1∧Ox kvk b.2∧Agd a0 a2 a3 b.1=some r) (fun _ _=>A5 R) (fun _ _=>Ap R) (fun _ _=>Nbl R) (fun b h=>?_) ?_))))))))
 ·obtain ⟨t1,t1'⟩:=b
  obtain ⟨hp1,hd1,h⟩:=h
  dsimp only at hp1 hd1 h
  unfold Agd at h
  refine Br (csr (fl V2 Ani R R R R R R (sv R (Ax Ab9 R) (rm 1 R (Ai (Dt (List B8 × List B8) (fun _=>[(3,.s (.one (Ii6 a3))),(9,.s (.one (.raw (.map (some g)))))]) (fun b=>[.box [.sl a0.L.length (a0.L.flatMap Ba)],.box (EL.el a2),.obj g (L2 Uh ((b.2.map kB).map .string)) (b.2.map Cg)]) (fun b=>b.2.Perm b.1∧Ox kvk b.2∧Ag2 a3 b.1=some r) (fun _ _=>A5 R) (fun _ _=>Ap R) (fun _ _=>Nbl R) (fun b h=>?_) ?_))))))
  ·obtain ⟨t2,t2'⟩:=b
   obtain ⟨hp2,hd2,h⟩:=h
   dsimp only at hp2 hd2 h
   unfold Ag2 at h
   obtain ⟨hb2,h⟩:=Cy h
   have hb2':t2'.length*48≤140737488355328:=by rw [hp2.length_eq];exact hb2
   refine csr (rm 1 R (Ai (Br (csr (rm 1 R (Al6 (p:=2) R Tryz.underlying233 R R (fun es clock q hst hks hsz=>?_)))))))
   refine Ai ?_
   refine D1 157 2 14 (by decide) R ?_
   have hes:es.size=t2'.length:=by rw [hsz,List.length_map]
   obtain ⟨hs1,hs2,_⟩:=(Go.MapKept.stamped_iff es clock).1 hst
   refine Dt (Array Nat × List B8) (fun b=>[(3,.s (.one (Ii6 a3))),(14,.s (.one (.ls 4 b.2.length)))]) (fun b=>[.box [.sl a0.L.length (a0.L.flatMap Ba)],.box (EL.el a2),.obj g (Ada Uh es clock) (t2'.map Cg),.obj q (Ajl g clock b.1 clock) [],.arr 157 2 0 (b.2.flatMap Cg)]) (fun b=>b.2.Perm t2') (fun _ _=>A5 R) (fun _ _=>Ap R) (fun _ _=>Nbl R) (fun b hpo=>?_) ?_
   ·obtain ⟨seen,out⟩:=b
    dsimp only at hpo
    have hol:out.length=t2'.length:=hpo.length_eq
    have hdo:Ox kvk out:=(Ox.perm hpo).2 hd2
    have he:Aa8 kvk out=Aa8 kvk t2:=Ahx (hpo.trans hp2) hdo
    have hlen:(Aa8 kvk out).length=out.length:=(L8 out).length_eq
    have hlen2:out.length*2=((Aa8 kvk out).flatMap Cg).length:=by rw [← hlen];exact (A1 (f:=Cg) (fun _=>rfl) _).symm
    rw [← he,hlen] at h
    refine csr (sv R (Bc R) ?_)
    refine Ho (x':=.tup []) (M':=[.box [.sl a0.L.length (a0.L.flatMap Ba)],.box (EL.el a2),.obj g (Ada Uh es clock) (t2'.map Cg),.obj q (Ajl g clock seen clock) [],.arr 157 2 0 ((Aa8 kvk out).flatMap Cg)]) [4] R Axo (.func _) (Aa R (Aa R Af)) (Amj (xs:=out) (by omega) hdo) R R (by decide) R R R ?_
    refine Ai (csr (rm 2 R (sv R (Mf Ar1 R R hlen2) (rm 1 R (sv R (Afd R R) (Aii 85 R (Jm.one _ _ _ _ (Dm.ls _ _ _ _ _ _ R hlen2)) (sv R (W9 (f:=Cg) (lo:=0) (hi:=(if a3<(out.length:Int) then a3 else (out.length:Int))) Ar1 (fun _=>R) R R hlen.symm Tr (P6 R (Int.le_trans (Te h).1.1 (Te h).1.2.1)) h) ?_)))))))
    refine rm 1 R (Ai (Bv (⟨Or.inr R,_,_,_,(Ad (rt R) Ah),(Ao R),?_⟩)))
    rfl
   ·refine Bu ?_
    refine B6 (G:=Array Nat × List Nat) (fun b=>[(3,.s (.one (Ii6 a3))),(14,.s (.one (.ls 4 (b.2.filterMap (t2'[·]?)).length))),(74,.s (.one (.raw (.pointer (some ⟨q,0,none⟩)))))]) (fun b=>[.box [.sl a0.L.length (a0.L.flatMap Ba)],.box (EL.el a2),.obj g (Ada Uh es clock) (t2'.map Cg),.obj q (Ajl g clock b.1 clock) [],.arr 157 2 0 ((b.2.filterMap (t2'[·]?)).flatMap Cg)]) (fun b=>b.2.Nodup∧(∀ j ∈ b.2,j<t2'.length)∧(∀ (j:Nat) e,es[j]? = some e→(b.1.contains e.born=true ↔ j ∈ b.2))∧b.2.length+(leftOf es b.1).size≤es.size) (fun b=>(leftOf es b.1).size) (#[],[]) ⟨List.nodup_nil,fun j hj=>by simp at hj,fun j e _=>⟨fun h=>by simp at h,fun h=>by simp at h⟩,by show 0+(leftOf es #[]).size≤es.size;rw [Nat.zero_add];exact Array.size_filter_le ..⟩ ⟨R,R,R,trivial⟩ [] R (fun _ _=>A5 R) (fun _ _=>Ap R) (fun _ _=>Nbl R) ?_
    rintro ⟨seen,picks⟩ ⟨hnd,hlt,hsn,hmu⟩
    dsimp only at hnd hlt hsn hmu
    refine csr (Amw (p:=2) (pi:=3) (ss:=t2'.map kB) R R R R hs1 (Nat.le_refl _) hks (fun h0=>?_) (fun j e s cs hj he hs hcs=>?_))
    ·refine sv R (Aj R R) (Ai (Br (Cp R (fun hc=>nomatch hc) (fun _=>?_))))
     refine Di (Au (Au (Bn (Ab (⟨(seen,picks.filterMap (t2'[·]?)),_,?_,⟨R,R,trivial⟩,R⟩)))))
     refine Ah1 hnd hlt fun j hj=>?_
     have hj':j<es.size:=by rw [hes];exact hj
     exact (hsn j es[j] (Array.getElem?_eq_getElem hj')).1 (all_seen es seen h0 _ (by simp))
    ·obtain ⟨x,hx,rfl⟩:∃ x,t2'[j]? = some x∧cs=Cg x:=by
      rw [List.getElem?_map] at hcs
      cases hx:t2'[j]? with
      | none=>rw [hx] at hcs;cases hcs
      | some x=>rw [hx] at hcs;exact ⟨x,rfl,(Option.some.inj hcs).symm⟩
     have hns:=(mem_left he).2
     have hjn:j ∉ picks:=fun h=>by rw [(hsn j e hj).2 h] at hns;cases hns
     have hsh:=left_shrinks es seen e he
     have hpl:(picks.filterMap (t2'[·]?)).length≤picks.length:=List.length_filterMap_le ..
     refine sv R (Aj R R) (Ai (Br (Cp R (fun _=>?_) (fun hc=>nomatch hc))))
     refine Bj (Ab (Bu (Br (As ?_))))
     refine Amf (p:=2) (pi:=3) (j:=j) rfl rfl rfl rfl hs2 hks hj hs (by rw [List.getElem?_map,hx];rfl) ?_
     refine sv R (Aj R R) (Bq R Ajx (sst Ari R R R R R (Ai (As (rm 1 R (sv R (Bf An8 R (.lp _ _ _ R) (Nbl R)) ?_))))))
     refine Gk R Tryz.underlying61 Anf R R (List.all_eq_true.1 R) (by decide) ?_
     refine P4 [.box [.sl a0.L.length (a0.L.flatMap Ba)],.box (EL.el a2),.obj g (Ada Uh es clock) (t2'.map Cg),.obj q (Ajl g clock (seen.push e.born) clock) [],.arr 157 2 0 ((picks.filterMap (t2'[·]?)).flatMap Cg),.box (EL.el x),.arr 157 2 0 ([x].flatMap Cg)] R ?_
     refine Wb (f:=Cg) (xs:=picks.filterMap (t2'[·]?)) (us:=[x]) R Tryz.underlying61 Anf Axx (fun _=>R) R R (.one _ _ _ _ (.ls _ _ _ _ _ _ R (A1 (f:=Cg) (fun _=>R) [x]).symm)) R R R (.sl _ _ _ (A1 (f:=Cg) (fun _=>R) _)) R R (by rw [List.length_singleton];omega) (by decide) ?_
     refine rm 1 R (Ks (Ar ?_))
     have hfm:(picks++[j]).filterMap (t2'[·]?)=picks.filterMap (t2'[·]?)++[x]:=by
      rw [List.filterMap_append]
      simp [hx]
     refine ⟨(seen.push e.born,picks++[j]),_,⟨?_,?_,?_,?_⟩,⟨rfl,by show _=AV.s (.one (.ls 4 ((picks++[j]).filterMap (t2'[·]?)).length));rw [hfm];rfl,rfl,trivial⟩,by show _=[_,_,_,_,Blk.arr 157 2 0 (((picks++[j]).filterMap (t2'[·]?)).flatMap Cg)]++_;rw [hfm];rfl,hsh⟩
     ·rw [List.nodup_append]
      exact ⟨hnd,by simp,fun a ha b hb=>by rw [List.mem_singleton.1 hb];exact fun e=>hjn (e ▸ ha)⟩
     ·intro k hk
      rcases List.mem_append.1 hk with hk | hk
      ·exact hlt k hk
      ·rw [List.mem_singleton.1 hk];exact (List.getElem?_eq_some_iff.1 hx).1
     ·intro k e' hk
      rw [List.mem_append,List.mem_singleton,← Aq1 hs2 hk hj,← hsn k e' hk];simp [or_comm]
     ·rw [List.length_append,List.length_singleton]
      have:(leftOf es (seen.push e.born)).size+1≤(leftOf es seen).size:=hsh
      dsimp only
      omega
  ·refine Bu ?_
   obtain ⟨x2,hx2,ho2⟩:=Ae h
   refine B6 (G:=Nat × (Int × List B8) × List B8) (fun q=>[(6,.s (.one (.lp 1 0))),(3,.s (.one (Ii6 a3))),(9,.s (.one (.raw (.map (some g))))),(47,.s (.one (.sl a0.L.length (a0.L.flatMap Ba)))),(48,.s (.one (Ii6 (a0.L.length:Int)))),(49,.s (.one (Ii6 q.2.1.1)))]) (fun q=>[.box [.sl a0.L.length (a0.L.flatMap Ba)],.box (EL.el a2),.obj g (L2 Uh ((q.2.2.map kB).map .string)) (q.2.2.map Cg)]) (fun q=>C5 (Zs a0 a2) q.1 q.2.1=some x2∧q.2.2.Perm q.2.1.2∧Ox kvk q.2.2) (fun q=>q.1) (fuel,(0,t1),t1') ⟨hx2,hp1,hd1⟩ ⟨R,R,R,R,R,R,trivial⟩ [] R (fun _ _=>A5 R) (fun _ _=>Ap R) (fun _ _=>Nbl R) ?_
   clear hx2 h hp1 hd1
   rintro ⟨n,⟨i,t⟩,t'⟩ ⟨h,hp,hd⟩
   dsimp only at hp hd
   obtain ⟨n,y,rfl,h,hk⟩:=C8 h
   unfold Zs at h
   dsimp only at h
   refine csr (sv R (Bw R R) (Ai (Br (ccI h R (fun h=>?_) (fun h=>?_)))))
   ·refine Bj (Ab (Br (Bu (Br (As ?_)))))
    obtain ⟨u,hu,h⟩:=Ae h
    refine sv R (Cb (f:=Ba) Ab9 (fun _=>R) R R R R hu) ?_
    refine sv R (B3 (ys:=[.sl u.Key.length (u.Key.flatMap eU8),.sl u.Val.length (u.Val.flatMap eU8),.b u.Del]) Aea R (.cp _) R R) (Bq R Ai2 (sst Ajm R R R R R (Ai (csr (fl Adq ti4 R R R R R R (Ai (ccI h R (fun h=>?_) (fun h=>?_))))))))
    ·obtain rfl:=SJ h
     clear h
     refine As (rm 1 R (fl Sa Nr R R R R R R (sv R (Yn (l:=u.Key) Tryz.underlying56 Tryz.underlying5 Tryz.underlying9 R R R) (Aq8 (ss:=t'.map kB) (css:=t'.map Cg) (s:=⟨u.Key.toArray⟩) (p:=2) Tryz.underlying233 Tryz.underlying9 R R R (fun j hj=>?_) (fun hn=>?_) R))))
     ·obtain ⟨e1,e3⟩:=Ap4 hp hd (Aco hj)
      refine P4 [.box [.sl a0.L.length (a0.L.flatMap Ba)],.box (EL.el a2),.obj g (L2 Uh (((t'.eraseIdx j).map kB).map .string)) ((t'.eraseIdx j).map Cg),.box (EL.el u)] (by rw [← Go.ChangeMaps.map_eraseIdx,← Go.ChangeMaps.map_eraseIdx];rfl) ?_
      refine Ks (Ar (Ab (As (sv R (Bs R R) (rm 1 R (Ai ?_))))))
      exact ⟨(n,(wI (i+1),Aa7 kvk t u.Key),t'.eraseIdx j),_,⟨hk,e1,e3⟩,⟨R,R,R,R,R,R,trivial⟩,R,Nat.lt_succ_self _⟩
     ·have e1:=Ako (kf:=kvk) hp (Amm hn)
      refine P4 [.box [.sl a0.L.length (a0.L.flatMap Ba)],.box (EL.el a2),.obj g (L2 Uh ((t'.map kB).map .string)) (t'.map Cg),.box (EL.el u)] R (Ks (Ar (Ab (As (sv R (Bs R R) (rm 1 R (Ai ?_)))))))
      exact ⟨(n,(wI (i+1),Aa7 kvk t u.Key),t'),_,⟨hk,e1,hd⟩,⟨R,R,R,R,R,R,trivial⟩,R,Nat.lt_succ_self _⟩
    ·obtain ⟨v,hv,h⟩:=Ae h
     obtain rfl:=SJ h
     clear h
     refine csr (ld Abw R R R R (fl Sa Nr R R R R R R (Bb R Akc (Aa R (Aa R Af)) (Ao R) (L0 hv) (Ai (Cp R (fun hc=>?_) (fun hc=>?_))))))
     ·subst hc
      refine As (rm 1 R (fl Sa Nr R R R R R R (sv R (Yn (l:=u.Key) Tryz.underlying56 Tryz.underlying5 Tryz.underlying9 R R R) (fl Sa Nr R R R R R R (fl Za Nr R R R R R R (sv R (A6 Ajx Asi (Av R (Av R Az)) (.cons _ _ _ _ _ _ _ R R (Nbl R) (.cons _ _ _ _ _ _ _ R R (Nbl R) (.nil _)))) (Ale (ss:=t'.map kB) (css:=t'.map Cg) (s:=kB ⟨u.Key,u.Val⟩) (p:=2) Tryz.underlying233 Tryz.underlying9 R R R R R (fun j hj=>?_) (fun hn=>?_))))))))
      ·obtain ⟨e1,e2,e3⟩:=Abf hp hd (x:=⟨u.Key,u.Val⟩) (Aco hj)
       refine P4 [.box [.sl a0.L.length (a0.L.flatMap Ba)],.box (EL.el a2),.obj g (L2 Uh (((t'.set j ⟨u.Key,u.Val⟩).map kB).map .string)) ((t'.set j ⟨u.Key,u.Val⟩).map Cg),.box (EL.el u)] (by rw [Apd (Aco hj),List.map_set];rfl) ?_
       refine Ks (Ar (Ab (As (sv R (Bs R R) (rm 1 R (Ai ?_))))))
       exact ⟨(n,(wI (i+1),Rk kvk t ⟨u.Key,u.Val⟩),t'.set j ⟨u.Key,u.Val⟩),_,⟨hk,e1,e3⟩,⟨R,R,R,R,R,R,trivial⟩,R,Nat.lt_succ_self _⟩
      ·obtain ⟨e1,e3⟩:=Agu hp hd (x:=⟨u.Key,u.Val⟩) (Amm hn)
       refine P4 [.box [.sl a0.L.length (a0.L.flatMap Ba)],.box (EL.el a2),.obj g (L2 Uh (((t'++[(⟨u.Key,u.Val⟩:B8)]).map kB).map .string)) ((t'++[(⟨u.Key,u.Val⟩:B8)]).map Cg),.box (EL.el u)] (by simp only [List.map_append];rfl) ?_
       refine Ks (Ar (Ab (As (sv R (Bs R R) (rm 1 R (Ai ?_))))))
       exact ⟨(n,(wI (i+1),Rk kvk t ⟨u.Key,u.Val⟩),t'++[(⟨u.Key,u.Val⟩:B8)]),_,⟨hk,e1,e3⟩,⟨R,R,R,R,R,R,trivial⟩,R,Nat.lt_succ_self _⟩
     ·subst hc
      refine Bj (Ar (Ab (As (sv R (Bs R R) (rm 1 R (Ai ?_))))))
      exact ⟨(n,(wI (i+1),t),t'),_,⟨hk,hp,hd⟩,⟨R,R,R,R,R,R,trivial⟩,R,Nat.lt_succ_self _⟩
   ·refine Di (Au (Au (Bn (Ab ?_))))
    obtain rfl:=SJ h
    obtain rfl:_=x2:=hk
    exact ⟨(t,t'),_,⟨hp,hd,ho2⟩,⟨R,R,trivial⟩,R⟩
 ·refine Bu ?_
  obtain ⟨x1,hx1,ho1⟩:=Ae h
  refine B6 (G:=Nat × (Int × List B8) × List B8) (fun q=>[(4,.s (.one (.lp 0 0))),(6,.s (.one (.lp 1 0))),(3,.s (.one (Ii6 a3))),(9,.s (.one (.raw (.map (some g))))),(30,.s (.one (.sl a1.length (a1.flatMap Cg)))),(31,.s (.one (Ii6 (a1.length:Int)))),(32,.s (.one (Ii6 q.2.1.1)))]) (fun q=>[.box [.sl a0.L.length (a0.L.flatMap Ba)],.box (EL.el a2),.obj g (L2 Uh ((q.2.2.map kB).map .string)) (q.2.2.map Cg)]) (fun q=>C5 (Yv a1 a2) q.1 q.2.1=some x1∧q.2.2.Perm q.2.1.2∧Ox kvk q.2.2) (fun q=>q.1) (fuel,(0,[]),[]) ⟨hx1,List.Perm.refl _,List.Pairwise.nil⟩ ⟨R,R,R,R,R,R,R,trivial⟩ [] R (fun _ _=>A5 R) (fun _ _=>Ap R) (fun _ _=>Nbl R) ?_
  clear hx1 h
  rintro ⟨n,⟨i,t⟩,t'⟩ ⟨h,hp,hd⟩
  dsimp only at hp hd
  obtain ⟨n,y,rfl,h,hk⟩:=C8 h
  unfold Yv at h
  dsimp only at h
  refine csr (sv R (Bw R R) (Ai (Br (ccI h R (fun h=>?_) (fun h=>?_)))))
  ·refine Bj (Ab (Br (Bu (Br (As ?_)))))
   obtain ⟨u,hu,h⟩:=Ae h
   refine sv R (Cb (f:=Cg) Ar1 (fun _=>R) R R R R hu) ?_
   refine sv R (B3 (ys:=[.sl u.Key.length (u.Key.flatMap eU8),.sl u.Val.length (u.Val.flatMap eU8)]) An8 R (.cp _) R R) (Bq R Ajx (sst Ari R R R R R (Ai (csr (ld Abw R R R R (sv R (Ac Aed R) (sv R (Ak Nr R (.lp _ _ _ R) R) ?_)))))))
   obtain ⟨v,hv,h⟩:=Ae h
   refine Bb R Akc (Aa R (Aa R Af)) (Ao R) (L0 hv) (Ai ?_)
   obtain rfl:=SJ h
   clear h
   refine Cp R (fun hc=>?_) (fun hc=>?_)
   ·subst hc
    refine As (rm 1 R (fl Aed Nr R R R R R R (sv R (Yn (l:=u.Key) Tryz.underlying56 Tryz.underlying5 Tryz.underlying9 R R R) (ld An8 R R R R (Ale (ss:=t'.map kB) (css:=t'.map Cg) (s:=kB u) (p:=2) Tryz.underlying233 Tryz.underlying9 R R R R R (fun j hj=>?_) (fun hn=>?_))))))
    ·obtain ⟨e1,e2,e3⟩:=Abf hp hd (x:=u) (Aco hj)
     refine P4 [.box [.sl a0.L.length (a0.L.flatMap Ba)],.box (EL.el a2),.obj g (L2 Uh (((t'.set j u).map kB).map .string)) ((t'.set j u).map Cg),.box (EL.el u)] (by rw [Apd (Aco hj),List.map_set];rfl) ?_
     refine Ks (Ar (Ab (As (sv R (Bs R R) (rm 1 R (Ai ?_))))))
     exact ⟨(n,(wI (i+1),Rk kvk t u),t'.set j u),_,⟨hk,e1,e3⟩,⟨R,R,R,R,R,R,R,trivial⟩,R,Nat.lt_succ_self _⟩
    ·obtain ⟨e1,e3⟩:=Agu hp hd (x:=u) (Amm hn)
     refine P4 [.box [.sl a0.L.length (a0.L.flatMap Ba)],.box (EL.el a2),.obj g (L2 Uh (((t'++[u]).map kB).map .string)) ((t'++[u]).map Cg),.box (EL.el u)] (by simp only [List.map_append];rfl) ?_
     refine Ks (Ar (Ab (As (sv R (Bs R R) (rm 1 R (Ai ?_))))))
     exact ⟨(n,(wI (i+1),Rk kvk t u),t'++[u]),_,⟨hk,e1,e3⟩,⟨R,R,R,R,R,R,R,trivial⟩,R,Nat.lt_succ_self _⟩
   ·subst hc
    refine Bj (Ar (Ab (As (sv R (Bs R R) (rm 1 R (Ai ?_))))))
    exact ⟨(n,(wI (i+1),t),t'),_,⟨hk,hp,hd⟩,⟨R,R,R,R,R,R,R,trivial⟩,R,Nat.lt_succ_self _⟩
  ·refine Di (Au (Au (Bn (Ab ?_))))
   obtain rfl:=SJ h
   obtain rfl:_=x1:=hk
   exact ⟨(t,t'),_,⟨hp,hd,ho1⟩,⟨R,R,R,R,trivial⟩,R⟩
section
open Go.Extern.Stop Go.Stop Go.Extern
theorem Ak2 (v:Value) (w:World):(Extern.ReflectliteType.typeOf #[.iface 62 v]).run Tryz.prog w=.ok (.iface 371 (.agg #[.pointer (some ⟨1,62,none⟩)])) w:=by kernel_rfl
theorem Ab0 (w : World) : ((Extern.ReflectliteType.method fun t => do Extern.Rtype.noPackHeld "Comparable" t; (fun a => Value.bool a.comparable) <$> typeInfo t) #[.agg #[.pointer (some ⟨1, 62, none⟩)]]).run Tryz.prog w = .ok (.bool true) w := by kernel_rfl
theorem Al3 (v : Value) (w : World) : (Go.method 553 371 v "Comparable").run Tryz.prog w = .ok (317, v) w := by kernel_rfl
theorem Aj2:(Tryz.prog.info? 62).map (·.comparable)=some true:=by kernel_rfl
theorem Aqp (v:Value) (xT:TypeId) (w:World):(Instr.typeAssert (.iface 62 v) xT 373 true).run Tryz.prog w=.ok (.tuple #[.nilIface,.bool false]) w:=run_typeAssert_lacksB Tryz.underlying373 (by kernel_rfl) (by kernel_rfl) v xT w
theorem Afp (v:Value) (xT:TypeId) (w:World):(Instr.typeAssert (.iface 62 v) xT 376 true).run Tryz.prog w=.ok (.tuple #[.nilIface,.bool false]) w:=run_typeAssert_lacksB Tryz.underlying376 (by kernel_rfl) (by kernel_rfl) v xT w
theorem Ac1 (v:Value) (xT:TypeId) (w:World):(Instr.typeAssert (.iface 62 v) xT 378 true).run Tryz.prog w=.ok (.tuple #[.nilIface,.bool false]) w:=run_typeAssert_lacksB Tryz.underlying378 (by kernel_rfl) (by kernel_rfl) v xT w
set_option maxHeartbeats 2000000 in
theorem Anu (a b:Int) (w:World):Calls Tryz.prog 138 #[.iface 62 (.int .i64 a),.iface 62 (.int .i64 b)] w fun e w'=>e=.returned (.bool (a == b))∧w'=w:=by
 have h8:=@run_callFunc_extern Tryz.prog 207 _ Extern.ReflectliteType.typeOf Tryz.func207 (by kernel_rfl) (by kernel_rfl) (by kernel_rfl) (by kernel_rfl)
 have h32 := @run_callFunc_extern Tryz.prog 317 _ (Extern.ReflectliteType.method fun t => do Extern.Rtype.noPackHeld "Comparable" t; pure (.bool (← typeInfo t).comparable)) Tryz.func317 (by kernel_rfl) (by kernel_rfl) (by kernel_rfl) (by kernel_rfl)
 have tT:=Ak2
 have cT:=Ab0
 have mR:=Al3
 have nE:=Aqp
 have uE:=Afp
 have vE:=Ac1
 have hn1:=fun v:Value=>run_eql_iface_nil_left (P:=Tryz.prog) w 62 v Tryz.underlying252
 have hnr:=fun v:Value=>run_eql_iface_nil (P:=Tryz.prog) (w:=w) 252 (by kernel_rfl) 62 v
 cases hab:(a == b) with
 | true =>
  have heq:=Go.Lib.run_eql_iface_int (P:=Tryz.prog) w (k:=.i64) a b Tryz.underlying252 Aj2 Tryz.underlying62
  rw [hab] at heq
  go_enter Tryz.func138,Tryz.ntmps138
  go_wp2
  refine wp_loop_rounds 1 ?_
  rw [rounds_succ]
  go_wp2
  go_ret
  exact ⟨R,R⟩
 | false =>
  have heq:=Go.Lib.run_eql_iface_int (P:=Tryz.prog) w (k:=.i64) a b Tryz.underlying252 Aj2 Tryz.underlying62
  rw [hab] at heq
  go_enter Tryz.func138,Tryz.ntmps138
  go_wp2
  refine wp_loop_rounds 1 ?_
  rw [rounds_succ]
  go_wp2
  go_ret
  exact ⟨R,R⟩
def Q5 (a b:Int):Option Bool:=some (a == b)
theorem Xx {a b:Int} {r:Bool} (h:Q5 a b=some r):Bt Tryz.prog 138 [.one (.raw (.iface 62 (.int .i64 a))),.one (.raw (.iface 62 (.int .i64 b)))] (·=.s (.one (.b r))):=by
 obtain rfl:=SJ h
 exact Af6 (fun _ _=>.b _) (fun w=>Anu a b w)
end
def Hm (a0:List (List UInt8)) (b1:Unit):Option Bool :=
 (B9 a0).bind fun v2=>some v2
def Ee (a0:List (List UInt8)) (s3:Int):Option (LR (Int) (Unit) (Bool)) :=
 if (decide (s3<(a0.length:Int))) then ((idx a0 s3).bind fun u4=>(Dp u4).bind fun v5=>if (!v5) then (some (.ret false)) else (some (.cont (wI (s3+1))))) else (some (.brk ()))
def Ei (a0:List (List UInt8)):Option Bool :=
 (Lj (Ee a0) fuel 0).bind fun x=>match x with | .inl r=>some r | .inr e6=>Hm a0 e6
theorem O9 {a0:List (List UInt8)} {r:Bool} (h:Ei a0=some r):Bt Tryz.prog 107 [.one (.sl a0.length (a0.flatMap (eL eU8)))] (·=.s (.one (.b r))):=by
 unfold Ei at h
 refine A4 Tryz.func107 R (nt:=17) R (Nbl R) ?_
 intro w0 S0
 refine csr (rm 1 R (Ai (Br (csr (rm 1 R (sv R (Ax Sn R) (rm 1 R (Ai (Dt (Unit) (fun b1=>[(0,.s (.one (.sl a0.length (a0.flatMap (eL eU8)))))]) (fun b1=>[]) (fun b1=>Hm a0 b1=some r) (fun _ _=>A5 R) (fun _ _=>Ap R) (fun _ _=>Nbl R) (fun b1 h=>?_) ?_)))))))))
 ·unfold Hm at h
  refine csr (sv R (Bc R) ?_)
  obtain ⟨v2,hv2,h⟩:=Ae h
  refine Bb R Aos (Aa R Af) (Ao R) (Lc hv2) (rm 1 R (Ai (Bv ?_)))
  obtain rfl:=SJ h
  exact dnT R R R R
 ·skip
  refine Bu ?_
  obtain ⟨x3,hx3,ho3⟩:=Ae h
  refine B6 (G:=Nat × (Int)) (fun g=>[(0,.s (.one (.sl a0.length (a0.flatMap (eL eU8))))),(5,.s (.one (.sl a0.length (a0.flatMap (eL eU8))))),(6,.s (.one (Ii6 (a0.length:Int)))),(7,.s (.one (Ii6 g.2)))]) (fun g=>[]) (fun g=>Lj (Ee a0) g.1 g.2=some x3) (fun g=>g.1) (fuel,0) hx3 ⟨R,R,R,R,trivial⟩ [] R (fun _ _=>A5 R) (fun _ _=>Ap R) (fun _ _=>Nbl R) ?_
  clear hx3 h
  rintro ⟨n3,s3⟩ h
  obtain ⟨n3,y3,rfl,h,hk3⟩:=Ff h
  unfold Ee at h
  refine csr (sv R (Bw R R) (Ai (Br (ccI h R (fun h=>?_) (fun h=>?_)))))
  ·refine Bj (Ab (Br (Bu (Br (As ?_)))))
   obtain ⟨u4,hu4,h⟩:=Ae h
   refine sv R (Cb (f:=(eL eU8)) Sn (fun _=>R) R R R R hu4) ?_
   refine sv R (Ak Nr R (.cp _) R) (rm 1 R (Ai (csr (sv R (Bc R) ?_))))
   obtain ⟨v5,hv5,h⟩:=Ae h
   refine Bb R Au4 (Aa R Af) (Ao R) (Nv hv5) (sv R (B2 R) (Ai (ccI h R (fun h=>?_) (fun h=>?_))))
   ·refine csr (rm 1 R (Ai (Bv (Ay (Ag (Ag (Ay (Ag ?_))))))))
    obtain rfl:=SJ h
    obtain rfl:Sum.inl _=x3:=hk3
    replace ho3:some _=some _:=ho3
    obtain rfl:=Option.some.inj ho3
    exact dnT R R R R
   ·refine Bj (Ar (Ab (As (sv R (Bs R R) (rm 1 R (Ai ?_))))))
    obtain rfl:=SJ h
    exact ⟨(n3,(wI (s3+1))),_,hk3,⟨R,R,R,R,trivial⟩,R,Nat.lt_succ_self _⟩
  ·refine Di (Au (Au (Bn (Ab ?_))))
   obtain rfl:=SJ h
   obtain rfl:_=x3:=hk3
   exact ⟨(),_,ho3,⟨R,trivial⟩,R⟩
theorem Ln {a0:An}:Bt Tryz.prog 182 [.agg [.sl a0.L.length (a0.L.flatMap A7)]] (·=.s (.one (.fn 235 [] [.cp [.sl a0.L.length (a0.L.flatMap A7)]]))):=by
 refine A4 Tryz.func182 R (nt:=4) R (Nbl R) ?_
 intro w0 S0
 refine csr (Akg R R R (rm 1 R (Ai (csr (sv R (S8 P5 (Uq R R P5)) (rm 1 R (Ai (Bv (⟨Or.inr R,_,_,_,(Ad (rt R) Ah),(Ao R),?_⟩)))))))))
 rfl
def Qb (l:List A3):Nat→List (Int × A3)
 | 0=>[]
 | n+1=>match l[n]? with
  | some v=>((n:Int),v)::Qb l n
  | none=>[]
def Ais (c:An):Option (List (Int × A3)) :=
 if c.L.length≤1000000000000000000 then some (Qb c.L c.L.length) else none
theorem Qr {l:List A3} {n:Nat} (h:n<l.length):Qb l (n+1)=((n:Int),l[n])::Qb l n:=by
 simp [Qb,List.getElem?_eq_getElem h]
theorem V8 {l:List A3}:∀ n,n≤l.length→(Qb l n).length=n
 | 0,_=>rfl
 | n+1,h=>by
  rw [Qr (by omega),List.length_cons,V8 n (by omega)]
theorem Aep {c:An} {L:List (Int × A3)} (h:Ais c=some L):Aod Tryz.prog 235 [.cp [.sl c.L.length (c.L.flatMap A7)]] (L.map fun x=>(.one (Ii6 x.1),.agg (EL.el x.2))):=by
 unfold Ais at h
 obtain ⟨hlen,h⟩:=Cy h
 obtain rfl:=SJ h
 refine Ang Tryz.func235 R R (nt:=21) R (Nbl R) ?_
 intro l J Jx hJ hJx hs
 refine Atd ?_
 refine Alb (hJ 0) (by rfl) (fun w0 S0=>?_)
 refine sv R (Ci Sx R) (sv R (Ak Z4 R (.cp _) R) (sv R (Ax Vy R) (sv R (Nh R R) (rm 1 R (Ks ⟨R,R,Acy (Afi ?_)⟩)))))
 refine Apb ?_
 have hw0:wI ((c.L.length:Int)-1)=(c.L.length:Int)-1:=by
  show IntKind.i64.wrap _=_
  exact wrap_i64 (by omega) (by omega)
 refine Awe (G:=Nat × Int) (fun g=>[(0,.s (.one (.raw (.func (.yield l) #[] #[])))),(1,.s (.one (.cp [.sl c.L.length (c.L.flatMap A7)]))),(3,.s (.one (Ii6 g.2)))])
  (fun g=>J g.1) (fun g=>g.1≤c.L.length∧g.2=((c.L.length-g.1:Nat):Int)-1∧(Qb c.L c.L.length).drop g.1=Qb c.L (c.L.length-g.1))
  (fun g=>c.L.length-g.1) (0,wI ((c.L.length:Int)-1)) ⟨Nat.zero_le _,by simp only [Nat.sub_zero];exact hw0,rfl⟩ ⟨rfl,rfl,rfl,trivial⟩ rfl (fun _ _=>A5 rfl) ?_
 rintro ⟨k,i⟩ ⟨g1,g2,g3⟩
 simp only at g1 g2 g3
 refine Atd (Atd ?_)
 refine Alb (hJ k) (by rfl) (fun w0 S0=>?_)
 refine rm 1 R (sv R (He R R) (Ks ⟨R,R,Acy (Afi ?_)⟩))
 refine Aqa R (fun hc=>?_) (fun hc=>?_)
 rotate_left
 ·have hc':¬ 0≤i:=by simpa using hc
  refine Awn (And.intro (Or.inl R) (Or.inl ?_))
  show J k=J _
  rw [List.length_map,V8 _ (Nat.le_refl _)]
  congr 1
  omega
 have hge:0≤i:=by simpa using hc
 refine Atm (Afi ?_)
 obtain ⟨n,hn⟩:∃ n,c.L.length-k=n+1:=⟨c.L.length-k-1,by omega⟩
 have hi:i=(n:Int):=by omega
 subst hi
 have hnl:n<c.L.length:=by omega
 rw [hn,Qr hnl] at g3
 have hget:(Qb c.L c.L.length)[k]? = some ((n:Int),c.L[n]):=by
  have:=congrArg (fun l=>l[0]?) g3
  simpa using this
 have hdrop:(Qb c.L c.L.length).drop (k+1)=Qb c.L n:=by
  have:=congrArg (fun l=>l.drop 1) g3
  simpa [Nat.add_comm] using this
 have hu:idx c.L (n:Int)=some c.L[n]:=by
  unfold idx
  rw [if_pos (Int.natCast_nonneg n),Int.toNat_natCast,List.getElem?_eq_getElem hnl]
 generalize c.L[n]=v at hget hu
 refine Atd (Apb (Atd (Al5 ?_)))
 refine Ao1 (l1:=[_,_,_,_,_,_,_]) (hJ k) (by rfl) (fun w0 S0=>?_)
 refine rm 2 R (sv R (Ci Sx R) (sv R (Ak Z4 R (.cp _) R) (rm 1 R (sv R (Cb (f:=A7) Vy (fun _=>R) R R R R hu) ?_))))
 refine sv R (B3 (ys:=[Ii6 v.Ts,.sl v.Val.length (v.Val.flatMap eU8),.b v.Del]) Aek R (.cp _) R R) (Ks ⟨R,R,?_⟩)
 refine Aow rfl rfl (fun _ _ _ _ _=>rfl) hs rfl rfl rfl rfl (x:=.one (Ii6 (n:Int))) (y:=.agg (EL.el v)) (by rw [List.getElem?_map,hget];rfl) ?_ ?_
 rotate_left
 ·
  refine Ao1 (l1:=[_]) (l2:=[]) hJx (by rfl) (fun w0 S0=>?_)
  refine sv R (B2 R) (Ks ⟨R,R,Acy (Afi ?_)⟩)
  refine Aqa R (fun _=>?_) (fun hx=>Bool.noConfusion hx)
  exact Ay3 (And.intro (Or.inr R) (Or.inr R))
 refine Ao1 (l1:=[_]) (l2:=[]) (hJ (k+1)) (by rfl) (fun w0 S0=>?_)
 refine sv R (B2 R) (Ks ⟨R,R,Acy (Afi ?_)⟩)
 refine Aqa R (fun hx=>Bool.noConfusion hx) (fun _=>?_)
 refine Atm (Ay4 (Afi ?_))
 refine Alb (hJ (k+1)) (by rfl) (fun w0 S0=>?_)
 refine rm 1 R (sv R (Nh R R) (rm 1 R (Ks ⟨R,R,Acy (Afi ?_)⟩)))
 have hw:wI ((n:Int)-1)=(n:Int)-1:=by
  show IntKind.i64.wrap _=_
  exact wrap_i64 (by omega) (by omega)
 refine ⟨(k+1,wI ((n:Int)-1)),⟨?_,?_,?_⟩,⟨R,R,R,trivial⟩,R,?_⟩
 ·show k+1≤c.L.length
  omega
 ·show wI ((n:Int)-1)=((c.L.length-(k+1):Nat):Int)-1
  rw [hw];omega
 ·show List.drop (k+1) _=Qb c.L (c.L.length-(k+1))
  rw [hdrop]
  congr 1
  omega
 ·show c.L.length-(k+1)<c.L.length-k
  omega
def Gf (a0:A3):Option Bool :=
 if (decide (1≤a0.Ts)) then (if (decide (a0.Ts≤1099511627776)) then (if (decide ((a0.Val.length:Int)≤32)) then (if a0.Del then (some (!(decide (0<(a0.Val.length:Int))))) else (some true)) else (some false)) else (some false)) else (some false)
theorem Pw {a0:A3} {r:Bool} (h:Gf a0=some r):Bt Tryz.prog 183 [.agg (EL.el a0)] (·=.s (.one (.b r))):=by
 unfold Gf at h
 refine A4 Tryz.func183 R (nt:=28) R (Nbl R) ?_
 intro w0 S0
 refine csr (F0 R R (rm 1 R (Ai (csr (fl Vq ti3 R R R R R R (sv R (He R R) (rm 1 R (ssI 6 h R (fun h=>?_) (fun h=>?_)))))))))
 ·refine son R R R (sv R (Ac Vq R) (son R R R (sv R (Ak ti3 R (.lp _ _ _ R) R) (son R R R (sv R (Dj R R) (rm 2 R (ssI 11 h R (fun h=>?_) (fun h=>?_))))))))
  ·refine son R R R (sv R (Ac Aen R) (son R R R (sv R (Ak Nr R (.lp _ _ _ R) R) (son R R R (sv R (Ax X9 R) (son R R R (sv R (Dj R R) (rm 2 R (ssI 17 h R (fun h=>?_) (fun h=>?_))))))))))
   ·refine son R R R (sv R (Ac Ae8 R) (son R R R (sv R (Ak ti4 R (.lp _ _ _ R) R) (rm 1 R (ssI 20 h R (fun h=>?_) (fun h=>?_))))))
    ·refine son R R R (sv R (Ac Aen R) (son R R R (sv R (Ak Nr R (.lp _ _ _ R) R) (son R R R (sv R (Ax X9 R) (son R R R (sv R (C7 R R) (rm 1 R (son R R R (sv R (B2 R) (rm 2 R (Ai (Bv ?_)))))))))))))
     obtain rfl:=SJ h
     exact dnT R R R R
    ·refine rm 5 R (son R R R (sv R (B2 R) (rm 2 R (Ai (Bv ?_)))))
     obtain rfl:=SJ h
     exact dnT R R R R
   ·refine rm 3 R (Cl R R R (Cl R R R (Cl R R R (Cl R R R (rm 4 R (Ai (Bv ?_)))))))
    obtain rfl:=SJ h
    exact dnT R R R R
  ·refine rm 9 R (Cl R R R (Cl R R R (Cl R R R (Cl R R R (rm 4 R (Ai (Bv ?_)))))))
   obtain rfl:=SJ h
   exact dnT R R R R
 ·refine rm 14 R (Cl R R R (Cl R R R (Cl R R R (Cl R R R (rm 4 R (Ai (Bv ?_)))))))
  obtain rfl:=SJ h
  exact dnT R R R R
def Ij (s1:Int) (x1:Int × A3):Option ((Int) ⊕ (Nat × (Int))) :=
 (Gf x1.2).bind fun v2=>if (!v2) then (some (.inr (0,s1))) else (if (decide (s1≤x1.2.Ts)) then (some (.inr (0,s1))) else (some (.inl x1.2.Ts)))
def Lg (s3:Int):Option Bool :=
 some true
def K9 (s4:Int):Option Bool :=
 some false
def Ey (a0:An):Option Bool :=
 (Ais a0).bind fun L1=>(Qv Ij L1 1099511627777).bind fun e=>Acu Lg K9 (fun _ _=>none) e
theorem Ou {a0:An} {r:Bool} (h:Ey a0=some r):Bt Tryz.prog 108 [.agg [.sl a0.L.length (a0.L.flatMap A7)]] (·=.s (.one (.b r))):=by
 unfold Ey at h
 refine Wj Tryz.func108 R (nt:=21) R (Nbl R) ?_
 intro w0 S0
 refine Z5 (I1 R (fun w0 S0 X0 m0 H0=>?_))
 refine Akg R R R (Bq R zi4 (Ai (Z5 (I1 R (fun w0 S0 X0 m0 H0=>?_)))))
 refine Bq R zi3 (sst sz3 R R R R R (Ai (Z5 (Z5 (I1 R (fun w0 S0 X0 m0 H0=>?_))))))
 refine sv R (B3 (ys:=[.sl a0.L.length (a0.L.flatMap A7)]) Oh R (.cp _) R R) (Bb R Aq2 (Aa R Af) (Ao R) Ln (Ai (Aa2 ?_)))
 obtain ⟨L1,hL1,h⟩:=Ae h
 obtain ⟨e1,he1,h⟩:=Ae h
 refine Aef Ij L1 (fun x1=>.one (Ii6 x1.1)) (fun x1=>.agg (EL.el x1.2)) (fun s1=>[.box [.b false],.box [Ii6 s1]]) 1099511627777 he1 R Aqt R (Aep hL1) R R R (fun _=>R) (fun _=>Ap R) ?_ ?_ ?_ ?_
 ·clear h
  intro x1 s1 y1 l h w0 S0 X0 H0
  unfold Ij at h
  refine I1 R (fun w0 S0 X0 m0 H0=>?_)
  refine Bq R Afj (sst Ah3 R R R R R (Ai (fun w0 S0 X0 H0=>?_)))
  refine Aa2 (Z5 (Z5 (I1 R (fun w0 S0 X0 m0 H0=>?_))))
  refine sv R (Bf Aek R (.lp _ _ _ R) (Nbl R)) ?_
  obtain ⟨v2,hv2,h⟩:=Ae h
  refine Bb R As1 (Aa R Af) (Ao R) (Pw hv2) (sv R (B2 R) (rm 1 R (ssI 13 h R (fun h=>?_) (fun h=>?_))))
  ·refine rm 5 R (Ai (Aqs R (fun _=>?_) (fun hx=>Bool.noConfusion hx)))
   refine Z5 (I1 R (fun w0 S0 X0 m0 H0=>?_))
   refine sst sz4 R R R R R (Ai (Arh (Ag (Ay ?_))))
   obtain rfl:=SJ h
   exact ⟨s1,_,R,R⟩
  ·refine son R R R (sv R (Ac Vq R) (son R R R (sv R (Ak ti3 R (.lp _ _ _ R) R) (son R R R (sv R (Ak ti3 R (.lp _ _ _ R) R) (son R R R (sv R (He R R) (rm 1 R (Ai (Aqs R (fun hc=>?_) (fun hc=>?_)))))))))))
   ·replace h:=Va hc h
    clear hc
    refine Z5 (I1 R (fun w0 S0 X0 m0 H0=>?_))
    refine sst sz4 R R R R R (Ai (Arh (Ag (Ay ?_))))
    obtain rfl:=SJ h
    exact ⟨s1,_,R,R⟩
   ·replace h:=Vr hc h
    clear hc
    refine Asn (Ab (I1 R (fun w0 S0 X0 m0 H0=>?_)))
    refine fl Vq ti3 R R R R R R (sst sz3 R R R R R (Ks (Ar ?_)))
    obtain rfl:=SJ h
    exact ⟨x1.2.Ts,_,R,R⟩
 ·intro s3 hs
  obtain rfl:=hs
  replace h:Lg s3=some r:=h
  unfold Lg at h
  refine Ar (Ab (Z5 (I1 R (fun w0 S0 X0 m0 H0=>?_))))
  refine sst sz4 R R R R R (Ai (Arh ?_))
  obtain rfl:=SJ h
  exact dn (Ad (Ag6.one _ _ _ _ _ ti4 R (.lp _ _ _ R) R) Ah) (Ao R) R
 ·intro s4 hs
  obtain rfl:=hs
  replace h:K9 s4=some r:=h
  unfold K9 at h
  refine Ay (Ag ?_)
  obtain rfl:=SJ h
  exact dn (Ad (Ag6.one _ _ _ _ _ ti4 R (.lp _ _ _ R) R) Ah) (Ao R) R
 ·intro id s hs
  obtain rfl:=hs
  replace h:none=some r:=h
  cases h
def Oc (s1:Int) (x1:Int × A3):Option ((Int) ⊕ (Nat × (Int))) :=
 some (.inr (0,x1.2.Ts))
def N4 (s2:Int):Option Int :=
 some 0
def Od (s3:Int):Option Int :=
 some s3
def Jn (a0:An):Option Int :=
 (Ais a0).bind fun L1=>(Qv Oc L1 0).bind fun e=>Acu N4 Od (fun _ _=>none) e
theorem Rt {a0:An} {r:Int} (h:Jn a0=some r):Bt Tryz.prog 109 [.agg [.sl a0.L.length (a0.L.flatMap A7)]] (·=.s (.one (Ii6 r))):=by
 unfold Jn at h
 refine Wj Tryz.func109 R (nt:=11) R (Nbl R) ?_
 intro w0 S0
 refine Z5 (I1 R (fun w0 S0 X0 m0 H0=>?_))
 refine Akg R R R (Bq R zi3 (Ai (Z5 (Z5 (I1 R (fun w0 S0 X0 m0 H0=>?_))))))
 refine sv R (B3 (ys:=[.sl a0.L.length (a0.L.flatMap A7)]) Oh R (.cp _) R R) (Bb R Aq2 (Aa R Af) (Ao R) Ln (Ai (Aa2 ?_)))
 obtain ⟨L1,hL1,h⟩:=Ae h
 obtain ⟨e1,he1,h⟩:=Ae h
 refine Aef Oc L1 (fun x1=>.one (Ii6 x1.1)) (fun x1=>.agg (EL.el x1.2)) (fun s1=>[.box [Ii6 s1]]) 0 he1 R Aqt R (Aep hL1) R R R (fun _=>R) (fun _=>Ap R) ?_ ?_ ?_ ?_
 ·clear h
  intro x1 s1 y1 l h w0 S0 X0 H0
  unfold Oc at h
  refine I1 R (fun w0 S0 X0 m0 H0=>?_)
  refine Bq R Afj (sst Ah3 R R R R R (Ai (fun w0 S0 X0 H0=>?_)))
  refine Aa2 (Z5 (I1 R (fun w0 S0 X0 m0 H0=>?_)))
  refine fl Vq ti3 R R R R R R (sst sz3 R R R R R (Ai (Arh (Ay ?_))))
  obtain rfl:=SJ h
  exact ⟨x1.2.Ts,_,R,R⟩
 ·intro s2 hs
  obtain rfl:=hs
  replace h:N4 s2=some r:=h
  unfold N4 at h
  refine Ar (Ab (Z5 (I1 R (fun w0 S0 X0 m0 H0=>?_))))
  refine sst sz3 R R R R R (Ai (Arh ?_))
  obtain rfl:=SJ h
  exact dn (Ad (Ag6.one _ _ _ _ _ ti3 R (.lp _ _ _ R) R) Ah) (Ao R) R
 ·intro s3 hs
  obtain rfl:=hs
  replace h:Od s3=some r:=h
  unfold Od at h
  refine Ay (Ag ?_)
  obtain rfl:=SJ h
  exact dn (Ad (Ag6.one _ _ _ _ _ ti3 R (.lp _ _ _ R) R) Ah) (Ao R) R
 ·intro id s hs
  obtain rfl:=hs
  replace h:none=some r:=h
  cases h
def Ow (b2:Unit):Option Bool :=
 some true
def G7 (a0:B1) (s3:Int):Option (LR (Int) (Unit) (Bool)) :=
 if (decide (s3<(a0.Chains.length:Int))) then ((idx a0.Chains s3).bind fun u4=>if (decide ((u4.L.length:Int)=0)) then (some (.ret false)) else ((Ey u4).bind fun v5=>if (!v5) then (some (.ret false)) else ((Jn u4).bind fun v6=>if (decide (a0.Ts<v6)) then (some (.ret false)) else (some (.cont (wI (s3+1))))))) else (some (.brk ()))
def Mn (a0:B1) (b1:Unit):Option Bool :=
 (Lj (G7 a0) fuel 0).bind fun x=>match x with | .inl r=>some r | .inr e7=>Ow e7
def C3 (a0:B1):Option Bool :=
 if (decide (a0.Ts<0)) then (some false) else (if (decide (1099511627776<a0.Ts)) then (some false) else (if (decide (128<(a0.Keys.length:Int))) then (some false) else (if (!decide ((a0.Chains.length:Int)=(a0.Keys.length:Int))) then (some false) else ((Ei a0.Keys).bind fun v8=>if (!v8) then (some false) else (Mn a0 ())))))
theorem Kv {a0:B1} {r:Bool} (h:C3 a0=some r):Bt Tryz.prog 45 [.agg (EL.el a0)] (·=.s (.one (.b r))):=by
 unfold C3 at h
 refine A4 Tryz.func45 R (nt:=58) R (Nbl R) ?_
 intro w0 S0
 refine csr (F0 R R (rm 1 R (Ai (Br (Br (Hp (Unit) (fun b1=>[(1,.s (.one (.lp 0 0)))]) (fun b1=>[.box (EL.el a0)]) (fun b1=>Mn a0 b1=some r) (fun _ _=>A5 R) (fun _ _=>Ap R) (fun _ _=>Nbl R) (fun b1 h=>?_) ?_))))))
 ·unfold Mn at h
  refine Br (csr (fl Qj Ahz R R R R R R (sv R (Ax Am4 R) (rm 1 R (Ai (Dt (Unit) (fun b2=>[]) (fun b2=>[.box (EL.el a0)]) (fun b2=>Ow b2=some r) (fun _ _=>A5 R) (fun _ _=>Ap R) (fun _ _=>Nbl R) (fun b2 h=>?_) ?_))))))
  ·unfold Ow at h
   refine csr (rm 1 R (Ai (Bv ?_)))
   obtain rfl:=SJ h
   exact dnT R R R R
  ·skip
   refine Bu ?_
   obtain ⟨x3,hx3,ho3⟩:=Ae h
   refine B6 (G:=Nat × (Int)) (fun g=>[(1,.s (.one (.lp 0 0))),(35,.s (.one (.sl a0.Chains.length (a0.Chains.flatMap Aw)))),(36,.s (.one (Ii6 (a0.Chains.length:Int)))),(37,.s (.one (Ii6 g.2)))]) (fun g=>[.box (EL.el a0)]) (fun g=>Lj (G7 a0) g.1 g.2=some x3) (fun g=>g.1) (fuel,0) hx3 ⟨R,R,R,R,trivial⟩ [] R (fun _ _=>A5 R) (fun _ _=>Ap R) (fun _ _=>Nbl R) ?_
   clear hx3 h
   rintro ⟨n3,s3⟩ h
   obtain ⟨n3,y3,rfl,h,hk3⟩:=Ff h
   unfold G7 at h
   refine csr (sv R (Bw R R) (Ai (Br (ccI h R (fun h=>?_) (fun h=>?_)))))
   ·refine Bj (Ab (Br (Bu (Br (As ?_)))))
    obtain ⟨u4,hu4,h⟩:=Ae h
    refine sv R (Cb (f:=Aw) Am4 (fun _=>R) R R R R hu4) ?_
    refine sv R (B3 (ys:=[.sl u4.L.length (u4.L.flatMap A7)]) Oh R (.cp _) R R) (Bq R X5 (sst X8 R R R R R (Ai (Br ?_))))
    refine Z9 mixed (by kernel_rfl) ?_
    refine dv R (Ac Sx R) (dv R (Ak Z4 R (.lp _ _ _ R) R) (dv R (Ax Vy R) (dv R (B5 R R) (dv R (Bc R) (Y1 45 R (fun hc=>?_) (fun hc=>?_))))))
    ·replace h:=Va hc h
     clear hc
     refine O2 R R R R (O2 R R R R (O2 R R R R (dv R (Hv R R) (dv R (Bc R) (O2 R R R R (O2 R R R R (O2 R R R R (O2 R R R R (O2 R R R R (dv R (Hv R R) (Adw (Ab (Cp R (fun _=>?_) (fun hx=>Bool.noConfusion hx))))))))))))))
     refine csr (rm 1 R (Ai (Bv (Ay (Ag (Ag (Ay (Ag ?_))))))))
     obtain rfl:=SJ h
     obtain rfl:Sum.inl _=x3:=hk3
     replace ho3:some _=some _:=ho3
     obtain rfl:=Option.some.inj ho3
     exact dnT R R R R
    ·replace h:=Vr hc h
     clear hc
     refine dvg R R R (Bf Oh R (.lp _ _ _ R) (Nbl R)) ?_
     obtain ⟨v5,hv5,h⟩:=Ae h
     refine ddg R R R (C9 Ap6 (Aa R Af) R (Ou hv5)) (dvg R R R (B2 R) (dv R (Mg R R) (dv R (Bc R) (Y1 50 R (fun hc=>?_) (fun hc=>?_)))))
     ·replace h:=Va hc h
      clear hc
      refine O2 R R R R (O2 R R R R (O2 R R R R (O2 R R R R (O2 R R R R (dv R (Hv R R) (Adw (Ab (Cp R (fun _=>?_) (fun hx=>Bool.noConfusion hx)))))))))
      refine csr (rm 1 R (Ai (Bv (Ay (Ag (Ag (Ay (Ag ?_))))))))
      obtain rfl:=SJ h
      obtain rfl:Sum.inl _=x3:=hk3
      replace ho3:some _=some _:=ho3
      obtain rfl:=Option.some.inj ho3
      exact dnT R R R R
     ·replace h:=Vr hc h
      clear hc
      refine dvg R R R (Bf Oh R (.lp _ _ _ R) (Nbl R)) ?_
      obtain ⟨v6,hv6,h⟩:=Ae h
      refine ddg R R R (C9 Atg (Aa R Af) R (Rt hv6)) (dvg R R R (Ac Sb R) (dvg R R R (Ak ti3 R (.lp _ _ _ R) R) (dvg R R R (C7 R R) (dv R (Mg R R) (Adw (Ab (ccI h R (fun h=>?_) (fun h=>?_))))))))
      ·refine csr (rm 1 R (Ai (Bv (Ay (Ag (Ag (Ay (Ag ?_))))))))
       obtain rfl:=SJ h
       obtain rfl:Sum.inl _=x3:=hk3
       replace ho3:some _=some _:=ho3
       obtain rfl:=Option.some.inj ho3
       exact dnT R R R R
      ·refine Bj (Ar (Ab (As (sv R (Bs R R) (rm 1 R (Ai ?_))))))
       obtain rfl:=SJ h
       exact ⟨(n3,(wI (s3+1))),_,hk3,⟨R,R,R,R,trivial⟩,R,Nat.lt_succ_self _⟩
   ·refine Di (Au (Au (Bn (Ab ?_))))
    obtain rfl:=SJ h
    obtain rfl:_=x3:=hk3
    exact ⟨(),_,ho3,trivial,R⟩
 ·skip
  refine As (fl Sb ti3 R R R R R R (sv R (Bw R R) (rm 1 R (ssI 8 h R (fun h=>?_) (fun h=>?_)))))
  ·refine rm 25 R (Ai (Cp R (fun _=>?_) (fun hx=>Bool.noConfusion hx)))
   refine csr (rm 1 R (Ai (Bv (Ag ?_))))
   obtain rfl:=SJ h
   exact dnT R R R R
  ·refine son R R R (sv R (Ac Sb R) (son R R R (sv R (Ak ti3 R (.lp _ _ _ R) R) (son R R R (sv R (C7 R R) (rm 2 R (ssI 13 h R (fun h=>?_) (fun h=>?_))))))))
   ·refine rm 20 R (Ai (Cp R (fun _=>?_) (fun hx=>Bool.noConfusion hx)))
    refine csr (rm 1 R (Ai (Bv (Ag ?_))))
    obtain rfl:=SJ h
    exact dnT R R R R
   ·refine son R R R (sv R (Ac Q4 R) (son R R R (sv R (Ak Abm R (.lp _ _ _ R) R) (son R R R (sv R (Ax Sn R) (son R R R (sv R (C7 R R) (rm 2 R (ssI 19 h R (fun h=>?_) (fun h=>?_))))))))))
    ·refine rm 14 R (Ai (Cp R (fun _=>?_) (fun hx=>Bool.noConfusion hx)))
     refine csr (rm 1 R (Ai (Bv (Ag ?_))))
     obtain rfl:=SJ h
     exact dnT R R R R
    ·refine son R R R (sv R (Ac Qj R) (son R R R (sv R (Ak Ahz R (.lp _ _ _ R) R) (son R R R (sv R (Ax Am4 R) (son R R R (sv R (Ac Q4 R) (son R R R (sv R (Ak Abm R (.lp _ _ _ R) R) (son R R R (sv R (Ax Sn R) (son R R R (sv R (Dy R R) (rm 2 R (ssI 28 h R (fun h=>?_) (fun h=>?_))))))))))))))))
     ·refine rm 5 R (Ai (Cp R (fun _=>?_) (fun hx=>Bool.noConfusion hx)))
      refine csr (rm 1 R (Ai (Bv (Ag ?_))))
      obtain rfl:=SJ h
      exact dnT R R R R
     ·refine son R R R (sv R (Ac Q4 R) (son R R R (sv R (Ak Abm R (.lp _ _ _ R) R) (son R R R ?_))))
      obtain ⟨v8,hv8,h⟩:=Ae h
      refine Bb R Atf (Aa R Af) (Ao R) (O9 hv8) (son R R R (sv R (B2 R) (rm 1 R (Ai (ccI h R (fun h=>?_) (fun h=>?_))))))
      ·refine csr (rm 1 R (Ai (Bv (Ag ?_))))
       obtain rfl:=SJ h
       exact dnT R R R R
      ·refine Bj (Ab ?_)
       exact ⟨(),_,h,⟨R,trivial⟩,R⟩
def Ew (a0:Bi):Option Bool :=
 if (decide ((a0.Lo.length:Int)≤17)) then (if (decide ((a0.Hi.length:Int)≤17)) then (if a0.Open then (some (!(decide (0<(a0.Hi.length:Int))))) else (some true)) else (some false)) else (some false)
theorem Pq {a0:Bi} {r:Bool} (h:Ew a0=some r):Bt Tryz.prog 71 [.agg (EL.el a0)] (·=.s (.one (.b r))):=by
 unfold Ew at h
 refine A4 Tryz.func71 R (nt:=24) R (Nbl R) ?_
 intro w0 S0
 refine csr (F0 R R (rm 1 R (Ai (csr (fl Aak Nr R R R R R R (sv R (Ax X9 R) (sv R (Dj R R) (rm 1 R (ssI 7 h R (fun h=>?_) (fun h=>?_))))))))))
 ·refine son R R R (sv R (Ac Xl R) (son R R R (sv R (Ak Nr R (.lp _ _ _ R) R) (son R R R (sv R (Ax X9 R) (son R R R (sv R (Dj R R) (rm 2 R (ssI 13 h R (fun h=>?_) (fun h=>?_))))))))))
  ·refine son R R R (sv R (Ac Agy R) (son R R R (sv R (Ak ti4 R (.lp _ _ _ R) R) (rm 1 R (ssI 16 h R (fun h=>?_) (fun h=>?_))))))
   ·refine son R R R (sv R (Ac Xl R) (son R R R (sv R (Ak Nr R (.lp _ _ _ R) R) (son R R R (sv R (Ax X9 R) (son R R R (sv R (C7 R R) (rm 1 R (son R R R (sv R (B2 R) (rm 2 R (Ai (Bv ?_)))))))))))))
    obtain rfl:=SJ h
    exact dnT R R R R
   ·refine rm 5 R (son R R R (sv R (B2 R) (rm 2 R (Ai (Bv ?_)))))
    obtain rfl:=SJ h
    exact dnT R R R R
  ·refine rm 3 R (Cl R R R (Cl R R R (Cl R R R (Cl R R R (rm 4 R (Ai (Bv ?_)))))))
   obtain rfl:=SJ h
   exact dnT R R R R
 ·refine rm 9 R (Cl R R R (Cl R R R (Cl R R R (Cl R R R (rm 4 R (Ai (Bv ?_)))))))
  obtain rfl:=SJ h
  exact dnT R R R R
def Fu (a0:Bi) (b1:Bool):Option Bool :=
 if b1 then (some true) else ((Fw a0.Hi a0.Lo).bind fun v2=>some (decide (v2≤0)))
def G1 (a0:Bi):Option Bool :=
 if a0.Open then (some false) else (if (decide ((a0.Lo.length:Int)=0)) then (if (decide ((a0.Hi.length:Int)=1)) then ((idx a0.Hi 0).bind fun u3=>Fu a0 (decide ((u3.toBitVec.toNat:Int)=(0:Int)))) else (Fu a0 false)) else (Fu a0 false))
theorem Se {a0:Bi} {r:Bool} (h:G1 a0=some r):Bt Tryz.prog 72 [.agg (EL.el a0)] (·=.s (.one (.b r))):=by
 unfold G1 at h
 refine A4 Tryz.func72 R (nt:=32) R (Nbl R) ?_
 intro w0 S0
 refine csr (F0 R R (rm 1 R (Ai (Br (csr (fl Agy ti4 R R R R R R (Ai (ccI h R (fun h=>?_) (fun h=>?_)))))))))
 ·refine csr (rm 1 R (Ai (Bv (Ag ?_))))
  obtain rfl:=SJ h
  exact dnT R R R R
 ·refine Bj (Ab (Br (Dt (Bool) (fun b1=>[(1,.s (.one (.lp 0 0))),(3,.s (.one (.b b1)))]) (fun b1=>[.box (EL.el a0)]) (fun b1=>Fu a0 b1=some r) (fun _ _=>A5 R) (fun _ _=>Ap R) (fun _ _=>Nbl R) (fun b1 h=>?_) ?_)))
  ·unfold Fu at h
   refine csr (rm 2 R (ssI 24 h R (fun h=>?_) (fun h=>?_)))
   ·refine rm 8 R (Ai (Bv ?_))
    obtain rfl:=SJ h
    exact dnT R R R R
   ·refine son R R R (sv R (Ac Xl R) (son R R R (sv R (Ak Nr R (.lp _ _ _ R) R) (son R R R (sv R (Ac Aak R) (son R R R (sv R (Ak Nr R (.lp _ _ _ R) R) (son R R R ?_))))))))
    obtain ⟨v2,hv2,h⟩:=Ae h
    refine Bb R Amg (Aa R (Aa R Af)) (Ao R) (Md hv2) (son R R R (sv R (Dj R R) (rm 2 R (Ai (Bv ?_)))))
    obtain rfl:=SJ h
    exact dnT R R R R
  ·skip
   refine As (fl Aak Nr R R R R R R (sv R (Ax X9 R) (sv R (B5 R R) (rm 1 R (ssI 10 h R (fun h=>?_) (fun h=>?_))))))
   ·refine son R R R (sv R (Ac Xl R) (son R R R (sv R (Ak Nr R (.lp _ _ _ R) R) (son R R R (sv R (Ax X9 R) (son R R R (sv R (B5 R R) (rm 2 R (ssI 16 h R (fun h=>?_) (fun h=>?_))))))))))
    ·refine son R R R (sv R (Ac Xl R) (son R R R (sv R (Ak Nr R (.lp _ _ _ R) R) (son R R R ?_))))
     obtain ⟨u3,hu3,h⟩:=Ae h
     refine sv R (Cb (f:=eU8) X9 (fun _=>R) R R R R hu3) ?_
     refine son R R R (sv R (Ak ti5 R (.cp _) R) (son R R R (sv R (B5 R R) (rm 2 R (Ai ?_)))))
     exact ⟨(decide ((u3.toBitVec.toNat:Int)=(0:Int))),_,h,⟨R,R,trivial⟩,R⟩
    ·refine rm 7 R (Ai ?_)
     exact ⟨false,_,h,⟨R,R,trivial⟩,R⟩
   ·refine rm 13 R (Ai ?_)
    exact ⟨false,_,h,⟨R,R,trivial⟩,R⟩
def Df (a0:A0):Option Bool :=
 if (decide (0≤a0.Tx)) then ((Ew a0.Rng).bind fun v1=>if v1 then ((G1 a0.Rng).bind fun v2=>some (!v2)) else (some false)) else (some false)
theorem O7 {a0:A0} {r:Bool} (h:Df a0=some r):Bt Tryz.prog 184 [.agg (EL.el a0)] (·=.s (.one (.b r))):=by
 unfold Df at h
 refine A4 Tryz.func184 R (nt:=17) R (Nbl R) ?_
 intro w0 S0
 refine csr (F0 R R (rm 1 R (Ai (csr (fl Abc ti3 R R R R R R (sv R (He R R) (rm 1 R (ssI 6 h R (fun h=>?_) (fun h=>?_)))))))))
 ·refine son R R R (sv R (Ac W4 R) (son R R R (ld Abw R R R R (son R R R ?_))))
  obtain ⟨v1,hv1,h⟩:=Ae h
  refine Bb R Ax7 (Aa R Af) (Ao R) (Pq hv1) (rm 2 R (ssI 11 h R (fun h=>?_) (fun h=>?_)))
  ·refine son R R R (sv R (Ac W4 R) (son R R R (ld Abw R R R R (son R R R ?_))))
   obtain ⟨v2,hv2,h⟩:=Ae h
   refine Bb R Axy (Aa R Af) (Ao R) (Se hv2) (son R R R (sv R (B2 R) (rm 2 R (Ai (Bv ?_)))))
   obtain rfl:=SJ h
   exact dnT R R R R
  ·refine rm 6 R (Ai (Bv ?_))
   obtain rfl:=SJ h
   exact dnT R R R R
 ·refine rm 11 R (Ai (Bv ?_))
  obtain rfl:=SJ h
  exact dnT R R R R
def Ia (a0:A0):Option Cj :=
 some (Cj.mk a0.Tx a0.Rng.Lo a0.Rng.Hi a0.Rng.Open)
theorem Py {a0:A0} {r:Cj} (h:Ia a0=some r):Bt Tryz.prog 236 [.agg (EL.el a0)] (·=.s (.agg (EL.el r))):=by
 unfold Ia at h
 refine A4 Tryz.func236 R (nt:=17) R (Nbl R) ?_
 intro w0 S0
 refine csr (F0 R R (Bq R Asw (Ai (csr (fl Abc ti3 R R R R R R (sv R (Ac W4 R) (fl Aak Nr R R R R R R (sv R (Yn (l:=a0.Rng.Lo) Tryz.underlying56 Tryz.underlying5 Tryz.underlying9 R R R) (sv R (Ac W4 R) (fl Xl Nr R R R R R R (sv R (Yn (l:=a0.Rng.Hi) Tryz.underlying56 Tryz.underlying5 Tryz.underlying9 R R R) (sv R (Ac W4 R) (fl Agy ti4 R R R R R R (sv R (A6 Asw Avo (Av R (Av R (Av R (Av R Az)))) (.cons _ _ _ _ _ _ _ R R (Nbl R) (.cons _ _ _ _ _ _ _ R R (Nbl R) (.cons _ _ _ _ _ _ _ R R (Nbl R) (.cons _ _ _ _ _ _ _ R R (Nbl R) (.nil _)))))) (sst Avs R R R R R (Ai (Bv ?_)))))))))))))))))
 obtain rfl:=SJ h
 exact dnA R Awi R (.lp _ _ _ R) (Nbl R) R R
def Mp (b1:(List (Cj × Int))):Option (List (Cj × Int)) :=
 some b1
def E6 (a0:List A0) (s2:Int × (List (Cj × Int))):Option (LB (Int × (List (Cj × Int))) ((List (Cj × Int)))) :=
 if (decide (s2.1<(a0.length:Int))) then ((idx a0 s2.1).bind fun u3=>(Ia u3).bind fun v4=>some (.cont ((wI (s2.1+1)),(Up s2.2 v4 s2.1)))) else (some (.brk s2.2))
def G2 (a0:List A0):Option (List (Cj × Int)) :=
 (C5 (E6 a0) fuel (0,([]:List (Cj × Int)))).bind fun e5=>Mp e5
theorem Qq {a0:List A0} {r:(List (Cj × Int))} (h:G2 a0=some r):De Tryz.prog 185 [] [.one (.sl a0.length (a0.flatMap Aq))] (fun y m'=>y=.s (.one (.mp 0 0))∧m'=[T4 D3 r]):=by
 unfold G2 at h
 refine Da Tryz.func185 R (nt:=20) R (Nbl R) ?_
 intro w0 S0 X0 H0
 refine csr (rm 1 R (Ai (csr (Ann D3 R (rm 1 R (Ai (Br (csr (rm 1 R (sv R (Ax Aat R) (rm 1 R (Ai (Dt ((List (Cj × Int))) (fun b1=>[(3,.s (.one (.mp 0 0)))]) (fun b1=>[T4 D3 b1]) (fun b1=>Mp b1=some r) (fun _ _=>A5 R) (fun _ _=>Ap R) (fun _ _=>Nbl R) (fun b1 h=>?_) ?_)))))))))))))
 ·unfold Mp at h
  refine csr (rm 2 R (Ai (Bv ?_)))
  obtain rfl:=SJ h
  exact ⟨Or.inr R,_,[0],[.one (.mp 0 0)],[T4 D3 b1],(Ad (rt R) Ah),R,R,⟨by decide,R⟩,R,R,⟨R,R⟩⟩
 ·skip
  refine Bu ?_
  obtain ⟨x2,hx2,ho2⟩:=Ae h
  refine B6 (G:=Nat × (Int × (List (Cj × Int)))) (fun g=>[(3,.s (.one (.mp 0 0))),(7,.s (.one (.sl a0.length (a0.flatMap Aq)))),(8,.s (.one (Ii6 (a0.length:Int)))),(9,.s (.one (Ii6 g.2.1)))]) (fun g=>[T4 D3 g.2.2]) (fun g=>C5 (E6 a0) g.1 g.2=some x2) (fun g=>g.1) (fuel,(0,([]:List (Cj × Int)))) hx2 ⟨R,R,R,R,trivial⟩ [] R (fun _ _=>A5 R) (fun _ _=>Ap R) (fun _ _=>Nbl R) ?_
  clear hx2 h
  rintro ⟨n2,s2⟩ h
  obtain ⟨n2,y2,rfl,h,hk2⟩:=C8 h
  unfold E6 at h
  refine csr (sv R (Bw R R) (Ai (Br (ccI h R (fun h=>?_) (fun h=>?_)))))
  ·refine Bj (Ab (Br (Bu (csr (sv R (Bc R) ?_)))))
   obtain ⟨u3,hu3,h⟩:=Ae h
   refine sv R (Cb (f:=Aq) Aat (fun _=>R) R R R R hu3) ?_
   refine sv R (B3 (ys:=[Ii6 u3.Tx,.sl u3.Rng.Lo.length (u3.Rng.Lo.flatMap eU8),.sl u3.Rng.Hi.length (u3.Rng.Hi.flatMap eU8),.b u3.Rng.Open]) Aah R (.cp _) R R) (Bq R Ail (rm 1 R (sst Aj1 R R R R R (Ai (As (rm 1 R (sv R (Bf Aah R (.lp _ _ _ R) (Nbl R)) ?_)))))))
   obtain ⟨v4,hv4,h⟩:=Ae h
   refine Bb R Aug (Aa R Af) (Ao R) (Py hv4) (rm 1 R (Aqg (M:=s2.2) (k:=v4) (i:=s2.1) Asr Tryz.underlying299 R R R R (P4 [T4 D3 (Up s2.2 v4 s2.1),.box (EL.el u3)] R (Ks (Ar (Ab (As (sv R (Bs R R) (rm 1 R (Ai ?_))))))))))
   obtain rfl:=SJ h
   exact ⟨(n2,((wI (s2.1+1)),(Up s2.2 v4 s2.1))),_,hk2,⟨R,R,R,R,trivial⟩,R,Nat.lt_succ_self _⟩
  ·refine Di (Au (Au (Bn (Ab ?_))))
   obtain rfl:=SJ h
   obtain rfl:_=x2:=hk2
   exact ⟨s2.2,_,ho2,⟨R,trivial⟩,R⟩
def Ir (a0:Bz) (b1:Unit):Option Bool :=
 if (decide ((a0.L.length:Int)≤128)) then ((G2 a0.L).bind fun v3=>some (decide ((v3.length:Int)=(a0.L.length:Int)))) else (some false)
def Ga (a0:Bz) (s4:Int):Option (LR (Int) (Unit) (Bool)) :=
 if (decide (s4<(a0.L.length:Int))) then ((idx a0.L s4).bind fun u5=>(Df u5).bind fun v6=>if (!v6) then (some (.ret false)) else (some (.cont (wI (s4+1))))) else (some (.brk ()))
def F1 (a0:Bz):Option Bool :=
 (Lj (Ga a0) fuel 0).bind fun x=>match x with | .inl r=>some r | .inr e7=>Ir a0 e7
theorem Rm {a0:Bz} {r:Bool} (h:F1 a0=some r):Bt Tryz.prog 110 [.agg [.sl a0.L.length (a0.L.flatMap Aq)]] (·=.s (.one (.b r))):=by
 unfold F1 at h
 refine A4 Tryz.func110 R (nt:=30) R (Nbl R) ?_
 intro w0 S0
 refine csr (F0 R R (rm 1 R (Ai (Br (csr (fl Un Ah6 R R R R R R (sv R (Ax Aat R) (rm 1 R (Ai (Dt (Unit) (fun b1=>[(1,.s (.one (.lp 0 0)))]) (fun b1=>[.box [.sl a0.L.length (a0.L.flatMap Aq)]]) (fun b1=>Ir a0 b1=some r) (fun _ _=>A5 R) (fun _ _=>Ap R) (fun _ _=>Nbl R) (fun b1 h=>?_) ?_))))))))))
 ·unfold Ir at h
  refine Br (Z0 ?_)
  rcases Bool.eq_false_or_eq_true (decide ((a0.L.length:Int)≤128)) with hg2 | hg2
  ·replace h:=Va hg2 h
   obtain ⟨v3,hv3,h⟩:=Ae h
   refine Ki [7] [0,1,3,7,15,31,63,127,255,31,543,1567,4095,8191,16383] [[.box [.sl a0.L.length (a0.L.flatMap Aq)],.hole],[.box [.sl a0.L.length (a0.L.flatMap Aq)],T4 D3 v3]] (by kernel_rfl) mixed (by kernel_rfl) (by decide) R R R R ?_
   refine ev (Bg 0 R R) R R (Ac Un R) (ev (Bg 0 R R) R R (Ak Ah6 R (.lp _ _ _ R) R) (ev (Bg 0 R R) R R (Ax Aat R) (ev (Bg 0 R R) R R (Dj R R) (ev (Bg 0 R R) R R (Bc R) (Apo 20 R (fun _=>?_) (fun hx=>Bool.noConfusion (hg2.symm.trans hx)))))))
   refine evg (Bg 0 R R) R R R R (Ac Un R) (evg (Bg 0 R R) R R R R (Ak Ah6 R (.lp _ _ _ R) R) (eeg (x:=.s (.one (.mp 0 1))) 0 R R R R R R R (fun ζ=>?_) ?_))
   ·refine Acd 1 R Aub (.func _) (Aa R Af) (Qq hv3) R R R ?_
    exact Ta
   refine evg (Bg 1 R R) R R R R (Ah4 (e:=D3) (M:=v3) Tryz.underlying299 R R) (evg (Ca (md:=[.box [.sl a0.L.length (a0.L.flatMap Aq)],.dead]) ⟨⟨R,⟨trivial,trivial⟩⟩,⟨⟨R,⟨trivial,trivial⟩⟩,trivial⟩⟩) R R R R (Ac Un R) (evg (Ca (md:=[.box [.sl a0.L.length (a0.L.flatMap Aq)],.dead]) ⟨⟨R,⟨trivial,trivial⟩⟩,⟨⟨R,⟨trivial,trivial⟩⟩,trivial⟩⟩) R R R R (Ak Ah6 R (.lp _ _ _ R) R) (evg (Ca (md:=[.box [.sl a0.L.length (a0.L.flatMap Aq)],.dead]) ⟨⟨R,⟨trivial,trivial⟩⟩,⟨⟨R,⟨trivial,trivial⟩⟩,trivial⟩⟩) R R R R (Ax Aat R) (evg (Bg 1 R R) R R R R (B5 R R) (ev (Bg 1 R R) R R (Hv R R) (ev (Bg 1 R R) R R (Ko R) (Abk (Ab (Bv ?_)))))))))
   obtain rfl:=SJ h
   exact dnT R R R R
  ·replace h:=Vr hg2 h
   refine Ki [] [0,1,3,7,15,31,63,127,255,31,543,1567,4095,8191,16383] [[.box [.sl a0.L.length (a0.L.flatMap Aq)],.hole]] (by kernel_rfl) mixed (by kernel_rfl) (by decide) R R R R ?_
   refine ev (Bg 0 R R) R R (Ac Un R) (ev (Bg 0 R R) R R (Ak Ah6 R (.lp _ _ _ R) R) (ev (Bg 0 R R) R R (Ax Aat R) (ev (Bg 0 R R) R R (Dj R R) (ev (Bg 0 R R) R R (Bc R) (Apo 20 R (fun hx=>Bool.noConfusion (hg2.symm.trans hx)) (fun _=>?_))))))
   refine Adi R R R R R (Adi R R R R R (Adi R R R R R (Adi R R R R R (Adi R R R R R (Adi R R R R R (Adi R R R R R (Adi R R R R R (ev (Bg 0 R R) R R (Mg R R) (ev (Bg 0 R R) R R (Ko R) (Abk (Ab (Bv ?_))))))))))))
   obtain rfl:=SJ h
   exact dnT R R R R
 ·skip
  refine Bu ?_
  obtain ⟨x4,hx4,ho4⟩:=Ae h
  refine B6 (G:=Nat × (Int)) (fun g=>[(1,.s (.one (.lp 0 0))),(6,.s (.one (.sl a0.L.length (a0.L.flatMap Aq)))),(7,.s (.one (Ii6 (a0.L.length:Int)))),(8,.s (.one (Ii6 g.2)))]) (fun g=>[.box [.sl a0.L.length (a0.L.flatMap Aq)]]) (fun g=>Lj (Ga a0) g.1 g.2=some x4) (fun g=>g.1) (fuel,0) hx4 ⟨R,R,R,R,trivial⟩ [] R (fun _ _=>A5 R) (fun _ _=>Ap R) (fun _ _=>Nbl R) ?_
  clear hx4 h
  rintro ⟨n4,s4⟩ h
  obtain ⟨n4,y4,rfl,h,hk4⟩:=Ff h
  unfold Ga at h
  refine csr (sv R (Bw R R) (Ai (Br (ccI h R (fun h=>?_) (fun h=>?_)))))
  ·refine Bj (Ab (Br (Bu (Br (As ?_)))))
   obtain ⟨u5,hu5,h⟩:=Ae h
   refine sv R (Cb (f:=Aq) Aat (fun _=>R) R R R R hu5) ?_
   refine sv R (B3 (ys:=[Ii6 u5.Tx,.sl u5.Rng.Lo.length (u5.Rng.Lo.flatMap eU8),.sl u5.Rng.Hi.length (u5.Rng.Hi.flatMap eU8),.b u5.Rng.Open]) Aah R (.cp _) R R) (Bq R Ail (sst Aj1 R R R R R (Ai (csr (sv R (Bf Aah R (.lp _ _ _ R) (Nbl R)) ?_)))))
   obtain ⟨v6,hv6,h⟩:=Ae h
   refine Bb R As9 (Aa R Af) (Ao R) (O7 hv6) (sv R (B2 R) (Ai (ccI h R (fun h=>?_) (fun h=>?_))))
   ·refine csr (rm 1 R (Ai (Bv (Ay (Ag (Ag (Ay (Ag ?_))))))))
    obtain rfl:=SJ h
    obtain rfl:Sum.inl _=x4:=hk4
    replace ho4:some _=some _:=ho4
    obtain rfl:=Option.some.inj ho4
    exact dnT R R R R
   ·refine Bj (Ar (Ab (As (sv R (Bs R R) (rm 1 R (Ai ?_))))))
    obtain rfl:=SJ h
    exact ⟨(n4,(wI (s4+1))),_,hk4,⟨R,R,R,R,trivial⟩,R,Nat.lt_succ_self _⟩
  ·refine Di (Au (Au (Bn (Ab ?_))))
   obtain rfl:=SJ h
   obtain rfl:_=x4:=hk4
   exact ⟨(),_,ho4,⟨R,trivial⟩,R⟩
def Gs (a0:List (List UInt8)) (b1:Unit):Option Bool :=
 (B9 a0).bind fun v2=>some v2
def E8 (a0:List (List UInt8)) (s3:Int):Option (LR (Int) (Unit) (Bool)) :=
 if (decide (s3<(a0.length:Int))) then ((idx a0 s3).bind fun u4=>(Dp u4).bind fun v5=>if (!v5) then (some (.ret false)) else (some (.cont (wI (s3+1))))) else (some (.brk ()))
def G9 (a0:List (List UInt8)):Option Bool :=
 (Lj (E8 a0) fuel 0).bind fun x=>match x with | .inl r=>some r | .inr e6=>Gs a0 e6
theorem Qc {a0:List (List UInt8)} {r:Bool} (h:G9 a0=some r):Bt Tryz.prog 186 [.one (.sl a0.length (a0.flatMap (eL eU8)))] (·=.s (.one (.b r))):=by
 unfold G9 at h
 refine A4 Tryz.func186 R (nt:=17) R (Nbl R) ?_
 intro w0 S0
 refine csr (rm 1 R (Ai (Br (csr (rm 1 R (sv R (Ax Sn R) (rm 1 R (Ai (Dt (Unit) (fun b1=>[(0,.s (.one (.sl a0.length (a0.flatMap (eL eU8)))))]) (fun b1=>[]) (fun b1=>Gs a0 b1=some r) (fun _ _=>A5 R) (fun _ _=>Ap R) (fun _ _=>Nbl R) (fun b1 h=>?_) ?_)))))))))
 ·unfold Gs at h
  refine csr (sv R (Bc R) ?_)
  obtain ⟨v2,hv2,h⟩:=Ae h
  refine Bb R Aos (Aa R Af) (Ao R) (Lc hv2) (rm 1 R (Ai (Bv ?_)))
  obtain rfl:=SJ h
  exact dnT R R R R
 ·skip
  refine Bu ?_
  obtain ⟨x3,hx3,ho3⟩:=Ae h
  refine B6 (G:=Nat × (Int)) (fun g=>[(0,.s (.one (.sl a0.length (a0.flatMap (eL eU8))))),(5,.s (.one (.sl a0.length (a0.flatMap (eL eU8))))),(6,.s (.one (Ii6 (a0.length:Int)))),(7,.s (.one (Ii6 g.2)))]) (fun g=>[]) (fun g=>Lj (E8 a0) g.1 g.2=some x3) (fun g=>g.1) (fuel,0) hx3 ⟨R,R,R,R,trivial⟩ [] R (fun _ _=>A5 R) (fun _ _=>Ap R) (fun _ _=>Nbl R) ?_
  clear hx3 h
  rintro ⟨n3,s3⟩ h
  obtain ⟨n3,y3,rfl,h,hk3⟩:=Ff h
  unfold E8 at h
  refine csr (sv R (Bw R R) (Ai (Br (ccI h R (fun h=>?_) (fun h=>?_)))))
  ·refine Bj (Ab (Br (Bu (Br (As ?_)))))
   obtain ⟨u4,hu4,h⟩:=Ae h
   refine sv R (Cb (f:=(eL eU8)) Sn (fun _=>R) R R R R hu4) ?_
   refine sv R (Ak Nr R (.cp _) R) (rm 1 R (Ai (csr (sv R (Bc R) ?_))))
   obtain ⟨v5,hv5,h⟩:=Ae h
   refine Bb R Au4 (Aa R Af) (Ao R) (Nv hv5) (sv R (B2 R) (Ai (ccI h R (fun h=>?_) (fun h=>?_))))
   ·refine csr (rm 1 R (Ai (Bv (Ay (Ag (Ag (Ay (Ag ?_))))))))
    obtain rfl:=SJ h
    obtain rfl:Sum.inl _=x3:=hk3
    replace ho3:some _=some _:=ho3
    obtain rfl:=Option.some.inj ho3
    exact dnT R R R R
   ·refine Bj (Ar (Ab (As (sv R (Bs R R) (rm 1 R (Ai ?_))))))
    obtain rfl:=SJ h
    exact ⟨(n3,(wI (s3+1))),_,hk3,⟨R,R,R,R,trivial⟩,R,Nat.lt_succ_self _⟩
  ·refine Di (Au (Au (Bn (Ab ?_))))
   obtain rfl:=SJ h
   obtain rfl:_=x3:=hk3
   exact ⟨(),_,ho3,⟨R,trivial⟩,R⟩
def Lk (a0:A2) (b1:Unit):Option Bool :=
 if (decide (a0.State=1)) then (if (decide (a0.End=0)) then (some (decide ((a0.Keys.length:Int)=0))) else (some false)) else (if (decide (a0.State=2)) then (if (decide (a0.Begin<a0.End)) then (if (decide (a0.End≤1099511627776)) then ((G9 a0.Keys).bind fun v2=>if v2 then (if a0.RO then (some (!(decide (0<(a0.Keys.length:Int))))) else (some true)) else (some false)) else (some false)) else (some false)) else (some false))
def Ju (a0:A2):Option Bool :=
 if (decide (a0.ID<0)) then (some false) else (if (decide (a0.Begin<0)) then (some false) else (if (decide (1099511627776<a0.Begin)) then (some false) else (Lk a0 ())))
theorem Rc {a0:A2} {r:Bool} (h:Ju a0=some r):Bt Tryz.prog 111 [.agg (EL.el a0)] (·=.s (.one (.b r))):=by
 unfold Ju at h
 refine A4 Tryz.func111 R (nt:=57) R (Nbl R) ?_
 intro w0 S0
 refine csr (F0 R R (rm 1 R (Ai (Br (Br (Hp (Unit) (fun b1=>[(1,.s (.one (.lp 0 0)))]) (fun b1=>[.box (EL.el a0)]) (fun b1=>Lk a0 b1=some r) (fun _ _=>A5 R) (fun _ _=>Ap R) (fun _ _=>Nbl R) (fun b1 h=>?_) ?_))))))
 ·unfold Lk at h
  refine Br (csr (fl Oo ti3 R R R R R R (Ai (Bu (csr (sv R (B5 R R) (rm 1 R (Ai (ccI h R (fun h=>?_) (fun h=>?_))))))))))
  ·refine csr (fl Qg ti3 R R R R R R (sv R (B5 R R) (rm 1 R (ssI 23 h R (fun h=>?_) (fun h=>?_)))))
   ·refine son R R R (sv R (Ac Sy R) (son R R R (sv R (Ak Abm R (.lp _ _ _ R) R) (son R R R (sv R (Ax Sn R) (son R R R (sv R (B5 R R) (rm 2 R (Ai (Bv (Ay (Ag ?_))))))))))))
    obtain rfl:=SJ h
    exact dnT R R R R
   ·refine rm 6 R (Ai (Bv (Ay (Ag ?_))))
    obtain rfl:=SJ h
    exact dnT R R R R
  ·refine csr (sv R (B5 R R) (rm 1 R (Ai (ccI h R (fun h=>?_) (fun h=>?_)))))
   ·refine csr (fl Qg ti3 R R R R R R (fl Ux ti3 R R R R R R (sv R (C7 R R) (rm 1 R (ssI 36 h R (fun h=>?_) (fun h=>?_))))))
    ·refine son R R R (sv R (Ac Qg R) (son R R R (sv R (Ak ti3 R (.lp _ _ _ R) R) (son R R R (sv R (Dj R R) (rm 2 R (ssI 41 h R (fun h=>?_) (fun h=>?_))))))))
     ·refine son R R R (sv R (Ac Sy R) (son R R R (sv R (Ak Abm R (.lp _ _ _ R) R) (son R R R ?_))))
      obtain ⟨v2,hv2,h⟩:=Ae h
      refine Bb R Aus (Aa R Af) (Ao R) (Qc hv2) (rm 2 R (ssI 46 h R (fun h=>?_) (fun h=>?_)))
      ·refine son R R R (sv R (Ac Aei R) (son R R R (sv R (Ak ti4 R (.lp _ _ _ R) R) (rm 1 R (ssI 49 h R (fun h=>?_) (fun h=>?_))))))
       ·refine son R R R (sv R (Ac Sy R) (son R R R (sv R (Ak Abm R (.lp _ _ _ R) R) (son R R R (sv R (Ax Sn R) (son R R R (sv R (C7 R R) (rm 1 R (son R R R (sv R (B2 R) (rm 2 R (Ai (Bv (Ay (Ag ?_)))))))))))))))
        obtain rfl:=SJ h
        exact dnT R R R R
       ·refine rm 5 R (son R R R (sv R (B2 R) (rm 2 R (Ai (Bv (Ay (Ag ?_)))))))
        obtain rfl:=SJ h
        exact dnT R R R R
      ·refine rm 3 R (Cl R R R (Cl R R R (Cl R R R (Cl R R R (rm 4 R (Ai (Bv (Ay (Ag ?_)))))))))
       obtain rfl:=SJ h
       exact dnT R R R R
     ·refine rm 8 R (Cl R R R (Cl R R R (Cl R R R (Cl R R R (rm 4 R (Ai (Bv (Ay (Ag ?_)))))))))
      obtain rfl:=SJ h
      exact dnT R R R R
    ·refine rm 13 R (Cl R R R (Cl R R R (Cl R R R (Cl R R R (rm 4 R (Ai (Bv (Ay (Ag ?_)))))))))
     obtain rfl:=SJ h
     exact dnT R R R R
   ·refine Bj (Ar (Ab (csr (rm 1 R (Ai (Bv ?_))))))
    obtain rfl:=SJ h
    exact dnT R R R R
 ·skip
  refine As (fl Sv ti3 R R R R R R (sv R (Bw R R) (rm 1 R (ssI 6 h R (fun h=>?_) (fun h=>?_)))))
  ·refine rm 9 R (Ai (Cp R (fun _=>?_) (fun hx=>Bool.noConfusion hx)))
   refine csr (rm 1 R (Ai (Bv (Ag ?_))))
   obtain rfl:=SJ h
   exact dnT R R R R
  ·refine son R R R (sv R (Ac Ux R) (son R R R (sv R (Ak ti3 R (.lp _ _ _ R) R) (son R R R (sv R (Bw R R) (rm 2 R (ssI 11 h R (fun h=>?_) (fun h=>?_))))))))
   ·refine rm 4 R (Ai (Cp R (fun _=>?_) (fun hx=>Bool.noConfusion hx)))
    refine csr (rm 1 R (Ai (Bv (Ag ?_))))
    obtain rfl:=SJ h
    exact dnT R R R R
   ·refine son R R R (sv R (Ac Ux R) (son R R R (sv R (Ak ti3 R (.lp _ _ _ R) R) (son R R R (sv R (C7 R R) (rm 1 R (Ai (ccI h R (fun h=>?_) (fun h=>?_)))))))))
    ·refine csr (rm 1 R (Ai (Bv (Ag ?_))))
     obtain rfl:=SJ h
     exact dnT R R R R
    ·refine Bj (Ab ?_)
     exact ⟨(),_,h,⟨R,trivial⟩,R⟩
def Ha (a0:A2) (a1:A2) (b1:Bool):Option Bool :=
 if (decide (a0.ID=a1.ID)) then (some true) else (if (decide (a0.State=2)) then (if (decide (a1.State=2)) then (if (decide (a0.End=a1.End)) then (some b1) else (some false)) else (some false)) else (some false))
def M7 (a0:A2) (a1:A2):Option Bool :=
 if (decide (0<(a0.Keys.length:Int))) then (Ha a0 a1 true) else (Ha a0 a1 (decide (0<(a1.Keys.length:Int))))
theorem X3 {a0:A2} {a1:A2} {r:Bool} (h:M7 a0 a1=some r):Bt Tryz.prog 112 [.agg (EL.el a0),.agg (EL.el a1)] (·=.s (.one (.b r))):=by
 unfold M7 at h
 refine A4 Tryz.func112 R (nt:=41) R (Nbl R) ?_
 intro w0 S0
 refine csr (F0 R R (F0 R R (rm 1 R (Ai (Br (Dt (Bool) (fun b1=>[(2,.s (.one (.lp 0 0))),(3,.s (.one (.lp 1 0))),(5,.s (.one (.b b1)))]) (fun b1=>[.box (EL.el a0),.box (EL.el a1)]) (fun b1=>Ha a0 a1 b1=some r) (fun _ _=>A5 R) (fun _ _=>Ap R) (fun _ _=>Nbl R) (fun b1 h=>?_) ?_))))))
 ·unfold Ha at h
  refine csr (fl Sv ti3 R R R R R R (fl Sv ti3 R R R R R R (sv R (B5 R R) (rm 1 R (ssI 21 h R (fun h=>?_) (fun h=>?_))))))
  ·refine rm 4 R (Cl R R R (Cl R R R (Cl R R R (rm 2 R (Cl R R R (Cl R R R (Cl R R R (Cl R R R (Cl R R R (rm 2 R (Cl R R R (rm 3 R (Ai (Bv ?_))))))))))))))
   obtain rfl:=SJ h
   exact dnT R R R R
  ·refine son R R R (sv R (Ac Oo R) (son R R R (sv R (Ak ti3 R (.lp _ _ _ R) R) (son R R R (sv R (B5 R R) (rm 1 R (ssI 25 h R (fun h=>?_) (fun h=>?_))))))))
   ·refine son R R R (sv R (Ac Oo R) (son R R R (sv R (Ak ti3 R (.lp _ _ _ R) R) (son R R R (sv R (B5 R R) (rm 2 R (ssI 30 h R (fun h=>?_) (fun h=>?_))))))))
    ·refine son R R R (sv R (Ac Qg R) (son R R R (sv R (Ak ti3 R (.lp _ _ _ R) R) (son R R R (sv R (Ac Qg R) (son R R R (sv R (Ak ti3 R (.lp _ _ _ R) R) (son R R R (sv R (B5 R R) (rm 2 R (ssI 37 h R (fun h=>?_) (fun h=>?_))))))))))))
     ·refine rm 4 R (Ai (Bv ?_))
      obtain rfl:=SJ h
      exact dnT R R R R
     ·refine rm 4 R (Ai (Bv ?_))
      obtain rfl:=SJ h
      exact dnT R R R R
    ·refine rm 11 R (Ai (Bv ?_))
     obtain rfl:=SJ h
     exact dnT R R R R
   ·refine rm 16 R (Ai (Bv ?_))
    obtain rfl:=SJ h
    exact dnT R R R R
 ·skip
  refine As (fl Sy Abm R R R R R R (sv R (Ax Sn R) (sv R (C7 R R) (rm 1 R (ssI 10 h R (fun h=>?_) (fun h=>?_))))))
  ·refine rm 6 R (Ai ?_)
   exact ⟨true,_,h,⟨R,R,R,trivial⟩,R⟩
  ·refine son R R R (sv R (Ac Sy R) (son R R R (sv R (Ak Abm R (.lp _ _ _ R) R) (son R R R (sv R (Ax Sn R) (son R R R (sv R (C7 R R) (rm 2 R (Ai ?_)))))))))
   exact ⟨(decide (0<(a1.Keys.length:Int))),_,h,⟨R,R,R,trivial⟩,R⟩
def Qa (b1:(List Int)):Option (List Int) :=
 some b1
def Jj (a0:List A2) (s2:Int × (List Int)):Option (LB (Int × (List Int)) ((List Int))) :=
 if (decide (s2.1<(a0.length:Int))) then ((idx a0 s2.1).bind fun u3=>if (s2.2.length+[u3.ID].length)*8≤140737488355328 then (some (.cont ((wI (s2.1+1)),(s2.2++[u3.ID])))) else none) else (some (.brk s2.2))
def Nn (a0:List A2):Option (List Int) :=
 (C5 (Jj a0) fuel (0,([]:List Int))).bind fun e5=>Qa e5
theorem Uk {a0:List A2} {r:(List Int)} (h:Nn a0=some r):Bt Tryz.prog 114 [.one (.sl a0.length (a0.flatMap Be))] (·=.s (.one (.sl r.length (r.flatMap eI)))):=by
 unfold Nn at h
 refine A4 Tryz.func114 R (nt:=19) R (Nbl R) ?_
 intro w0 S0
 refine csr (rm 1 R (Ai (csr (rm 1 R (Ai (Br (csr (rm 1 R (sv R (Ax P7 R) (rm 1 R (Ai ?_)))))))))))
 refine D1 3 1 3 (by decide) R ?_
 refine Dt ((List Int)) (fun b1=>[(3,.s (.one (.ls 0 b1.length)))]) (fun b1=>[.arr 3 1 0 (b1.flatMap eI)]) (fun b1=>Qa b1=some r) (fun _ _=>A5 R) (fun _ _=>Ap R) (fun _ _=>Nbl R) (fun b1 h=>?_) ?_
 ·unfold Qa at h
  refine csr (rm 2 R (Ai (Bv ?_)))
  obtain rfl:=SJ h
  refine ⟨Or.inr R,_,_,_,(Ad (rt R) Ah),(by (repeat' first | exact J7.nil _ | apply J7.cons | apply Jm.one | apply Jm.agg | exact Dm.nil | exact Dm.ls _ _ _ _ _ _ R (A1 (f:=eI) (fun _=>R) _).symm | exact Dm.id _ R | exact Cw.nil _ | apply Cw.cons)),?_⟩
  rfl
 ·skip
  refine Bu ?_
  obtain ⟨x2,hx2,ho2⟩:=Ae h
  refine B6 (G:=Nat × (Int × (List Int))) (fun g=>[(3,.s (.one (.ls 0 g.2.2.length))),(6,.s (.one (.sl a0.length (a0.flatMap Be)))),(7,.s (.one (Ii6 (a0.length:Int)))),(8,.s (.one (Ii6 g.2.1)))]) (fun g=>[.arr 3 1 0 (g.2.2.flatMap eI)]) (fun g=>C5 (Jj a0) g.1 g.2=some x2) (fun g=>g.1) (fuel,(0,([]:List Int))) hx2 ⟨R,R,R,R,trivial⟩ [] R (fun _ _=>A5 R) (fun _ _=>Ap R) (fun _ _=>Nbl R) ?_
  clear hx2 h
  rintro ⟨n2,s2⟩ h
  obtain ⟨n2,y2,rfl,h,hk2⟩:=C8 h
  unfold Jj at h
  refine csr (sv R (Bw R R) (Ai (Br (ccI h R (fun h=>?_) (fun h=>?_)))))
  ·refine Bj (Ab (Br (Bu (Br (As ?_)))))
   obtain ⟨u3,hu3,h⟩:=Ae h
   refine sv R (Cb (f:=Be) P7 (fun _=>R) R R R R hu3) ?_
   refine sv R (B3 (ys:=[Ii6 u3.ID,Ii6 u3.Begin,Ii6 u3.End,Ii6 u3.State,.b u3.In,.b u3.Out,.b u3.RO,.sl u3.Keys.length (u3.Keys.flatMap (eL eU8))]) I6 R (.cp _) R R) (Bq R Sj (sst Rx R R R R R (Ai (As (rm 1 R (sv R (Ac Sv R) (sv R (Ak ti3 R (.lp _ _ _ R) R) ?_)))))))
   refine Gk R Tryz.underlying225 ei3 R R (List.all_eq_true.1 R) (by decide) ?_
   refine P4 [.arr 3 1 0 (s2.2.flatMap eI),.box (EL.el u3),.arr 3 1 0 ([u3.ID].flatMap eI)] R ?_
   obtain ⟨hb4,h⟩:=Cy h
   refine Wb (f:=eI) (xs:=s2.2) (us:=[u3.ID]) R Tryz.underlying225 ei3 Anw (fun _=>R) R R (.one _ _ _ _ (.ls _ _ _ _ _ _ R (A1 (f:=eI) (fun _=>R) [u3.ID]).symm)) R R R (.sl _ _ _ (A1 (f:=eI) (fun _=>R) _)) R R hb4 (by decide) ?_
   refine rm 1 R (Ks (Ar (Ab (As (sv R (Bs R R) (rm 1 R (Ai ?_)))))))
   obtain rfl:=SJ h
   exact ⟨(n2,((wI (s2.1+1)),(s2.2++[u3.ID]))),_,hk2,⟨R,R,R,R,trivial⟩,R,Nat.lt_succ_self _⟩
  ·refine Di (Au (Au (Bn (Ab ?_))))
   obtain rfl:=SJ h
   obtain rfl:_=x2:=hk2
   exact ⟨s2.2,_,ho2,⟨R,trivial⟩,R⟩
def Mu (b1:Unit):Option Int :=
 some (-1)
def Du (a0:List Int) (a1:Int) (s2:Int):Option (LR (Int) (Unit) (Int)) :=
 if (decide (s2<(a0.length:Int))) then ((idx a0 s2).bind fun u3=>if (decide (a1=u3)) then (some (.ret s2)) else (some (.cont (wI (s2+1))))) else (some (.brk ()))
def En (a0:List Int) (a1:Int):Option Int :=
 (Lj (Du a0 a1) fuel 0).bind fun x=>match x with | .inl r=>some r | .inr e4=>Mu e4
theorem Ql {a0:List Int} {a1:Int} {r:Int} (h:En a0 a1=some r):Bt Tryz.prog 197 [.one (.sl a0.length (a0.flatMap eI)),.one (Ii6 a1)] (·=.s (.one (Ii6 r))):=by
 unfold En at h
 refine A4 Tryz.func197 R (nt:=19) R (Nbl R) ?_
 intro w0 S0
 refine csr (rm 1 R (Ai (Br (csr (rm 1 R (sv R (Ax Aql R) (rm 1 R (Ai (Dt (Unit) (fun b1=>[]) (fun b1=>[]) (fun b1=>Mu b1=some r) (fun _ _=>A5 R) (fun _ _=>Ap R) (fun _ _=>Nbl R) (fun b1 h=>?_) ?_)))))))))
 ·unfold Mu at h
  refine csr (rm 1 R (Ai (Bv ?_)))
  obtain rfl:=SJ h
  exact dnT R R R R
 ·skip
  refine Bu ?_
  obtain ⟨x2,hx2,ho2⟩:=Ae h
  refine B6 (G:=Nat × (Int)) (fun g=>[(0,.s (.one (.sl a0.length (a0.flatMap eI)))),(1,.s (.one (Ii6 a1))),(7,.s (.one (Ii6 (a0.length:Int)))),(8,.s (.one (Ii6 g.2)))]) (fun g=>[]) (fun g=>Lj (Du a0 a1) g.1 g.2=some x2) (fun g=>g.1) (fuel,0) hx2 ⟨R,R,R,R,trivial⟩ [] R (fun _ _=>A5 R) (fun _ _=>Ap R) (fun _ _=>Nbl R) ?_
  clear hx2 h
  rintro ⟨n2,s2⟩ h
  obtain ⟨n2,y2,rfl,h,hk2⟩:=Ff h
  unfold Du at h
  refine csr (sv R (Bw R R) (Ai (Br (ccI h R (fun h=>?_) (fun h=>?_)))))
  ·refine Bj (Ab (Br (Bu (csr (rm 2 R (Ai (csr (rm 2 R (sv R (Bc R) ?_)))))))))
   obtain ⟨u3,hu3,h⟩:=Ae h
   refine sv R (Cb (f:=eI) Aql (fun _=>R) R R R R hu3) ?_
   refine sv R (Ak ti3 R (.cp _) R) (sv R (B5 R R) (Ai (ccI h R (fun h=>?_) (fun h=>?_))))
   ·refine csr (rm 2 R (Ai (Bv (Ay (Ag (Ag (Ay (Ag ?_))))))))
    obtain rfl:=SJ h
    obtain rfl:Sum.inl _=x2:=hk2
    replace ho2:some _=some _:=ho2
    obtain rfl:=Option.some.inj ho2
    exact dnT R R R R
   ·refine Bj (Ar (Ab (As (sv R (Bs R R) (rm 1 R (Ai ?_))))))
    obtain rfl:=SJ h
    exact ⟨(n2,(wI (s2+1))),_,hk2,⟨R,R,R,R,trivial⟩,R,Nat.lt_succ_self _⟩
  ·refine Di (Au (Au (Bn (Ab ?_))))
   obtain rfl:=SJ h
   obtain rfl:_=x2:=hk2
   exact ⟨(),_,ho2,trivial,R⟩
def Dw (a0:List Int) (a1:Int):Option Bool :=
 (En a0 a1).bind fun v1=>some (decide (0≤v1))
theorem K8 {a0:List Int} {a1:Int} {r:Bool} (h:Dw a0 a1=some r):Bt Tryz.prog 237 [.one (.sl a0.length (a0.flatMap eI)),.one (Ii6 a1)] (·=.s (.one (.b r))):=by
 unfold Dw at h
 refine A4 Tryz.func237 R (nt:=9) R (Nbl R) ?_
 intro w0 S0
 refine csr (rm 1 R (Ai (csr (rm 1 R (sv R (Bc R) ?_)))))
 obtain ⟨v1,hv1,h⟩:=Ae h
 refine Bb R At4 (Aa R (Aa R Af)) (Ao R) (Ql hv1) (sv R (He R R) (rm 1 R (Ai (Bv ?_))))
 obtain rfl:=SJ h
 exact dnT R R R R
def Nu (b1:(List A0)):Option Bz :=
 some (Bz.mk b1)
def Gi (a0:Bz) (a1:List Int) (a2:Bool) (s2:Int × (List A0)):Option (LB (Int × (List A0)) ((List A0))) :=
 if (decide (s2.1<(a0.L.length:Int))) then ((idx a0.L s2.1).bind fun u3=>(Dw a1 u3.Tx).bind fun v4=>if (v4 == a2) then (if (s2.2.length+[u3].length)*64≤140737488355328 then (some (.cont ((wI (s2.1+1)),(s2.2++[u3])))) else none) else (some (.cont ((wI (s2.1+1)),s2.2)))) else (some (.brk s2.2))
def Ls (a0:Bz) (a1:List Int) (a2:Bool):Option Bz :=
 (C5 (Gi a0 a1 a2) fuel (0,([]:List A0))).bind fun e6=>Nu e6
theorem Wn {a0:Bz} {a1:List Int} {a2:Bool} {r:Bz} (h:Ls a0 a1 a2=some r):Bt Tryz.prog 187 [.agg [.sl a0.L.length (a0.L.flatMap Aq)],.one (.sl a1.length (a1.flatMap eI)),.one (.b a2)] (·=.s (.agg [.sl r.L.length (r.L.flatMap Aq)])):=by
 unfold Ls at h
 refine A4 Tryz.func187 R (nt:=30) R (Nbl R) ?_
 intro w0 S0
 refine csr (F0 R R (Bq R Aou (Ai (csr (rm 1 R (Ai (Br (csr (fl Un Ah6 R R R R R R (sv R (Ax Aat R) (rm 1 R (Ai ?_))))))))))))
 refine D1 142 4 7 (by decide) R ?_
 refine Dt ((List A0)) (fun b1=>[(6,.s (.one (.lp 1 0))),(7,.s (.one (.ls 2 b1.length)))]) (fun b1=>[.box [.sl a0.L.length (a0.L.flatMap Aq)],.box [Znl],.arr 142 4 0 (b1.flatMap Aq)]) (fun b1=>Nu b1=some r) (fun _ _=>A5 R) (fun _ _=>Ap R) (fun _ _=>Nbl R) (fun b1 h=>?_) ?_
 ·unfold Nu at h
  refine csr (rm 1 R (sv R (A6 Aou Ato (Av R Az) (.cons _ _ _ _ _ _ _ R R (Nbl R) (.nil _))) (sst Ape R R R R R (Ai (Bv ?_)))))
  obtain rfl:=SJ h
  refine ⟨Or.inr R,_,_,_,(Ad (ra Ab7 R R R) Ah),(by (repeat' first | exact J7.nil _ | apply J7.cons | apply Jm.one | apply Jm.agg | exact Dm.nil | exact Dm.ls _ _ _ _ _ _ R (A1 (f:=Aq) (fun _=>R) _).symm | exact Dm.id _ R | exact Cw.nil _ | apply Cw.cons)),?_⟩
  rfl
 ·skip
  refine Bu ?_
  obtain ⟨x2,hx2,ho2⟩:=Ae h
  refine B6 (G:=Nat × (Int × (List A0))) (fun g=>[(1,.s (.one (.sl a1.length (a1.flatMap eI)))),(2,.s (.one (.b a2))),(6,.s (.one (.lp 1 0))),(7,.s (.one (.ls 2 g.2.2.length))),(11,.s (.one (.sl a0.L.length (a0.L.flatMap Aq)))),(12,.s (.one (Ii6 (a0.L.length:Int)))),(13,.s (.one (Ii6 g.2.1)))]) (fun g=>[.box [.sl a0.L.length (a0.L.flatMap Aq)],.box [Znl],.arr 142 4 0 (g.2.2.flatMap Aq)]) (fun g=>C5 (Gi a0 a1 a2) g.1 g.2=some x2) (fun g=>g.1) (fuel,(0,([]:List A0))) hx2 ⟨R,R,R,R,R,R,R,trivial⟩ [] R (fun _ _=>A5 R) (fun _ _=>Ap R) (fun _ _=>Nbl R) ?_
  clear hx2 h
  rintro ⟨n2,s2⟩ h
  obtain ⟨n2,y2,rfl,h,hk2⟩:=C8 h
  unfold Gi at h
  refine csr (sv R (Bw R R) (Ai (Br (ccI h R (fun h=>?_) (fun h=>?_)))))
  ·refine Bj (Ab (Br (Bu (Br (As ?_)))))
   obtain ⟨u3,hu3,h⟩:=Ae h
   refine sv R (Cb (f:=Aq) Aat (fun _=>R) R R R R hu3) ?_
   refine sv R (B3 (ys:=[Ii6 u3.Tx,.sl u3.Rng.Lo.length (u3.Rng.Lo.flatMap eU8),.sl u3.Rng.Hi.length (u3.Rng.Hi.flatMap eU8),.b u3.Rng.Open]) Aah R (.cp _) R R) (Bq R Ail (sst Aj1 R R R R R (Ai (csr (rm 1 R (sv R (Ac Abc R) (sv R (Ak ti3 R (.lp _ _ _ R) R) ?_)))))))
   obtain ⟨v4,hv4,h⟩:=Ae h
   refine Bb R Aq7 (Aa R (Aa R Af)) (Ao R) (K8 hv4) (rm 1 R (sv R (Ags Tryz.underlying4 R R) (Ai (ccI h R (fun h=>?_) (fun h=>?_)))))
   ·refine As (rm 1 R (sv R (Bf Aah R (.lp _ _ _ R) (Nbl R)) ?_))
    refine Gk R Tryz.underlying30 Akk R R (List.all_eq_true.1 R) (by decide) ?_
    refine P4 [.box [.sl a0.L.length (a0.L.flatMap Aq)],.box [Znl],.arr 142 4 0 (s2.2.flatMap Aq),.box (EL.el u3),.arr 142 4 0 ([u3].flatMap Aq)] R ?_
    obtain ⟨hb5,h⟩:=Cy h
    refine Wb (f:=Aq) (xs:=s2.2) (us:=[u3]) R Tryz.underlying30 Akk Ax3 (fun _=>R) R R (.one _ _ _ _ (.ls _ _ _ _ _ _ R (A1 (f:=Aq) (fun _=>R) [u3]).symm)) R R R (.sl _ _ _ (A1 (f:=Aq) (fun _=>R) _)) R R hb5 (by decide) ?_
    refine rm 1 R (Ks (Ar (Ab (As (sv R (Bs R R) (rm 1 R (Ai ?_)))))))
    obtain rfl:=SJ h
    exact ⟨(n2,((wI (s2.1+1)),(s2.2++[u3]))),_,hk2,⟨R,R,R,R,R,R,R,trivial⟩,R,Nat.lt_succ_self _⟩
   ·refine Bj (Ar (Ab (As (sv R (Bs R R) (rm 1 R (Ai ?_))))))
    obtain rfl:=SJ h
    exact ⟨(n2,((wI (s2.1+1)),s2.2)),_,hk2,⟨R,R,R,R,R,R,R,trivial⟩,R,Nat.lt_succ_self _⟩
  ·refine Di (Au (Au (Bn (Ab ?_))))
   obtain rfl:=SJ h
   obtain rfl:_=x2:=hk2
   exact ⟨s2.2,_,ho2,⟨R,R,trivial⟩,R⟩
def Jr (a0:Bz) (a1:List Int):Option Bz :=
 (Ls a0 a1 false).bind fun v1=>some v1
theorem Q9 {a0:Bz} {a1:List Int} {r:Bz} (h:Jr a0 a1=some r):Bt Tryz.prog 113 [.agg [.sl a0.L.length (a0.L.flatMap Aq)],.one (.sl a1.length (a1.flatMap eI))] (·=.s (.agg [.sl r.L.length (r.L.flatMap Aq)])):=by
 unfold Jr at h
 refine A4 Tryz.func113 R (nt:=8) R (Nbl R) ?_
 intro w0 S0
 refine csr (F0 R R (Bq R Aou (Ai (csr (ld Ab7 R R R R (sv R (Bc R) ?_))))))
 obtain ⟨v1,hv1,h⟩:=Ae h
 refine Bb R Axm (Aa R (Aa R (Aa R Af))) (Ao R) (Wn hv1) (sst Ape R R R R R (Ai (Bv ?_)))
 obtain rfl:=SJ h
 exact dnA R Ab7 R (.lp _ _ _ R) (Nbl R) R R
def L4 (a0:Bh) (b2:Unit):Option Bool :=
 (Nn a0.Txs).bind fun v3=>(Jr a0.Reads v3).bind fun v4=>some (decide ((v4.L.length:Int)=0))
def L9 (s5:Int) (b9:Unit):Option (LR (Int) (Unit) (Bool)) :=
 some (.cont (wI (s5+1)))
def Hr (u6:A2) (c8:List A2) (s10:Int):Option (LR (Int) (Unit) (Bool)) :=
 if (decide (s10<(c8.length:Int))) then ((idx c8 s10).bind fun u11=>(M7 u6 u11).bind fun v12=>if v12 then (some (.ret false)) else (some (.cont (wI (s10+1))))) else (some (.brk ()))
def Jo (a0:Bh) (s5:Int):Option (LR (Int) (Unit) (Bool)) :=
 if (decide (s5<(a0.Txs.length:Int))) then ((idx a0.Txs s5).bind fun u6=>(Ju u6).bind fun v7=>if (!v7) then (some (.ret false)) else ((cut a0.Txs 0 s5).bind fun c8=>(Lj (Hr u6 c8) fuel 0).bind fun x=>match x with | .inl r=>some (.ret r) | .inr e13=>L9 s5 e13)) else (some (.brk ()))
def N1 (a0:Bh) (b1:Unit):Option Bool :=
 (Lj (Jo a0) fuel 0).bind fun x=>match x with | .inl r=>some r | .inr e14=>L4 a0 e14
def J9 (a0:Bh):Option Bool :=
 if (decide (64<(a0.Txs.length:Int))) then (some false) else ((F1 a0.Reads).bind fun v15=>if (!v15) then (some false) else (N1 a0 ()))
theorem O4 {a0:Bh} {r:Bool} (h:J9 a0=some r):Bt Tryz.prog 46 [.agg (EL.el a0)] (·=.s (.one (.b r))):=by
 unfold J9 at h
 refine A4 Tryz.func46 R (nt:=51) R (Nbl R) ?_
 intro w0 S0
 refine csr (F0 R R (rm 1 R (Ai (Br (Br (Hp (Unit) (fun b1=>[(1,.s (.one (.lp 0 0)))]) (fun b1=>[.box (EL.el a0)]) (fun b1=>N1 a0 b1=some r) (fun _ _=>A5 R) (fun _ _=>Ap R) (fun _ _=>Nbl R) (fun b1 h=>?_) ?_))))))
 ·unfold N1 at h
  refine Br (csr (fl Of Aaa R R R R R R (sv R (Ax P7 R) (rm 1 R (Ai (Dt (Unit) (fun b2=>[(1,.s (.one (.lp 0 0)))]) (fun b2=>[.box (EL.el a0)]) (fun b2=>L4 a0 b2=some r) (fun _ _=>A5 R) (fun _ _=>Ap R) (fun _ _=>Nbl R) (fun b2 h=>?_) ?_))))))
  ·unfold L4 at h
   refine Br ?_
   refine Z9 mixed (by kernel_rfl) ?_
   refine dv R (Ac Zm R) (dv R (Bf Ab7 R (.lp _ _ _ R) (Nbl R)) (dv R (Ac Of R) (dv R (Ak Aaa R (.lp _ _ _ R) R) ?_)))
   obtain ⟨v3,hv3,h⟩:=Ae h
   refine dd R (C9 Aso (Aa R Af) R (Uk hv3)) ?_
   obtain ⟨v4,hv4,h⟩:=Ae h
   refine dd R (C9 Au0 (Aa R (Aa R Af)) R (Q9 hv4)) (dv R (Aik Atp Ah6 R R) (dv R (Ax Aat R) (dv R (B5 R R) (dv R (Ko R) (Adw (Ab (Bv ?_)))))))
   obtain rfl:=SJ h
   exact dnT R R R R
  ·skip
   refine Bu ?_
   obtain ⟨x5,hx5,ho5⟩:=Ae h
   refine B6 (G:=Nat × (Int)) (fun g=>[(1,.s (.one (.lp 0 0))),(18,.s (.one (.sl a0.Txs.length (a0.Txs.flatMap Be)))),(19,.s (.one (Ii6 (a0.Txs.length:Int)))),(20,.s (.one (Ii6 g.2)))]) (fun g=>[.box (EL.el a0)]) (fun g=>Lj (Jo a0) g.1 g.2=some x5) (fun g=>g.1) (fuel,0) hx5 ⟨R,R,R,R,trivial⟩ [] R (fun _ _=>A5 R) (fun _ _=>Ap R) (fun _ _=>Nbl R) ?_
   clear hx5 h
   rintro ⟨n5,s5⟩ h
   obtain ⟨n5,y5,rfl,h,hk5⟩:=Ff h
   unfold Jo at h
   refine csr (sv R (Bw R R) (Ai (Br (ccI h R (fun h=>?_) (fun h=>?_)))))
   ·refine Bj (Ab (Br (Bu (csr (sv R (Bc R) ?_)))))
    obtain ⟨u6,hu6,h⟩:=Ae h
    refine sv R (Cb (f:=Be) P7 (fun _=>R) R R R R hu6) ?_
    refine sv R (B3 (ys:=[Ii6 u6.ID,Ii6 u6.Begin,Ii6 u6.End,Ii6 u6.State,.b u6.In,.b u6.Out,.b u6.RO,.sl u6.Keys.length (u6.Keys.flatMap (eL eU8))]) I6 R (.cp _) R R) (Bq R Sj (rm 1 R (sst Rx R R R R R (Ai (Br (csr (sv R (Bf I6 R (.lp _ _ _ R) (Nbl R)) ?_)))))))
    obtain ⟨v7,hv7,h⟩:=Ae h
    refine Bb R Auf (Aa R Af) (Ao R) (Rc hv7) (sv R (B2 R) (Ai (ccI h R (fun h=>?_) (fun h=>?_))))
    ·refine csr (rm 1 R (Ai (Bv (Ag (Ay (Ag (Ag (Ay (Ag ?_)))))))))
     obtain rfl:=SJ h
     obtain rfl:Sum.inl _=x5:=hk5
     replace ho5:some _=some _:=ho5
     obtain rfl:=Option.some.inj ho5
     exact dnT R R R R
    ·refine Bj (Ab (csr (fl Of Aaa R R R R R R (sv R (Bc R) ?_))))
     obtain ⟨c8,hc8,h⟩:=Ae h
     refine sv R (W9 (f:=Be) (lo:=0) (hi:=s5) P7 (fun _=>R) R R R Tr (P6 R (Int.le_trans (Te hc8).1.1 (Te hc8).1.2.1)) hc8) ?_
     refine sv R (Ax P7 R) (rm 1 R (Ai (Aps (Unit) (fun b9=>[(1,.s (.one (.lp 0 0))),(18,.s (.one (.sl a0.Txs.length (a0.Txs.flatMap Be)))),(19,.s (.one (Ii6 (a0.Txs.length:Int)))),(20,.s (.one (Ii6 s5)))]) (fun b9=>[.box (EL.el a0),.box (EL.el u6)]) (fun b9=>L9 s5 b9=some y5) (fun _ _=>A5 R) (fun _ _=>Ap R) (fun _ _=>Nbl R) (fun b9 h=>?_) ?_)))
     ·unfold L9 at h
      refine As (sv R (Bs R R) (rm 1 R (Ai ?_)))
      obtain rfl:=SJ h
      exact ⟨(n5,(wI (s5+1))),_,hk5,⟨R,R,R,R,trivial⟩,R,Nat.lt_succ_self _⟩
     ·skip
      refine Bu ?_
      obtain ⟨x10,hx10,ho10⟩:=Ae h
      refine B6 (G:=Nat × (Int)) (fun g=>[(1,.s (.one (.lp 0 0))),(4,.s (.one (.lp 1 0))),(18,.s (.one (.sl a0.Txs.length (a0.Txs.flatMap Be)))),(19,.s (.one (Ii6 (a0.Txs.length:Int)))),(20,.s (.one (Ii6 s5))),(31,.s (.one (.sl c8.length (c8.flatMap Be)))),(32,.s (.one (Ii6 (c8.length:Int)))),(33,.s (.one (Ii6 g.2)))]) (fun g=>[.box (EL.el a0),.box (EL.el u6)]) (fun g=>Lj (Hr u6 c8) g.1 g.2=some x10) (fun g=>g.1) (fuel,0) hx10 ⟨R,R,R,R,R,R,R,R,trivial⟩ [] R (fun _ _=>A5 R) (fun _ _=>Ap R) (fun _ _=>Nbl R) ?_
      clear hx10 h
      rintro ⟨n10,s10⟩ h
      obtain ⟨n10,y10,rfl,h,hk10⟩:=Ff h
      unfold Hr at h
      refine csr (sv R (Bw R R) (Ai (Br (ccI h R (fun h=>?_) (fun h=>?_)))))
      ·refine Bj (Ab (Br (Bu (Br (As ?_)))))
       obtain ⟨u11,hu11,h⟩:=Ae h
       refine sv R (Cb (f:=Be) P7 (fun _=>R) R R R R hu11) ?_
       refine sv R (B3 (ys:=[Ii6 u11.ID,Ii6 u11.Begin,Ii6 u11.End,Ii6 u11.State,.b u11.In,.b u11.Out,.b u11.RO,.sl u11.Keys.length (u11.Keys.flatMap (eL eU8))]) I6 R (.cp _) R R) (Bq R Sj (sst Rx R R R R R (Ai (csr (ld I6 R R R R (sv R (Bf I6 R (.lp _ _ _ R) (Nbl R)) ?_))))))
       obtain ⟨v12,hv12,h⟩:=Ae h
       refine Bb R Aw3 (Aa R (Aa R Af)) (Ao R) (X3 hv12) (Ai (ccI h R (fun h=>?_) (fun h=>?_)))
       ·refine csr (rm 1 R (Ai (Bv (Ay (Ag (Ag (Ay (Ay (Ag (Ag (Ay (Ag ?_))))))))))))
        obtain rfl:=SJ h
        obtain rfl:Sum.inl _=x10:=hk10
        replace ho10:some _=some _:=ho10
        obtain rfl:=Option.some.inj ho10
        obtain rfl:Sum.inl _=x5:=hk5
        replace ho5:some _=some _:=ho5
        obtain rfl:=Option.some.inj ho5
        exact dnT R R R R
       ·refine Bj (Ar (Ab (As (sv R (Bs R R) (rm 1 R (Ai ?_))))))
        obtain rfl:=SJ h
        exact ⟨(n10,(wI (s10+1))),_,hk10,⟨R,R,R,R,R,R,R,R,trivial⟩,R,Nat.lt_succ_self _⟩
      ·refine Di (Au (Au (Bn (Ar (Ab ?_)))))
       obtain rfl:=SJ h
       obtain rfl:_=x10:=hk10
       exact ⟨(),_,ho10,⟨R,R,R,R,trivial⟩,R⟩
   ·refine Di (Au (Au (Bn (Ab ?_))))
    obtain rfl:=SJ h
    obtain rfl:_=x5:=hk5
    exact ⟨(),_,ho5,⟨R,trivial⟩,R⟩
 ·skip
  refine As (fl Of Aaa R R R R R R (sv R (Ax P7 R) (sv R (C7 R R) (rm 1 R (ssI 11 h R (fun h=>?_) (fun h=>?_))))))
  ·refine rm 5 R (Ai (Cp R (fun _=>?_) (fun hx=>Bool.noConfusion hx)))
   refine csr (rm 1 R (Ai (Bv (Ag ?_))))
   obtain rfl:=SJ h
   exact dnT R R R R
  ·refine son R R R (sv R (Ac Zm R) (son R R R (ld Ab7 R R R R (son R R R ?_))))
   obtain ⟨v15,hv15,h⟩:=Ae h
   refine Bb R At8 (Aa R Af) (Ao R) (Rm hv15) (son R R R (sv R (B2 R) (rm 1 R (Ai (ccI h R (fun h=>?_) (fun h=>?_))))))
   ·refine csr (rm 1 R (Ai (Bv (Ag ?_))))
    obtain rfl:=SJ h
    exact dnT R R R R
   ·refine Bj (Ab ?_)
    exact ⟨(),_,h,⟨R,trivial⟩,R⟩
def Co (a0:Int) (a1:Int):Option Bool :=
 if (decide (0≤a0)) then (if (decide (a0≤1099511627776)) then (if (decide (0≤a1)) then (some (decide (a1≤65535))) else (some false)) else (some false)) else (some false)
theorem D7 {a0:Int} {a1:Int} {r:Bool} (h:Co a0 a1=some r):Bt Tryz.prog 130 [.one (Ii6 a0),.one (Ii6 a1)] (·=.s (.one (.b r))):=by
 unfold Co at h
 refine A4 Tryz.func130 R (nt:=19) R (Nbl R) ?_
 intro w0 S0
 refine csr (rm 1 R (Ai (csr (rm 1 R (sv R (He R R) (rm 1 R (ssI 7 h R (fun h=>?_) (fun h=>?_))))))))
 ·refine rm 1 R (son R R R (sv R (Dj R R) (rm 2 R (ssI 11 h R (fun h=>?_) (fun h=>?_)))))
  ·refine rm 1 R (son R R R (sv R (He R R) (rm 2 R (ssI 15 h R (fun h=>?_) (fun h=>?_)))))
   ·refine rm 1 R (son R R R (sv R (Dj R R) (rm 2 R (Ai (Bv ?_)))))
    obtain rfl:=SJ h
    exact dnT R R R R
   ·refine rm 4 R (Ai (Bv ?_))
    obtain rfl:=SJ h
    exact dnT R R R R
  ·refine rm 8 R (Ai (Bv ?_))
   obtain rfl:=SJ h
   exact dnT R R R R
 ·refine rm 12 R (Ai (Bv ?_))
  obtain rfl:=SJ h
  exact dnT R R R R
def Gg (a0:Int):Option Bool :=
 if (decide (1≤a0)) then (some (decide (a0≤1099511627776))) else (some false)
theorem Px {a0:Int} {r:Bool} (h:Gg a0=some r):Bt Tryz.prog 188 [.one (Ii6 a0)] (·=.s (.one (.b r))):=by
 unfold Gg at h
 refine A4 Tryz.func188 R (nt:=9) R (Nbl R) ?_
 intro w0 S0
 refine csr (rm 1 R (Ai (csr (rm 1 R (sv R (He R R) (rm 1 R (ssI 5 h R (fun h=>?_) (fun h=>?_))))))))
 ·refine rm 1 R (son R R R (sv R (Dj R R) (rm 2 R (Ai (Bv ?_)))))
  obtain rfl:=SJ h
  exact dnT R R R R
 ·refine rm 4 R (Ai (Bv ?_))
  obtain rfl:=SJ h
  exact dnT R R R R
def El (a0:A9) (b1:Bool):Option Bool :=
 if b1 then ((Co a0.Tok a0.Attempt).bind fun v2=>if v2 then (some (decide (a0.Ts=0))) else (some false)) else (if (decide (a0.State=2)) then ((Co a0.Tok a0.Attempt).bind fun v3=>if v3 then ((Gg a0.Ts).bind fun v4=>some v4) else (some false)) else (some false))
def F4 (a0:A9):Option Bool :=
 if (decide (a0.State=1)) then (El a0 (decide (a0.State=1))) else (El a0 (decide (a0.State=3)))
theorem R6 {a0:A9} {r:Bool} (h:F4 a0=some r):Bt Tryz.prog 115 [.agg (EL.el a0)] (·=.s (.one (.b r))):=by
 unfold F4 at h
 refine A4 Tryz.func115 R (nt:=30) R (Nbl R) ?_
 intro w0 S0
 refine csr (F0 R R (rm 1 R (Ai (Br (csr (fl Uy ti3 R R R R R R (Ai (Bu (Br (csr (sv R (B5 R R) (rm 1 R (Ai (Dt (Bool) (fun b1=>[(1,.s (.one (.lp 0 0))),(4,.s (.one (Ii6 a0.State))),(5,.s (.one (.b b1)))]) (fun b1=>[.box (EL.el a0)]) (fun b1=>El a0 b1=some r) (fun _ _=>A5 R) (fun _ _=>Ap R) (fun _ _=>Nbl R) (fun b1 h=>?_) ?_))))))))))))))
 ·unfold El at h
  refine ccI h R (fun h=>?_) (fun h=>?_)
  ·refine csr (fl Yx ti3 R R R R R R (sv R (Ac Uz R) (sv R (Ak ti3 R (.lp _ _ _ R) R) ?_)))
   obtain ⟨v2,hv2,h⟩:=Ae h
   refine Bb R Ain (Aa R (Aa R Af)) (Ao R) (D7 hv2) (rm 1 R (ssI 13 h R (fun h=>?_) (fun h=>?_)))
   ·refine son R R R (sv R (Ac Ae3 R) (son R R R (sv R (Ak ti3 R (.lp _ _ _ R) R) (son R R R (sv R (B5 R R) (rm 2 R (Ai (Bv (Ay (Ag ?_))))))))))
    obtain rfl:=SJ h
    exact dnT R R R R
   ·refine rm 5 R (Ai (Bv (Ay (Ag ?_))))
    obtain rfl:=SJ h
    exact dnT R R R R
  ·refine csr (sv R (B5 R R) (rm 1 R (Ai (ccI h R (fun h=>?_) (fun h=>?_)))))
   ·refine csr (fl Yx ti3 R R R R R R (sv R (Ac Uz R) (sv R (Ak ti3 R (.lp _ _ _ R) R) ?_)))
    obtain ⟨v3,hv3,h⟩:=Ae h
    refine Bb R Ain (Aa R (Aa R Af)) (Ao R) (D7 hv3) (rm 1 R (ssI 25 h R (fun h=>?_) (fun h=>?_)))
    ·refine son R R R (sv R (Ac Ae3 R) (son R R R (sv R (Ak ti3 R (.lp _ _ _ R) R) (son R R R ?_))))
     obtain ⟨v4,hv4,h⟩:=Ae h
     refine Bb R At5 (Aa R Af) (Ao R) (Px hv4) (rm 2 R (Ai (Bv (Ay (Ag ?_)))))
     obtain rfl:=SJ h
     exact dnT R R R R
    ·refine rm 5 R (Ai (Bv (Ay (Ag ?_))))
     obtain rfl:=SJ h
     exact dnT R R R R
   ·refine Bj (Ar (Ab (csr (rm 1 R (Ai (Bv ?_))))))
    obtain rfl:=SJ h
    exact dnT R R R R
 ·skip
  refine ccI h R (fun h=>?_) (fun h=>?_)
  ·refine Bj (Ab ?_)
   exact ⟨(decide (a0.State=1)),_,h,⟨R,R,R,trivial⟩,R⟩
  ·refine As (sv R (B5 R R) (rm 1 R (Ai ?_)))
   exact ⟨(decide (a0.State=3)),_,h,⟨R,R,R,trivial⟩,R⟩
def My (a0:Bm) (b1:Unit):Option Int :=
 some (a0.L.length:Int)
def Gp (a0:Bm) (a1:Int) (s2:Int):Option (LR (Int) (Unit) (Int)) :=
 if (decide (s2<(a0.L.length:Int))) then ((idx a0.L s2).bind fun u3=>if (decide (u3.Tok=a1)) then (some (.ret s2)) else (some (.cont (wI (s2+1))))) else (some (.brk ()))
def Er (a0:Bm) (a1:Int):Option Int :=
 (Lj (Gp a0 a1) fuel 0).bind fun x=>match x with | .inl r=>some r | .inr e4=>My a0 e4
theorem Kc {a0:Bm} {a1:Int} {r:Int} (h:Er a0 a1=some r):Bt Tryz.prog 116 [.agg [.sl a0.L.length (a0.L.flatMap Al)],.one (Ii6 a1)] (·=.s (.one (Ii6 r))):=by
 unfold Er at h
 refine A4 Tryz.func116 R (nt:=24) R (Nbl R) ?_
 intro w0 S0
 refine csr (F0 R R (rm 1 R (Ai (Br (csr (fl V7 Ajr R R R R R R (sv R (Ax Abp R) (rm 1 R (Ai (Dt (Unit) (fun b1=>[(2,.s (.one (.lp 0 0)))]) (fun b1=>[.box [.sl a0.L.length (a0.L.flatMap Al)]]) (fun b1=>My a0 b1=some r) (fun _ _=>A5 R) (fun _ _=>Ap R) (fun _ _=>Nbl R) (fun b1 h=>?_) ?_))))))))))
 ·unfold My at h
  refine csr (fl V7 Ajr R R R R R R (sv R (Ax Abp R) (rm 1 R (Ai (Bv ?_)))))
  obtain rfl:=SJ h
  exact dnT R R R R
 ·skip
  refine Bu ?_
  obtain ⟨x2,hx2,ho2⟩:=Ae h
  refine B6 (G:=Nat × (Int)) (fun g=>[(1,.s (.one (Ii6 a1))),(2,.s (.one (.lp 0 0))),(8,.s (.one (.sl a0.L.length (a0.L.flatMap Al)))),(9,.s (.one (Ii6 (a0.L.length:Int)))),(10,.s (.one (Ii6 g.2)))]) (fun g=>[.box [.sl a0.L.length (a0.L.flatMap Al)]]) (fun g=>Lj (Gp a0 a1) g.1 g.2=some x2) (fun g=>g.1) (fuel,0) hx2 ⟨R,R,R,R,R,trivial⟩ [] R (fun _ _=>A5 R) (fun _ _=>Ap R) (fun _ _=>Nbl R) ?_
  clear hx2 h
  rintro ⟨n2,s2⟩ h
  obtain ⟨n2,y2,rfl,h,hk2⟩:=Ff h
  unfold Gp at h
  refine csr (sv R (Bw R R) (Ai (Br (ccI h R (fun h=>?_) (fun h=>?_)))))
  ·refine Bj (Ab (Br (Bu (csr (sv R (Bc R) ?_)))))
   obtain ⟨u3,hu3,h⟩:=Ae h
   refine sv R (Cb (f:=Al) Abp (fun _=>R) R R R R hu3) ?_
   refine sv R (B3 (ys:=[Ii6 u3.Tok,Ii6 u3.Attempt,Ii6 u3.State,Ii6 u3.Ts]) Abb R (.cp _) R R) (Bq R Vj (rm 1 R (sst Aac R R R R R (Ai (csr (fl Yx ti3 R R R R R R (rm 1 R (sv R (B5 R R) (Ai (ccI h R (fun h=>?_) (fun h=>?_)))))))))))
   ·refine csr (rm 2 R (Ai (Bv (Ay (Ag (Ag (Ay (Ag ?_))))))))
    obtain rfl:=SJ h
    obtain rfl:Sum.inl _=x2:=hk2
    replace ho2:some _=some _:=ho2
    obtain rfl:=Option.some.inj ho2
    exact dnT R R R R
   ·refine Bj (Ar (Ab (As (sv R (Bs R R) (rm 1 R (Ai ?_))))))
    obtain rfl:=SJ h
    exact ⟨(n2,(wI (s2+1))),_,hk2,⟨R,R,R,R,R,trivial⟩,R,Nat.lt_succ_self _⟩
  ·refine Di (Au (Au (Bn (Ab ?_))))
   obtain rfl:=SJ h
   obtain rfl:_=x2:=hk2
   exact ⟨(),_,ho2,⟨R,trivial⟩,R⟩
def N9 (a0:Bm) (b1:Unit):Option Bool :=
 some (decide ((a0.L.length:Int)≤32))
def H7 (a0:Bm) (s2:Int):Option (LR (Int) (Unit) (Bool)) :=
 if (decide (s2<(a0.L.length:Int))) then ((idx a0.L s2).bind fun u3=>(F4 u3).bind fun v4=>if (!v4) then (some (.ret false)) else ((Er a0 u3.Tok).bind fun v5=>if (!decide (v5=s2)) then (some (.ret false)) else (some (.cont (wI (s2+1)))))) else (some (.brk ()))
def Dd (a0:Bm):Option Bool :=
 (Lj (H7 a0) fuel 0).bind fun x=>match x with | .inl r=>some r | .inr e6=>N9 a0 e6
theorem Ji {a0:Bm} {r:Bool} (h:Dd a0=some r):Bt Tryz.prog 47 [.agg [.sl a0.L.length (a0.L.flatMap Al)]] (·=.s (.one (.b r))):=by
 unfold Dd at h
 refine A4 Tryz.func47 R (nt:=29) R (Nbl R) ?_
 intro w0 S0
 refine csr (F0 R R (rm 1 R (Ai (Br (csr (fl V7 Ajr R R R R R R (sv R (Ax Abp R) (rm 1 R (Ai (Dt (Unit) (fun b1=>[(1,.s (.one (.lp 0 0)))]) (fun b1=>[.box [.sl a0.L.length (a0.L.flatMap Al)]]) (fun b1=>N9 a0 b1=some r) (fun _ _=>A5 R) (fun _ _=>Ap R) (fun _ _=>Nbl R) (fun b1 h=>?_) ?_))))))))))
 ·unfold N9 at h
  refine csr (fl V7 Ajr R R R R R R (sv R (Ax Abp R) (sv R (Dj R R) (rm 1 R (Ai (Bv ?_))))))
  obtain rfl:=SJ h
  exact dnT R R R R
 ·skip
  refine Bu ?_
  obtain ⟨x2,hx2,ho2⟩:=Ae h
  refine B6 (G:=Nat × (Int)) (fun g=>[(1,.s (.one (.lp 0 0))),(6,.s (.one (.sl a0.L.length (a0.L.flatMap Al)))),(7,.s (.one (Ii6 (a0.L.length:Int)))),(8,.s (.one (Ii6 g.2)))]) (fun g=>[.box [.sl a0.L.length (a0.L.flatMap Al)]]) (fun g=>Lj (H7 a0) g.1 g.2=some x2) (fun g=>g.1) (fuel,0) hx2 ⟨R,R,R,R,trivial⟩ [] R (fun _ _=>A5 R) (fun _ _=>Ap R) (fun _ _=>Nbl R) ?_
  clear hx2 h
  rintro ⟨n2,s2⟩ h
  obtain ⟨n2,y2,rfl,h,hk2⟩:=Ff h
  unfold H7 at h
  refine csr (sv R (Bw R R) (Ai (Br (ccI h R (fun h=>?_) (fun h=>?_)))))
  ·refine Bj (Ab (Br (Bu (csr (sv R (Bc R) ?_)))))
   obtain ⟨u3,hu3,h⟩:=Ae h
   refine sv R (Cb (f:=Al) Abp (fun _=>R) R R R R hu3) ?_
   refine sv R (B3 (ys:=[Ii6 u3.Tok,Ii6 u3.Attempt,Ii6 u3.State,Ii6 u3.Ts]) Abb R (.cp _) R R) (Bq R Vj (rm 1 R (sst Aac R R R R R (Ai (csr (sv R (Bf Abb R (.lp _ _ _ R) (Nbl R)) ?_))))))
   obtain ⟨v4,hv4,h⟩:=Ae h
   refine Bb R Axp (Aa R Af) (Ao R) (R6 hv4) (sv R (B2 R) (rm 1 R (ssI 16 h R (fun h=>?_) (fun h=>?_))))
   ·refine rm 7 R (Ai (Cp R (fun _=>?_) (fun hx=>Bool.noConfusion hx)))
    refine csr (rm 1 R (Ai (Bv (Ay (Ag (Ag (Ay (Ag ?_))))))))
    obtain rfl:=SJ h
    obtain rfl:Sum.inl _=x2:=hk2
    replace ho2:some _=some _:=ho2
    obtain rfl:=Option.some.inj ho2
    exact dnT R R R R
   ·refine son R R R (ld Nz R R R R (son R R R (sv R (Ac Yx R) (son R R R (sv R (Ak ti3 R (.lp _ _ _ R) R) (son R R R ?_))))))
    obtain ⟨v5,hv5,h⟩:=Ae h
    refine Bb R Am7 (Aa R (Aa R Af)) (Ao R) (Kc hv5) (rm 1 R (son R R R (sv R (Dy R R) (rm 1 R (Ai (ccI h R (fun h=>?_) (fun h=>?_)))))))
    ·refine csr (rm 1 R (Ai (Bv (Ay (Ag (Ag (Ay (Ag ?_))))))))
     obtain rfl:=SJ h
     obtain rfl:Sum.inl _=x2:=hk2
     replace ho2:some _=some _:=ho2
     obtain rfl:=Option.some.inj ho2
     exact dnT R R R R
    ·refine Bj (Ar (Ab (As (sv R (Bs R R) (rm 1 R (Ai ?_))))))
     obtain rfl:=SJ h
     exact ⟨(n2,(wI (s2+1))),_,hk2,⟨R,R,R,R,trivial⟩,R,Nat.lt_succ_self _⟩
  ·refine Di (Au (Au (Bn (Ab ?_))))
   obtain rfl:=SJ h
   obtain rfl:_=x2:=hk2
   exact ⟨(),_,ho2,⟨R,trivial⟩,R⟩
def Pl (b1:Unit):Option Int :=
 some (-1)
def Gn (a0:Am) (a1:Int) (s2:Int):Option (LR (Int) (Unit) (Int)) :=
 if (decide (s2<(a0.Open.length:Int))) then ((idx a0.Open s2).bind fun u3=>if (decide (u3.ID=a1)) then (some (.ret s2)) else (some (.cont (wI (s2+1))))) else (some (.brk ()))
def Fy (a0:Am) (a1:Int):Option Int :=
 (Lj (Gn a0 a1) fuel 0).bind fun x=>match x with | .inl r=>some r | .inr e4=>Pl e4
theorem Qk {a0:Am} {a1:Int} {r:Int} (h:Fy a0 a1=some r):Bt Tryz.prog 48 [.agg (EL.el a0),.one (Ii6 a1)] (·=.s (.one (Ii6 r))):=by
 unfold Fy at h
 refine A4 Tryz.func48 R (nt:=21) R (Nbl R) ?_
 intro w0 S0
 refine csr (F0 R R (rm 1 R (Ai (Br (csr (fl Ro Ai1 R R R R R R (sv R (Ax Yl R) (rm 1 R (Ai (Dt (Unit) (fun b1=>[]) (fun b1=>[.box (EL.el a0)]) (fun b1=>Pl b1=some r) (fun _ _=>A5 R) (fun _ _=>Ap R) (fun _ _=>Nbl R) (fun b1 h=>?_) ?_))))))))))
 ·unfold Pl at h
  refine csr (rm 1 R (Ai (Bv ?_)))
  obtain rfl:=SJ h
  exact dnT R R R R
 ·skip
  refine Bu ?_
  obtain ⟨x2,hx2,ho2⟩:=Ae h
  refine B6 (G:=Nat × (Int)) (fun g=>[(1,.s (.one (Ii6 a1))),(8,.s (.one (.sl a0.Open.length (a0.Open.flatMap Bo)))),(9,.s (.one (Ii6 (a0.Open.length:Int)))),(10,.s (.one (Ii6 g.2)))]) (fun g=>[.box (EL.el a0)]) (fun g=>Lj (Gn a0 a1) g.1 g.2=some x2) (fun g=>g.1) (fuel,0) hx2 ⟨R,R,R,R,trivial⟩ [] R (fun _ _=>A5 R) (fun _ _=>Ap R) (fun _ _=>Nbl R) ?_
  clear hx2 h
  rintro ⟨n2,s2⟩ h
  obtain ⟨n2,y2,rfl,h,hk2⟩:=Ff h
  unfold Gn at h
  refine csr (sv R (Bw R R) (Ai (Br (ccI h R (fun h=>?_) (fun h=>?_)))))
  ·refine Bj (Ab (Br (Bu (csr (sv R (Bc R) ?_)))))
   obtain ⟨u3,hu3,h⟩:=Ae h
   refine sv R (Cb (f:=Bo) Yl (fun _=>R) R R R R hu3) ?_
   refine sv R (B3 (ys:=[Ii6 u3.ID,Ii6 u3.Token,Ii6 u3.Attempt,Ii6 u3.Snap,.b u3.RO,.sl u3.Buf.L.length (u3.Buf.L.flatMap Ba)]) Vv R (.cp _) R R) (Bq R Zv (rm 1 R (sst Zx R R R R R (Ai (csr (fl Ri ti3 R R R R R R (rm 1 R (sv R (B5 R R) (Ai (ccI h R (fun h=>?_) (fun h=>?_)))))))))))
   ·refine csr (rm 2 R (Ai (Bv (Ay (Ag (Ag (Ay (Ag ?_))))))))
    obtain rfl:=SJ h
    obtain rfl:Sum.inl _=x2:=hk2
    replace ho2:some _=some _:=ho2
    obtain rfl:=Option.some.inj ho2
    exact dnT R R R R
   ·refine Bj (Ar (Ab (As (sv R (Bs R R) (rm 1 R (Ai ?_))))))
    obtain rfl:=SJ h
    exact ⟨(n2,(wI (s2+1))),_,hk2,⟨R,R,R,R,trivial⟩,R,Nat.lt_succ_self _⟩
  ·refine Di (Au (Au (Bn (Ab ?_))))
   obtain rfl:=SJ h
   obtain rfl:_=x2:=hk2
   exact ⟨(),_,ho2,trivial,R⟩
def Gz (a0:Bh) (a1:Int):Option Int :=
 (Nn a0.Txs).bind fun v1=>(En v1 a1).bind fun v2=>some v2
theorem Pm {a0:Bh} {a1:Int} {r:Int} (h:Gz a0 a1=some r):Bt Tryz.prog 132 [.agg (EL.el a0),.one (Ii6 a1)] (·=.s (.one (Ii6 r))):=by
 unfold Gz at h
 refine A4 Tryz.func132 R (nt:=10) R (Nbl R) ?_
 intro w0 S0
 refine csr (F0 R R (rm 1 R (Ai (csr (sv R (Ac Of R) (sv R (Ak Aaa R (.lp _ _ _ R) R) ?_))))))
 obtain ⟨v1,hv1,h⟩:=Ae h
 refine Bb R Aso (Aa R Af) (Ao R) (Uk hv1) (sv R (Bc R) ?_)
 obtain ⟨v2,hv2,h⟩:=Ae h
 refine Bb R At4 (Aa R (Aa R Af)) (Ao R) (Ql hv2) (rm 1 R (Ai (Bv ?_)))
 obtain rfl:=SJ h
 exact dnT R R R R
def Kh (a0:Bh) (a1:Int):Option (A2 × Bool) :=
 (Gz a0 a1).bind fun v1=>if (decide (v1<0)) then (some (W8,false)) else ((idx a0.Txs v1).bind fun u2=>some (u2,true))
theorem Zi {a0:Bh} {a1:Int} {r:A2 × Bool} (h:Kh a0 a1=some r):Bt Tryz.prog 189 [.agg (EL.el a0),.one (Ii6 a1)] (·=.tup [.agg (EL.el r.1),.one (.b r.2)]):=by
 unfold Kh at h
 refine A4 Tryz.func189 R (nt:=18) R (Nbl R) ?_
 intro w0 S0
 refine csr (F0 R R (Bq R Sj (rm 1 R (Ai (csr (ld P9 R R R R (sv R (Bc R) ?_)))))))
 obtain ⟨v1,hv1,h⟩:=Ae h
 refine Bb R Aqe (Aa R (Aa R Af)) (Ao R) (Pm hv1) (rm 1 R (Ai (Br (csr (rm 1 R (sv R (Bw R R) (Ai (ccI h R (fun h=>?_) (fun h=>?_)))))))))
 ·refine csr (sv R (A6 Sj Asj Az (.nil _)) (sst Rx R R R R R (rm 1 R (Ai (Bv (Ag ?_))))))
  obtain rfl:=SJ h
  exact dn (Ad (ra I6 R R R) (Ad (rt R) Ah)) (Iz R) R
 ·refine Bj (Ab (csr (fl Of Aaa R R R R R R (sv R (Bc R) ?_))))
  obtain ⟨u2,hu2,h⟩:=Ae h
  refine sv R (Cb (f:=Be) P7 (fun _=>R) R R R R hu2) ?_
  refine sv R (B3 (ys:=[Ii6 u2.ID,Ii6 u2.Begin,Ii6 u2.End,Ii6 u2.State,.b u2.In,.b u2.Out,.b u2.RO,.sl u2.Keys.length (u2.Keys.flatMap (eL eU8))]) I6 R (.cp _) R R) (sst Rx R R R R R (rm 1 R (Ai (Bv ?_))))
  obtain rfl:=SJ h
  exact dn (Ad (ra I6 R R R) (Ad (rt R) Ah)) (Ao R) R
def J2 (a0:Am) (a1:Bl):Option Bool :=
 (Kh a0.Cert a1.ID).bind fun v1=>if (decide (v1.1.State=1)) then (if (decide (v1.1.Begin=a1.Snap)) then (if (v1.1.RO == a1.RO) then (if (decide (a1.Snap≤a0.Store.Ts)) then ((Fe a1.Buf).bind fun v2=>if v2 then (if a1.RO then (some (!(decide (0<(a1.Buf.L.length:Int))))) else (some true)) else (some false)) else (some false)) else (some false)) else (some false)) else (some false)
theorem Vh {a0:Am} {a1:Bl} {r:Bool} (h:J2 a0 a1=some r):Bt Tryz.prog 117 [.agg (EL.el a0),.agg (EL.el a1)] (·=.s (.one (.b r))):=by
 unfold J2 at h
 refine A4 Tryz.func117 R (nt:=57) R (Nbl R) ?_
 intro w0 S0
 refine csr (F0 R R (F0 R R (rm 1 R (Ai (csr (sv R (Ac Sz R) (ld P9 R R R R (sv R (Ac Ri R) (sv R (Ak ti3 R (.lp _ _ _ R) R) ?_)))))))))
 obtain ⟨v1,hv1,h⟩:=Ae h
 refine Bb R Axi (Aa R (Aa R Af)) (Ao R) (Zi hv1) (sv R (Cd R) (sv R (Aj R R) (sv R (Aj R R) (Bq R Sj (sst Rx R R R R R (rm 1 R (Ai (csr (fl Oo ti3 R R R R R R (sv R (B5 R R) (rm 1 R (ssI 18 h R (fun h=>?_) (fun h=>?_)))))))))))))
 ·refine son R R R (sv R (Ac Ux R) (son R R R (sv R (Ak ti3 R (.lp _ _ _ R) R) (son R R R (sv R (Ac Agk R) (son R R R (sv R (Ak ti3 R (.lp _ _ _ R) R) (son R R R (sv R (B5 R R) (rm 2 R (ssI 25 h R (fun h=>?_) (fun h=>?_))))))))))))
  ·refine son R R R (sv R (Ac Aei R) (son R R R (sv R (Ak ti4 R (.lp _ _ _ R) R) (son R R R (sv R (Ac Aj3 R) (son R R R (sv R (Ak ti4 R (.lp _ _ _ R) R) (son R R R (sv R (Ags Tryz.underlying4 R R) (rm 2 R (ssI 32 h R (fun h=>?_) (fun h=>?_))))))))))))
   ·refine son R R R (sv R (Ac Agk R) (son R R R (sv R (Ak ti3 R (.lp _ _ _ R) R) (son R R R (sv R (Ac Tl R) (son R R R (sv R (Ac Sb R) (son R R R (sv R (Ak ti3 R (.lp _ _ _ R) R) (son R R R (sv R (Dj R R) (rm 2 R (ssI 40 h R (fun h=>?_) (fun h=>?_))))))))))))))
    ·refine son R R R (sv R (Ac Xj R) (son R R R (ld Af3 R R R R (son R R R ?_))))
     obtain ⟨v2,hv2,h⟩:=Ae h
     refine Bb R Aqn (Aa R Af) (Ao R) (Oe hv2) (rm 2 R (ssI 45 h R (fun h=>?_) (fun h=>?_)))
     ·refine son R R R (sv R (Ac Aj3 R) (son R R R (sv R (Ak ti4 R (.lp _ _ _ R) R) (rm 1 R (ssI 48 h R (fun h=>?_) (fun h=>?_))))))
      ·refine son R R R (sv R (Ac Xj R) (son R R R (sv R (Ac V2 R) (son R R R (sv R (Ak Ani R (.lp _ _ _ R) R) (son R R R (sv R (Ax Ab9 R) (son R R R (sv R (C7 R R) (rm 1 R (son R R R (sv R (B2 R) (rm 2 R (Ai (Bv ?_)))))))))))))))
       obtain rfl:=SJ h
       exact dnT R R R R
      ·refine rm 6 R (son R R R (sv R (B2 R) (rm 2 R (Ai (Bv ?_)))))
       obtain rfl:=SJ h
       exact dnT R R R R
     ·refine rm 3 R (Cl R R R (Cl R R R (Cl R R R (Cl R R R (Cl R R R (rm 4 R (Ai (Bv ?_))))))))
      obtain rfl:=SJ h
      exact dnT R R R R
    ·refine rm 8 R (Cl R R R (Cl R R R (Cl R R R (Cl R R R (Cl R R R (rm 4 R (Ai (Bv ?_))))))))
     obtain rfl:=SJ h
     exact dnT R R R R
   ·refine rm 16 R (Cl R R R (Cl R R R (Cl R R R (Cl R R R (Cl R R R (rm 4 R (Ai (Bv ?_))))))))
    obtain rfl:=SJ h
    exact dnT R R R R
  ·refine rm 23 R (Cl R R R (Cl R R R (Cl R R R (Cl R R R (Cl R R R (rm 4 R (Ai (Bv ?_))))))))
   obtain rfl:=SJ h
   exact dnT R R R R
 ·refine rm 30 R (Cl R R R (Cl R R R (Cl R R R (Cl R R R (Cl R R R (rm 4 R (Ai (Bv ?_))))))))
  obtain rfl:=SJ h
  exact dnT R R R R
def Mw (a0:Am) (b1:Unit):Option Bool :=
 some (decide ((a0.Open.length:Int)≤16))
def Gq (s2:Int × Int) (u3:Bl) (b6:Unit):Option (LR (Int × Int) (Unit) (Bool)) :=
 some (.cont (u3.ID,(wI (s2.2+1))))
def Fa (u3:Bl) (c5:List Bl) (s7:Int):Option (LR (Int) (Unit) (Bool)) :=
 if (decide (s7<(c5.length:Int))) then ((idx c5 s7).bind fun u8=>if (decide (u8.Token=u3.Token)) then (some (.ret false)) else (some (.cont (wI (s7+1))))) else (some (.brk ()))
def Jb (a0:Am) (s2:Int × Int) (u3:Bl) (b4:Unit):Option (LR (Int × Int) (Unit) (Bool)) :=
 (cut a0.Open 0 s2.2).bind fun c5=>(Lj (Fa u3 c5) fuel 0).bind fun x=>match x with | .inl r=>some (.ret r) | .inr e9=>Gq s2 u3 e9
def Gv (a0:Am) (s2:Int × Int):Option (LR (Int × Int) (Unit) (Bool)) :=
 if (decide (s2.2<(a0.Open.length:Int))) then ((idx a0.Open s2.2).bind fun u3=>if (decide (u3.ID≤s2.1)) then (some (.ret false)) else (if (decide (a0.Next≤u3.ID)) then (some (.ret false)) else ((J2 a0 u3).bind fun v10=>if (!v10) then (some (.ret false)) else (Jb a0 s2 u3 ())))) else (some (.brk ()))
def Jk (a0:Am):Option Bool :=
 (Lj (Gv a0) fuel ((-1),0)).bind fun x=>match x with | .inl r=>some r | .inr e11=>Mw a0 e11
theorem Vf {a0:Am} {r:Bool} (h:Jk a0=some r):Bt Tryz.prog 49 [.agg (EL.el a0)] (·=.s (.one (.b r))):=by
 unfold Jk at h
 refine A4 Tryz.func49 R (nt:=55) R (Nbl R) ?_
 intro w0 S0
 refine csr (F0 R R (rm 1 R (Ai (csr (rm 1 R (Ai (Br (csr (fl Ro Ai1 R R R R R R (sv R (Ax Yl R) (rm 1 R (Ai (Dt (Unit) (fun b1=>[(1,.s (.one (.lp 0 0)))]) (fun b1=>[.box (EL.el a0)]) (fun b1=>Mw a0 b1=some r) (fun _ _=>A5 R) (fun _ _=>Ap R) (fun _ _=>Nbl R) (fun b1 h=>?_) ?_)))))))))))))
 ·unfold Mw at h
  refine csr (fl Ro Ai1 R R R R R R (sv R (Ax Yl R) (sv R (Dj R R) (rm 1 R (Ai (Bv ?_))))))
  obtain rfl:=SJ h
  exact dnT R R R R
 ·skip
  refine Bu ?_
  obtain ⟨x2,hx2,ho2⟩:=Ae h
  refine B6 (G:=Nat × (Int × Int)) (fun g=>[(1,.s (.one (.lp 0 0))),(3,.s (.one (Ii6 g.2.1))),(9,.s (.one (.sl a0.Open.length (a0.Open.flatMap Bo)))),(10,.s (.one (Ii6 (a0.Open.length:Int)))),(11,.s (.one (Ii6 g.2.2)))]) (fun g=>[.box (EL.el a0)]) (fun g=>Lj (Gv a0) g.1 g.2=some x2) (fun g=>g.1) (fuel,((-1),0)) hx2 ⟨R,R,R,R,R,trivial⟩ [] R (fun _ _=>A5 R) (fun _ _=>Ap R) (fun _ _=>Nbl R) ?_
  clear hx2 h
  rintro ⟨n2,s2⟩ h
  obtain ⟨n2,y2,rfl,h,hk2⟩:=Ff h
  unfold Gv at h
  refine csr (sv R (Bw R R) (Ai (Br (ccI h R (fun h=>?_) (fun h=>?_)))))
  ·refine Bj (Ab (Br (Bu (csr (sv R (Bc R) ?_)))))
   obtain ⟨u3,hu3,h⟩:=Ae h
   refine sv R (Cb (f:=Bo) Yl (fun _=>R) R R R R hu3) ?_
   refine sv R (B3 (ys:=[Ii6 u3.ID,Ii6 u3.Token,Ii6 u3.Attempt,Ii6 u3.Snap,.b u3.RO,.sl u3.Buf.L.length (u3.Buf.L.flatMap Ba)]) Vv R (.cp _) R R) (Bq R Zv (rm 1 R (sst Zx R R R R R (Ai (Br (Br (Hp (Unit) (fun b4=>[(1,.s (.one (.lp 0 0))),(4,.s (.one (Ii6 s2.2))),(5,.s (.one (.lp 1 0))),(9,.s (.one (.sl a0.Open.length (a0.Open.flatMap Bo)))),(10,.s (.one (Ii6 (a0.Open.length:Int)))),(11,.s (.one (Ii6 s2.2)))]) (fun b4=>[.box (EL.el a0),.box (EL.el u3)]) (fun b4=>Jb a0 s2 u3 b4=some y2) (fun _ _=>A5 R) (fun _ _=>Ap R) (fun _ _=>Nbl R) (fun b4 h=>?_) ?_)))))))
   ·unfold Jb at h
    refine Br (csr (fl Ro Ai1 R R R R R R (sv R (Bc R) ?_)))
    obtain ⟨c5,hc5,h⟩:=Ae h
    refine sv R (W9 (f:=Bo) (lo:=0) (hi:=s2.2) Yl (fun _=>R) R R R Tr (P6 R (Int.le_trans (Te hc5).1.1 (Te hc5).1.2.1)) hc5) ?_
    refine sv R (Ax Yl R) (rm 1 R (Ai (Dt (Unit) (fun b6=>[(1,.s (.one (.lp 0 0))),(5,.s (.one (.lp 1 0))),(9,.s (.one (.sl a0.Open.length (a0.Open.flatMap Bo)))),(10,.s (.one (Ii6 (a0.Open.length:Int)))),(11,.s (.one (Ii6 s2.2)))]) (fun b6=>[.box (EL.el a0),.box (EL.el u3)]) (fun b6=>Gq s2 u3 b6=some y2) (fun _ _=>A5 R) (fun _ _=>Ap R) (fun _ _=>Nbl R) (fun b6 h=>?_) ?_)))
    ·unfold Gq at h
     refine As (fl Ri ti3 R R R R R R (rm 1 R (Ks (Ar (Ab (As (sv R (Bs R R) (rm 1 R (Ai ?_)))))))))
     obtain rfl:=SJ h
     exact ⟨(n2,(u3.ID,(wI (s2.2+1)))),_,hk2,⟨R,R,R,R,R,trivial⟩,R,Nat.lt_succ_self _⟩
    ·skip
     refine Bu ?_
     obtain ⟨x7,hx7,ho7⟩:=Ae h
     refine B6 (G:=Nat × (Int)) (fun g=>[(1,.s (.one (.lp 0 0))),(5,.s (.one (.lp 1 0))),(9,.s (.one (.sl a0.Open.length (a0.Open.flatMap Bo)))),(10,.s (.one (Ii6 (a0.Open.length:Int)))),(11,.s (.one (Ii6 s2.2))),(36,.s (.one (.sl c5.length (c5.flatMap Bo)))),(37,.s (.one (Ii6 (c5.length:Int)))),(38,.s (.one (Ii6 g.2)))]) (fun g=>[.box (EL.el a0),.box (EL.el u3)]) (fun g=>Lj (Fa u3 c5) g.1 g.2=some x7) (fun g=>g.1) (fuel,0) hx7 ⟨R,R,R,R,R,R,R,R,trivial⟩ [] R (fun _ _=>A5 R) (fun _ _=>Ap R) (fun _ _=>Nbl R) ?_
     clear hx7 h
     rintro ⟨n7,s7⟩ h
     obtain ⟨n7,y7,rfl,h,hk7⟩:=Ff h
     unfold Fa at h
     refine csr (sv R (Bw R R) (Ai (Br (ccI h R (fun h=>?_) (fun h=>?_)))))
     ·refine Bj (Ab (Br (Bu (Br (As ?_)))))
      obtain ⟨u8,hu8,h⟩:=Ae h
      refine sv R (Cb (f:=Bo) Yl (fun _=>R) R R R R hu8) ?_
      refine sv R (B3 (ys:=[Ii6 u8.ID,Ii6 u8.Token,Ii6 u8.Attempt,Ii6 u8.Snap,.b u8.RO,.sl u8.Buf.L.length (u8.Buf.L.flatMap Ba)]) Vv R (.cp _) R R) (Bq R Zv (sst Zx R R R R R (Ai (csr (fl Aao ti3 R R R R R R (fl Aao ti3 R R R R R R (sv R (B5 R R) (Ai (ccI h R (fun h=>?_) (fun h=>?_))))))))))
      ·refine csr (rm 1 R (Ai (Bv (Ay (Ag (Ag (Ay (Ag (Ay (Ag (Ag (Ay (Ag ?_)))))))))))))
       obtain rfl:=SJ h
       obtain rfl:Sum.inl _=x7:=hk7
       replace ho7:some _=some _:=ho7
       obtain rfl:=Option.some.inj ho7
       obtain rfl:Sum.inl _=x2:=hk2
       replace ho2:some _=some _:=ho2
       obtain rfl:=Option.some.inj ho2
       exact dnT R R R R
      ·refine Bj (Ar (Ab (As (sv R (Bs R R) (rm 1 R (Ai ?_))))))
       obtain rfl:=SJ h
       exact ⟨(n7,(wI (s7+1))),_,hk7,⟨R,R,R,R,R,R,R,R,trivial⟩,R,Nat.lt_succ_self _⟩
     ·refine Di (Au (Au (Bn (Ab ?_))))
      obtain rfl:=SJ h
      obtain rfl:_=x7:=hk7
      exact ⟨(),_,ho7,⟨R,R,R,R,R,trivial⟩,R⟩
   ·skip
    refine As (fl Ri ti3 R R R R R R (rm 1 R (sv R (Dj R R) (rm 1 R (ssI 20 h R (fun h=>?_) (fun h=>?_))))))
    ·refine rm 12 R (Ai (Cp R (fun _=>?_) (fun hx=>Bool.noConfusion hx)))
     refine csr (rm 1 R (Ai (Bv (Ag (Ay (Ag (Ag (Ay (Ag ?_)))))))))
     obtain rfl:=SJ h
     obtain rfl:Sum.inl _=x2:=hk2
     replace ho2:some _=some _:=ho2
     obtain rfl:=Option.some.inj ho2
     exact dnT R R R R
    ·refine son R R R (sv R (Ac Ri R) (son R R R (sv R (Ak ti3 R (.lp _ _ _ R) R) (son R R R (sv R (Ac Ui R) (son R R R (sv R (Ak ti3 R (.lp _ _ _ R) R) (son R R R (sv R (He R R) (rm 2 R (ssI 27 h R (fun h=>?_) (fun h=>?_))))))))))))
     ·refine rm 5 R (Ai (Cp R (fun _=>?_) (fun hx=>Bool.noConfusion hx)))
      refine csr (rm 1 R (Ai (Bv (Ag (Ay (Ag (Ag (Ay (Ag ?_)))))))))
      obtain rfl:=SJ h
      obtain rfl:Sum.inl _=x2:=hk2
      replace ho2:some _=some _:=ho2
      obtain rfl:=Option.some.inj ho2
      exact dnT R R R R
     ·refine son R R R (ld Dh R R R R (son R R R (ld Vv R R R R (son R R R ?_))))
      obtain ⟨v10,hv10,h⟩:=Ae h
      refine Bb R Axs (Aa R (Aa R Af)) (Ao R) (Vh hv10) (son R R R (sv R (B2 R) (rm 1 R (Ai (ccI h R (fun h=>?_) (fun h=>?_))))))
      ·refine csr (rm 1 R (Ai (Bv (Ag (Ay (Ag (Ag (Ay (Ag ?_)))))))))
       obtain rfl:=SJ h
       obtain rfl:Sum.inl _=x2:=hk2
       replace ho2:some _=some _:=ho2
       obtain rfl:=Option.some.inj ho2
       exact dnT R R R R
      ·refine Bj (Ab ?_)
       exact ⟨(),_,h,⟨R,R,R,R,R,R,trivial⟩,R⟩
  ·refine Di (Au (Au (Bn (Ab ?_))))
   obtain rfl:=SJ h
   obtain rfl:_=x2:=hk2
   exact ⟨(),_,ho2,⟨R,trivial⟩,R⟩
def Lx (a0:Am) (b2:Unit):Option Bool :=
 (Jk a0).bind fun v3=>some v3
def L3 (a0:Am) (s4:Int):Option (LR (Int) (Unit) (Bool)) :=
 if (decide (s4<(a0.Cert.Txs.length:Int))) then ((idx a0.Cert.Txs s4).bind fun u5=>if (decide (a0.Store.Ts<u5.End)) then (some (.ret false)) else (if (decide (u5.State=1)) then ((Fy a0 u5.ID).bind fun v6=>if (decide (v6<0)) then (some (.ret false)) else (some (.cont (wI (s4+1))))) else (some (.cont (wI (s4+1)))))) else (some (.brk ()))
def Ny (a0:Am) (b1:Unit):Option Bool :=
 (Lj (L3 a0) fuel 0).bind fun x=>match x with | .inl r=>some r | .inr e7=>Lx a0 e7
def Iv (a0:Am):Option Bool :=
 (C3 a0.Store).bind fun v8=>if (!v8) then (some false) else ((J9 a0.Cert).bind fun v9=>if (!v9) then (some false) else ((Dd a0.Toks).bind fun v10=>if (!v10) then (some false) else (if (decide (a0.Next<0)) then (some false) else (if (decide (1099511627776<a0.Next)) then (some false) else (Ny a0 ())))))
theorem M2 {a0:Am} {r:Bool} (h:Iv a0=some r):Bt Tryz.prog 16 [.agg (EL.el a0)] (·=.s (.one (.b r))):=by
 unfold Iv at h
 refine A4 Tryz.func16 R (nt:=60) R (Nbl R) ?_
 intro w0 S0
 refine csr (F0 R R (rm 1 R (Ai (Br (Br (Hp (Unit) (fun b1=>[(1,.s (.one (.lp 0 0)))]) (fun b1=>[.box (EL.el a0)]) (fun b1=>Ny a0 b1=some r) (fun _ _=>A5 R) (fun _ _=>Ap R) (fun _ _=>Nbl R) (fun b1 h=>?_) ?_))))))
 ·unfold Ny at h
  refine Br (csr (sv R (Ac Sz R) (fl Of Aaa R R R R R R (sv R (Ax P7 R) (rm 1 R (Ai (Dt (Unit) (fun b2=>[(1,.s (.one (.lp 0 0)))]) (fun b2=>[.box (EL.el a0)]) (fun b2=>Lx a0 b2=some r) (fun _ _=>A5 R) (fun _ _=>Ap R) (fun _ _=>Nbl R) (fun b2 h=>?_) ?_)))))))
  ·unfold Lx at h
   refine csr (sv R (Bf Dh R (.lp _ _ _ R) (Nbl R)) ?_)
   obtain ⟨v3,hv3,h⟩:=Ae h
   refine Bb R Ayv (Aa R Af) (Ao R) (Vf hv3) (rm 1 R (Ai (Bv ?_)))
   obtain rfl:=SJ h
   exact dnT R R R R
  ·skip
   refine Bu ?_
   obtain ⟨x4,hx4,ho4⟩:=Ae h
   refine B6 (G:=Nat × (Int)) (fun g=>[(1,.s (.one (.lp 0 0))),(33,.s (.one (.sl a0.Cert.Txs.length (a0.Cert.Txs.flatMap Be)))),(34,.s (.one (Ii6 (a0.Cert.Txs.length:Int)))),(35,.s (.one (Ii6 g.2)))]) (fun g=>[.box (EL.el a0)]) (fun g=>Lj (L3 a0) g.1 g.2=some x4) (fun g=>g.1) (fuel,0) hx4 ⟨R,R,R,R,trivial⟩ [] R (fun _ _=>A5 R) (fun _ _=>Ap R) (fun _ _=>Nbl R) ?_
   clear hx4 h
   rintro ⟨n4,s4⟩ h
   obtain ⟨n4,y4,rfl,h,hk4⟩:=Ff h
   unfold L3 at h
   refine csr (sv R (Bw R R) (Ai (Br (ccI h R (fun h=>?_) (fun h=>?_)))))
   ·refine Bj (Ab (Br (Bu (Br (As ?_)))))
    obtain ⟨u5,hu5,h⟩:=Ae h
    refine sv R (Cb (f:=Be) P7 (fun _=>R) R R R R hu5) ?_
    refine sv R (B3 (ys:=[Ii6 u5.ID,Ii6 u5.Begin,Ii6 u5.End,Ii6 u5.State,.b u5.In,.b u5.Out,.b u5.RO,.sl u5.Keys.length (u5.Keys.flatMap (eL eU8))]) I6 R (.cp _) R R) (Bq R Sj (sst Rx R R R R R (Ai (csr (fl Qg ti3 R R R R R R (sv R (Ac Tl R) (fl Sb ti3 R R R R R R (sv R (C7 R R) (rm 1 R (ssI 45 h R (fun h=>?_) (fun h=>?_)))))))))))
    ·refine rm 4 R (Cl R R R (Cl R R R (Cl R R R (Cl R R R (Cl R R R (rm 2 R (Ai (Cp R (fun _=>?_) (fun hx=>Bool.noConfusion hx)))))))))
     refine csr (rm 1 R (Ai (Bv (Ay (Ag (Ag (Ay (Ag ?_))))))))
     obtain rfl:=SJ h
     obtain rfl:Sum.inl _=x4:=hk4
     replace ho4:some _=some _:=ho4
     obtain rfl:=Option.some.inj ho4
     exact dnT R R R R
    ·refine son R R R (sv R (Ac Oo R) (son R R R (sv R (Ak ti3 R (.lp _ _ _ R) R) (son R R R (sv R (B5 R R) (rm 1 R (ssI 49 h R (fun h=>?_) (fun h=>?_))))))))
     ·refine son R R R (ld Dh R R R R (son R R R (sv R (Ac Sv R) (son R R R (sv R (Ak ti3 R (.lp _ _ _ R) R) (son R R R ?_))))))
      obtain ⟨v6,hv6,h⟩:=Ae h
      refine Bb R Avx (Aa R (Aa R Af)) (Ao R) (Qk hv6) (son R R R (sv R (Bw R R) (rm 2 R (Ai (ccI h R (fun h=>?_) (fun h=>?_))))))
      ·refine csr (rm 1 R (Ai (Bv (Ay (Ag (Ag (Ay (Ag ?_))))))))
       obtain rfl:=SJ h
       obtain rfl:Sum.inl _=x4:=hk4
       replace ho4:some _=some _:=ho4
       obtain rfl:=Option.some.inj ho4
       exact dnT R R R R
      ·refine Bj (Ar (Ab (As (sv R (Bs R R) (rm 1 R (Ai ?_))))))
       obtain rfl:=SJ h
       exact ⟨(n4,(wI (s4+1))),_,hk4,⟨R,R,R,R,trivial⟩,R,Nat.lt_succ_self _⟩
     ·refine rm 7 R (Ai (Cp R (fun hx=>Bool.noConfusion hx) (fun _=>?_)))
      refine Bj (Ar (Ab (As (sv R (Bs R R) (rm 1 R (Ai ?_))))))
      obtain rfl:=SJ h
      exact ⟨(n4,(wI (s4+1))),_,hk4,⟨R,R,R,R,trivial⟩,R,Nat.lt_succ_self _⟩
   ·refine Di (Au (Au (Bn (Ab ?_))))
    obtain rfl:=SJ h
    obtain rfl:_=x4:=hk4
    exact ⟨(),_,ho4,⟨R,trivial⟩,R⟩
 ·skip
  refine As (sv R (Ac Tl R) (sv R (Bf Xk R (.lp _ _ _ R) (Nbl R)) ?_))
  obtain ⟨v8,hv8,h⟩:=Ae h
  refine Bb R At2 (Aa R Af) (Ao R) (Kv hv8) (sv R (B2 R) (rm 1 R (ssI 9 h R (fun h=>?_) (fun h=>?_))))
  ·refine rm 21 R (Ai (Cp R (fun _=>?_) (fun hx=>Bool.noConfusion hx)))
   refine csr (rm 1 R (Ai (Bv (Ag ?_))))
   obtain rfl:=SJ h
   exact dnT R R R R
  ·refine son R R R (sv R (Ac Sz R) (son R R R (ld P9 R R R R (son R R R ?_))))
   obtain ⟨v9,hv9,h⟩:=Ae h
   refine Bb R Au7 (Aa R Af) (Ao R) (O4 hv9) (son R R R (sv R (B2 R) (rm 2 R (ssI 15 h R (fun h=>?_) (fun h=>?_)))))
   ·refine rm 15 R (Ai (Cp R (fun _=>?_) (fun hx=>Bool.noConfusion hx)))
    refine csr (rm 1 R (Ai (Bv (Ag ?_))))
    obtain rfl:=SJ h
    exact dnT R R R R
   ·refine son R R R (sv R (Ac Uj R) (son R R R (ld Nz R R R R (son R R R ?_))))
    obtain ⟨v10,hv10,h⟩:=Ae h
    refine Bb R At3 (Aa R Af) (Ao R) (Ji hv10) (son R R R (sv R (B2 R) (rm 2 R (ssI 21 h R (fun h=>?_) (fun h=>?_)))))
    ·refine rm 9 R (Ai (Cp R (fun _=>?_) (fun hx=>Bool.noConfusion hx)))
     refine csr (rm 1 R (Ai (Bv (Ag ?_))))
     obtain rfl:=SJ h
     exact dnT R R R R
    ·refine son R R R (sv R (Ac Ui R) (son R R R (sv R (Ak ti3 R (.lp _ _ _ R) R) (son R R R (sv R (Bw R R) (rm 2 R (ssI 26 h R (fun h=>?_) (fun h=>?_))))))))
     ·refine rm 4 R (Ai (Cp R (fun _=>?_) (fun hx=>Bool.noConfusion hx)))
      refine csr (rm 1 R (Ai (Bv (Ag ?_))))
      obtain rfl:=SJ h
      exact dnT R R R R
     ·refine son R R R (sv R (Ac Ui R) (son R R R (sv R (Ak ti3 R (.lp _ _ _ R) R) (son R R R (sv R (C7 R R) (rm 1 R (Ai (ccI h R (fun h=>?_) (fun h=>?_)))))))))
      ·refine csr (rm 1 R (Ai (Bv (Ag ?_))))
       obtain rfl:=SJ h
       exact dnT R R R R
      ·refine Bj (Ab ?_)
       exact ⟨(),_,h,⟨R,trivial⟩,R⟩
def Nq (b1:Unit):Option (Bl × Bool) :=
 some (Pf,false)
def H8 (a0:Am) (a1:Int) (s2:Int):Option (LR (Int) (Unit) (Bl × Bool)) :=
 if (decide (s2<(a0.Open.length:Int))) then ((idx a0.Open s2).bind fun u3=>if (decide (u3.Token=a1)) then (some (.ret (u3,true))) else (some (.cont (wI (s2+1))))) else (some (.brk ()))
def Jw (a0:Am) (a1:Int):Option (Bl × Bool) :=
 (Lj (H8 a0 a1) fuel 0).bind fun x=>match x with | .inl r=>some r | .inr e4=>Nq e4
theorem Rh {a0:Am} {a1:Int} {r:Bl × Bool} (h:Jw a0 a1=some r):Bt Tryz.prog 56 [.agg (EL.el a0),.one (Ii6 a1)] (·=.tup [.agg (EL.el r.1),.one (.b r.2)]):=by
 unfold Jw at h
 refine A4 Tryz.func56 R (nt:=22) R (Nbl R) ?_
 intro w0 S0
 refine csr (F0 R R (Bq R Zv (rm 1 R (Ai (Br (csr (fl Ro Ai1 R R R R R R (sv R (Ax Yl R) (rm 1 R (Ai (Dt (Unit) (fun b1=>[(4,.s (.one (.lp 1 0)))]) (fun b1=>[.box (EL.el a0),.box [Ii6 0,Ii6 0,Ii6 0,Ii6 0,.b false,Znl]]) (fun b1=>Nq b1=some r) (fun _ _=>A5 R) (fun _ _=>Ap R) (fun _ _=>Nbl R) (fun b1 h=>?_) ?_)))))))))))
 ·unfold Nq at h
  refine csr (sv R (A6 Zv Au5 Az (.nil _)) (sst Zx R R R R R (rm 1 R (Ai (Bv ?_)))))
  obtain rfl:=SJ h
  exact dn (Ad (ra Vv R R R) (Ad (rt R) Ah)) (Iz R) R
 ·skip
  refine Bu ?_
  obtain ⟨x2,hx2,ho2⟩:=Ae h
  refine B6 (G:=Nat × (Int)) (fun g=>[(1,.s (.one (Ii6 a1))),(4,.s (.one (.lp 1 0))),(9,.s (.one (.sl a0.Open.length (a0.Open.flatMap Bo)))),(10,.s (.one (Ii6 (a0.Open.length:Int)))),(11,.s (.one (Ii6 g.2)))]) (fun g=>[.box (EL.el a0),.box [Ii6 0,Ii6 0,Ii6 0,Ii6 0,.b false,Znl]]) (fun g=>Lj (H8 a0 a1) g.1 g.2=some x2) (fun g=>g.1) (fuel,0) hx2 ⟨R,R,R,R,R,trivial⟩ [] R (fun _ _=>A5 R) (fun _ _=>Ap R) (fun _ _=>Nbl R) ?_
  clear hx2 h
  rintro ⟨n2,s2⟩ h
  obtain ⟨n2,y2,rfl,h,hk2⟩:=Ff h
  unfold H8 at h
  refine csr (sv R (Bw R R) (Ai (Br (ccI h R (fun h=>?_) (fun h=>?_)))))
  ·refine Bj (Ab (Br (Bu (Br (As ?_)))))
   obtain ⟨u3,hu3,h⟩:=Ae h
   refine sv R (Cb (f:=Bo) Yl (fun _=>R) R R R R hu3) ?_
   refine sv R (B3 (ys:=[Ii6 u3.ID,Ii6 u3.Token,Ii6 u3.Attempt,Ii6 u3.Snap,.b u3.RO,.sl u3.Buf.L.length (u3.Buf.L.flatMap Ba)]) Vv R (.cp _) R R) (Bq R Zv (sst Zx R R R R R (Ai (csr (fl Aao ti3 R R R R R R (rm 1 R (sv R (B5 R R) (Ai (ccI h R (fun h=>?_) (fun h=>?_))))))))))
   ·refine csr (ld Vv R R R R (sst Zx R R R R R (rm 1 R (Ai (Bv (Ay (Ag (Ag (Ay (Ag ?_))))))))))
    obtain rfl:=SJ h
    obtain rfl:Sum.inl _=x2:=hk2
    replace ho2:some _=some _:=ho2
    obtain rfl:=Option.some.inj ho2
    exact dn (Ad (ra Vv R R R) (Ad (rt R) Ah)) (Ao R) R
   ·refine Bj (Ar (Ab (As (sv R (Bs R R) (rm 1 R (Ai ?_))))))
    obtain rfl:=SJ h
    exact ⟨(n2,(wI (s2+1))),_,hk2,⟨R,R,R,R,R,trivial⟩,R,Nat.lt_succ_self _⟩
  ·refine Di (Au (Au (Bn (Ab ?_))))
   obtain rfl:=SJ h
   obtain rfl:_=x2:=hk2
   exact ⟨(),_,ho2,⟨R,trivial⟩,R⟩
def N7 (a0:Am) (b1:(List Bl)):Option Am :=
 some ({a0 with Open:=b1})
def Ig (a0:Am) (a1:Int) (s2:Int × (List Bl)):Option (LB (Int × (List Bl)) ((List Bl))) :=
 if (decide (s2.1<(a0.Open.length:Int))) then ((idx a0.Open s2.1).bind fun u3=>if (!decide (u3.ID=a1)) then (if (s2.2.length+[u3].length)*64≤140737488355328 then (some (.cont ((wI (s2.1+1)),(s2.2++[u3])))) else none) else (some (.cont ((wI (s2.1+1)),s2.2)))) else (some (.brk s2.2))
def J6 (a0:Am) (a1:Int):Option Am :=
 (C5 (Ig a0 a1) fuel (0,([]:List Bl))).bind fun e5=>N7 a0 e5
theorem Rf {a0:Am} {a1:Int} {r:Am} (h:J6 a0 a1=some r):Bt Tryz.prog 128 [.agg (EL.el a0),.one (Ii6 a1)] (·=.s (.agg (EL.el r))):=by
 unfold J6 at h
 refine A4 Tryz.func128 R (nt:=27) R (Nbl R) ?_
 intro w0 S0
 refine csr (F0 R R (Bq R Q8 (Ai (csr (rm 1 R (Ai (Br (csr (fl Ro Ai1 R R R R R R (sv R (Ax Yl R) (rm 1 R (Ai ?_))))))))))))
 refine D1 88 6 5 (by decide) R ?_
 refine Dt ((List Bl)) (fun b1=>[(2,.s (.one (.lp 0 0))),(4,.s (.one (.lp 1 0))),(5,.s (.one (.ls 2 b1.length)))]) (fun b1=>[.box (EL.el a0),.box Zba,.arr 88 6 0 (b1.flatMap Bo)]) (fun b1=>N7 a0 b1=some r) (fun _ _=>A5 R) (fun _ _=>Ap R) (fun _ _=>Nbl R) (fun b1 h=>?_) ?_
 ·unfold N7 at h
  refine csr (rm 1 R (sv R (Ac Ro R) (sst Axz R R R R R (Ai (csr (ld Dh R R R R (sst J8 R R R R R (Ai (Bv ?_)))))))))
  obtain rfl:=SJ h
  refine ⟨Or.inr R,_,_,_,(Ad (ra Dh R R R) Ah),(by (repeat' first | exact J7.nil _ | apply J7.cons | apply Jm.one | apply Jm.agg | exact Dm.nil | exact Dm.ls _ _ _ _ _ _ R (A1 (f:=Bo) (fun _=>R) _).symm | exact Dm.id _ R | exact Cw.nil _ | apply Cw.cons)),?_⟩
  rfl
 ·skip
  refine Bu ?_
  obtain ⟨x2,hx2,ho2⟩:=Ae h
  refine B6 (G:=Nat × (Int × (List Bl))) (fun g=>[(1,.s (.one (Ii6 a1))),(2,.s (.one (.lp 0 0))),(4,.s (.one (.lp 1 0))),(5,.s (.one (.ls 2 g.2.2.length))),(9,.s (.one (.sl a0.Open.length (a0.Open.flatMap Bo)))),(10,.s (.one (Ii6 (a0.Open.length:Int)))),(11,.s (.one (Ii6 g.2.1)))]) (fun g=>[.box (EL.el a0),.box Zba,.arr 88 6 0 (g.2.2.flatMap Bo)]) (fun g=>C5 (Ig a0 a1) g.1 g.2=some x2) (fun g=>g.1) (fuel,(0,([]:List Bl))) hx2 ⟨R,R,R,R,R,R,R,trivial⟩ [] R (fun _ _=>A5 R) (fun _ _=>Ap R) (fun _ _=>Nbl R) ?_
  clear hx2 h
  rintro ⟨n2,s2⟩ h
  obtain ⟨n2,y2,rfl,h,hk2⟩:=C8 h
  unfold Ig at h
  refine csr (sv R (Bw R R) (Ai (Br (ccI h R (fun h=>?_) (fun h=>?_)))))
  ·refine Bj (Ab (Br (Bu (Br (As ?_)))))
   obtain ⟨u3,hu3,h⟩:=Ae h
   refine sv R (Cb (f:=Bo) Yl (fun _=>R) R R R R hu3) ?_
   refine sv R (B3 (ys:=[Ii6 u3.ID,Ii6 u3.Token,Ii6 u3.Attempt,Ii6 u3.Snap,.b u3.RO,.sl u3.Buf.L.length (u3.Buf.L.flatMap Ba)]) Vv R (.cp _) R R) (Bq R Zv (sst Zx R R R R R (Ai (csr (fl Ri ti3 R R R R R R (rm 1 R (sv R (Dy R R) (Ai (ccI h R (fun h=>?_) (fun h=>?_))))))))))
   ·refine As (rm 1 R (sv R (Bf Vv R (.lp _ _ _ R) (Nbl R)) ?_))
    refine Gk R Tryz.underlying38 Arj R R (List.all_eq_true.1 R) (by decide) ?_
    refine P4 [.box (EL.el a0),.box Zba,.arr 88 6 0 (s2.2.flatMap Bo),.box (EL.el u3),.arr 88 6 0 ([u3].flatMap Bo)] R ?_
    obtain ⟨hb4,h⟩:=Cy h
    refine Wb (f:=Bo) (xs:=s2.2) (us:=[u3]) R Tryz.underlying38 Arj Avu (fun _=>R) R R (.one _ _ _ _ (.ls _ _ _ _ _ _ R (A1 (f:=Bo) (fun _=>R) [u3]).symm)) R R R (.sl _ _ _ (A1 (f:=Bo) (fun _=>R) _)) R R hb4 (by decide) ?_
    refine rm 1 R (Ks (Ar (Ab (As (sv R (Bs R R) (rm 1 R (Ai ?_)))))))
    obtain rfl:=SJ h
    exact ⟨(n2,((wI (s2.1+1)),(s2.2++[u3]))),_,hk2,⟨R,R,R,R,R,R,R,trivial⟩,R,Nat.lt_succ_self _⟩
   ·refine Bj (Ar (Ab (As (sv R (Bs R R) (rm 1 R (Ai ?_))))))
    obtain rfl:=SJ h
    exact ⟨(n2,((wI (s2.1+1)),s2.2)),_,hk2,⟨R,R,R,R,R,R,R,trivial⟩,R,Nat.lt_succ_self _⟩
  ·refine Di (Au (Au (Bn (Ab ?_))))
   obtain rfl:=SJ h
   obtain rfl:_=x2:=hk2
   exact ⟨s2.2,_,ho2,⟨R,R,R,trivial⟩,R⟩
def F5 (a0:Bh) (a1:Int):Option Int :=
 (Gz a0 a1).bind fun v1=>if (decide (v1<0)) then (some (-1)) else ((idx a0.Txs v1).bind fun u2=>if (!decide (u2.State=1)) then (some (-1)) else (some v1))
theorem On {a0:Bh} {a1:Int} {r:Int} (h:F5 a0 a1=some r):Bt Tryz.prog 194 [.agg (EL.el a0),.one (Ii6 a1)] (·=.s (.one (Ii6 r))):=by
 unfold F5 at h
 refine A4 Tryz.func194 R (nt:=21) R (Nbl R) ?_
 intro w0 S0
 refine csr (F0 R R (rm 1 R (Ai (csr (ld P9 R R R R (sv R (Bc R) ?_))))))
 obtain ⟨v1,hv1,h⟩:=Ae h
 refine Bb R Aqe (Aa R (Aa R Af)) (Ao R) (Pm hv1) (rm 1 R (Ai (Br (csr (rm 1 R (sv R (Bw R R) (rm 1 R (ssI 11 h R (fun h=>?_) (fun h=>?_)))))))))
 ·refine rm 8 R (Ai (Cp R (fun _=>?_) (fun hx=>Bool.noConfusion hx)))
  refine csr (rm 1 R (Ai (Bv (Ag ?_))))
  obtain rfl:=SJ h
  exact dnT R R R R
 ·refine son R R R (sv R (Ac Of R) (son R R R (sv R (Ak Aaa R (.lp _ _ _ R) R) (rm 1 R (son R R R ?_)))))
  obtain ⟨u2,hu2,h⟩:=Ae h
  refine sv R (Cb (f:=Be) P7 (fun _=>R) R R R R hu2) ?_
  refine son R R R (sv R (Ci Oo R) (son R R R (sv R (Ak ti3 R (.cp _) R) (son R R R (sv R (Dy R R) (rm 1 R (Ai (ccI h R (fun h=>?_) (fun h=>?_)))))))))
  ·refine csr (rm 1 R (Ai (Bv (Ag ?_))))
   obtain rfl:=SJ h
   exact dnT R R R R
  ·refine Bj (Ab (csr (rm 2 R (Ai (Bv ?_)))))
   obtain rfl:=SJ h
   exact dnT R R R R
def Kg (a0:Bh) (a1:List Int) (b1:(List A2)):Option Bh :=
 (Jr a0.Reads a1).bind fun v2=>some (Bh.mk b1 v2)
def Ft (a0:Bh) (a1:List Int) (s3:Int × (List A2)):Option (LB (Int × (List A2)) ((List A2))) :=
 if (decide (s3.1<(a0.Txs.length:Int))) then ((idx a0.Txs s3.1).bind fun u4=>(Dw a1 u4.ID).bind fun v5=>if (!v5) then (if (s3.2.length+[u4].length)*64≤140737488355328 then (some (.cont ((wI (s3.1+1)),(s3.2++[u4])))) else none) else (some (.cont ((wI (s3.1+1)),s3.2)))) else (some (.brk s3.2))
def Hs (a0:Bh) (a1:List Int):Option Bh :=
 (C5 (Ft a0 a1) fuel (0,([]:List A2))).bind fun e7=>Kg a0 a1 e7
theorem Qz {a0:Bh} {a1:List Int} {r:Bh} (h:Hs a0 a1=some r):Bt Tryz.prog 195 [.agg (EL.el a0),.one (.sl a1.length (a1.flatMap eI))] (·=.s (.agg (EL.el r))):=by
 unfold Hs at h
 refine A4 Tryz.func195 R (nt:=31) R (Nbl R) ?_
 intro w0 S0
 refine csr (F0 R R (Bq R Wq (Ai (csr (rm 1 R (Ai (Br (csr (fl Of Aaa R R R R R R (sv R (Ax P7 R) (rm 1 R (Ai ?_))))))))))))
 refine D1 139 8 5 (by decide) R ?_
 refine Dt ((List A2)) (fun b1=>[(1,.s (.one (.sl a1.length (a1.flatMap eI)))),(2,.s (.one (.lp 0 0))),(4,.s (.one (.lp 1 0))),(5,.s (.one (.ls 2 b1.length)))]) (fun b1=>[.box (EL.el a0),.box [Znl,Znl],.arr 139 8 0 (b1.flatMap Be)]) (fun b1=>Kg a0 a1 b1=some r) (fun _ _=>A5 R) (fun _ _=>Ap R) (fun _ _=>Nbl R) (fun b1 h=>?_) ?_
 ·unfold Kg at h
  refine csr (rm 1 R (sv R (Ac Zm R) (ld Ab7 R R R R (sv R (Bc R) ?_))))
  obtain ⟨v2,hv2,h⟩:=Ae h
  refine Bb R Au0 (Aa R (Aa R Af)) (Ao R) (Q9 hv2) (sv R (A6 Wq Ab8 (Av R (Av R Az)) (.cons _ _ _ _ _ _ _ R R (Nbl R) (.cons _ _ _ _ _ _ _ R R (Nbl R) (.nil _)))) (sst Ws R R R R R (Ai (Bv ?_))))
  obtain rfl:=SJ h
  refine ⟨Or.inr R,_,_,_,(Ad (ra P9 R R R) Ah),(by (repeat' first | exact J7.nil _ | apply J7.cons | apply Jm.one | apply Jm.agg | exact Dm.nil | exact Dm.ls _ _ _ _ _ _ R (A1 (f:=Be) (fun _=>R) _).symm | exact Dm.id _ R | exact Cw.nil _ | apply Cw.cons)),?_⟩
  rfl
 ·skip
  refine Bu ?_
  obtain ⟨x3,hx3,ho3⟩:=Ae h
  refine B6 (G:=Nat × (Int × (List A2))) (fun g=>[(1,.s (.one (.sl a1.length (a1.flatMap eI)))),(2,.s (.one (.lp 0 0))),(4,.s (.one (.lp 1 0))),(5,.s (.one (.ls 2 g.2.2.length))),(9,.s (.one (.sl a0.Txs.length (a0.Txs.flatMap Be)))),(10,.s (.one (Ii6 (a0.Txs.length:Int)))),(11,.s (.one (Ii6 g.2.1)))]) (fun g=>[.box (EL.el a0),.box [Znl,Znl],.arr 139 8 0 (g.2.2.flatMap Be)]) (fun g=>C5 (Ft a0 a1) g.1 g.2=some x3) (fun g=>g.1) (fuel,(0,([]:List A2))) hx3 ⟨R,R,R,R,R,R,R,trivial⟩ [] R (fun _ _=>A5 R) (fun _ _=>Ap R) (fun _ _=>Nbl R) ?_
  clear hx3 h
  rintro ⟨n3,s3⟩ h
  obtain ⟨n3,y3,rfl,h,hk3⟩:=C8 h
  unfold Ft at h
  refine csr (sv R (Bw R R) (Ai (Br (ccI h R (fun h=>?_) (fun h=>?_)))))
  ·refine Bj (Ab (Br (Bu (Br (As ?_)))))
   obtain ⟨u4,hu4,h⟩:=Ae h
   refine sv R (Cb (f:=Be) P7 (fun _=>R) R R R R hu4) ?_
   refine sv R (B3 (ys:=[Ii6 u4.ID,Ii6 u4.Begin,Ii6 u4.End,Ii6 u4.State,.b u4.In,.b u4.Out,.b u4.RO,.sl u4.Keys.length (u4.Keys.flatMap (eL eU8))]) I6 R (.cp _) R R) (Bq R Sj (sst Rx R R R R R (Ai (csr (rm 1 R (sv R (Ac Sv R) (sv R (Ak ti3 R (.lp _ _ _ R) R) ?_)))))))
   obtain ⟨v5,hv5,h⟩:=Ae h
   refine Bb R Aq7 (Aa R (Aa R Af)) (Ao R) (K8 hv5) (sv R (B2 R) (Ai (ccI h R (fun h=>?_) (fun h=>?_))))
   ·refine As (rm 1 R (sv R (Bf I6 R (.lp _ _ _ R) (Nbl R)) ?_))
    refine Gk R Tryz.underlying29 Afs R R (List.all_eq_true.1 R) (by decide) ?_
    refine P4 [.box (EL.el a0),.box [Znl,Znl],.arr 139 8 0 (s3.2.flatMap Be),.box (EL.el u4),.arr 139 8 0 ([u4].flatMap Be)] R ?_
    obtain ⟨hb6,h⟩:=Cy h
    refine Wb (f:=Be) (xs:=s3.2) (us:=[u4]) R Tryz.underlying29 Afs Awu (fun _=>R) R R (.one _ _ _ _ (.ls _ _ _ _ _ _ R (A1 (f:=Be) (fun _=>R) [u4]).symm)) R R R (.sl _ _ _ (A1 (f:=Be) (fun _=>R) _)) R R hb6 (by decide) ?_
    refine rm 1 R (Ks (Ar (Ab (As (sv R (Bs R R) (rm 1 R (Ai ?_)))))))
    obtain rfl:=SJ h
    exact ⟨(n3,((wI (s3.1+1)),(s3.2++[u4]))),_,hk3,⟨R,R,R,R,R,R,R,trivial⟩,R,Nat.lt_succ_self _⟩
   ·refine Bj (Ar (Ab (As (sv R (Bs R R) (rm 1 R (Ai ?_))))))
    obtain rfl:=SJ h
    exact ⟨(n3,((wI (s3.1+1)),s3.2)),_,hk3,⟨R,R,R,R,R,R,R,trivial⟩,R,Nat.lt_succ_self _⟩
  ·refine Di (Au (Au (Bn (Ab ?_))))
   obtain rfl:=SJ h
   obtain rfl:_=x3:=hk3
   exact ⟨s3.2,_,ho3,⟨R,R,R,R,trivial⟩,R⟩
def Fz (a0:Bh) (a1:Int):Option Bh :=
 (F5 a0 a1).bind fun v1=>if (decide (v1<0)) then (some a0) else ((Hs a0 [a1]).bind fun v2=>some v2)
theorem X6 {a0:Bh} {a1:Int} {r:Bh} (h:Fz a0 a1=some r):Bt Tryz.prog 129 [.agg (EL.el a0),.one (Ii6 a1)] (·=.s (.agg (EL.el r))):=by
 unfold Fz at h
 refine A4 Tryz.func129 R (nt:=14) R (Nbl R) ?_
 intro w0 S0
 refine csr (F0 R R (Bq R Wq (Ai (Br (csr (ld P9 R R R R (sv R (Bc R) ?_)))))))
 obtain ⟨v1,hv1,h⟩:=Ae h
 refine Bb R Arz (Aa R (Aa R Af)) (Ao R) (On hv1) (sv R (Bw R R) (Ai (ccI h R (fun h=>?_) (fun h=>?_))))
 ·refine csr (ld P9 R R R R (sst Ws R R R R R (Ai (Bv (Ag ?_)))))
  obtain rfl:=SJ h
  exact dnA R P9 R (.lp _ _ _ R) (Nbl R) R R
 ·refine Bj (Ab (csr (ld P9 R R R R (sv R (Bc R) ?_))))
  refine Gk R Tryz.underlying225 ei3 R R (List.all_eq_true.1 R) (by decide) ?_
  refine P4 [.box (EL.el a0),.box [Znl,Znl],.arr 3 1 0 ([a1].flatMap eI)] R ?_
  refine Aii 12 R (by (repeat' first | exact J7.nil _ | apply J7.cons | apply Jm.one | apply Jm.agg | exact Dm.nil | exact Dm.ls _ _ _ _ _ _ R (A1 (f:=eI) (fun _=>R) ([a1]:List Int)).symm | exact Dm.ls _ _ _ _ _ _ R (A1 (f:=eI) (fun _=>R) _).symm | exact Dm.id _ R | exact Cw.nil _ | apply Cw.cons)) ?_
  obtain ⟨v2,hv2,h⟩:=Ae h
  refine Bb R As8 (Aa R (Aa R Af)) (Ao R) (Qz hv2) (sst Ws R R R R R (Ai (Bv ?_)))
  obtain rfl:=SJ h
  exact dnA R P9 R (.lp _ _ _ R) (Nbl R) R R
def Eg (a0:Bm) (a1:Int):Option (A9 × Bool) :=
 (Er a0 a1).bind fun v1=>if (decide (v1=(a0.L.length:Int))) then (some ((A9.mk 0 0 0 0),false)) else ((idx a0.L v1).bind fun u2=>some (u2,true))
theorem J1 {a0:Bm} {a1:Int} {r:A9 × Bool} (h:Eg a0 a1=some r):Bt Tryz.prog 74 [.agg [.sl a0.L.length (a0.L.flatMap Al)],.one (Ii6 a1)] (·=.tup [.agg (EL.el r.1),.one (.b r.2)]):=by
 unfold Eg at h
 refine A4 Tryz.func74 R (nt:=21) R (Nbl R) ?_
 intro w0 S0
 refine csr (F0 R R (Bq R Vj (rm 1 R (Ai (csr (ld Nz R R R R (sv R (Bc R) ?_)))))))
 obtain ⟨v1,hv1,h⟩:=Ae h
 refine Bb R Am7 (Aa R (Aa R Af)) (Ao R) (Kc hv1) (rm 1 R (Ai (Br (csr (rm 1 R (fl V7 Ajr R R R R R R (sv R (Ax Abp R) (sv R (B5 R R) (Ai (ccI h R (fun h=>?_) (fun h=>?_)))))))))))
 ·refine csr (sv R (A6 Vj Ae9 Az (.nil _)) (sst Aac R R R R R (rm 1 R (Ai (Bv (Ag ?_))))))
  obtain rfl:=SJ h
  exact dn (Ad (ra Abb R R R) (Ad (rt R) Ah)) (Ao R) R
 ·refine Bj (Ab (csr (fl V7 Ajr R R R R R R (sv R (Bc R) ?_))))
  obtain ⟨u2,hu2,h⟩:=Ae h
  refine sv R (Cb (f:=Al) Abp (fun _=>R) R R R R hu2) ?_
  refine sv R (B3 (ys:=[Ii6 u2.Tok,Ii6 u2.Attempt,Ii6 u2.State,Ii6 u2.Ts]) Abb R (.cp _) R R) (sst Aac R R R R R (rm 1 R (Ai (Bv ?_))))
  obtain rfl:=SJ h
  exact dn (Ad (ra Abb R R R) (Ad (rt R) Ah)) (Ao R) R
def Ii (a0:List A9):Option (List A9) :=
 if (([]:List A9).length+a0.length)*32≤140737488355328 then (some (([]:List A9)++a0)) else none
theorem Tz {a0:List A9} {r:(List A9)} (h:Ii a0=some r):De Tryz.prog 249 [] [.one (.sl a0.length (a0.flatMap Al))] (fun y m'=>y=.s (.one (.ls 0 r.length))∧m'=[.arr 145 4 0 (r.flatMap Al)]):=by
 unfold Ii at h
 refine Da Tryz.func249 R (nt:=8) R (Nbl R) ?_
 intro w0 S0 X0 H0
 refine csr (rm 1 R (Ai (Br (csr (rm 1 R (Afw R Tryz.underlying35 R (fun nq hnq=>?_)))))))
 cases nq
 ·skip
  refine Ai (Cp R (fun hx=>Bool.noConfusion hx) (fun _=>?_))
  refine Bj (Ab (csr (U5 R Tryz.underlying35 Aih (sv R (Bc R) ?_))))
  obtain ⟨hb1,h⟩:=Cy h
  refine Wb (f:=Al) (xs:=([]:List A9)) (us:=a0) R Tryz.underlying35 Aih Avy (fun _=>R) R R (.one _ _ _ _ (.id _ R)) R R R (.sl _ _ _ (A1 (f:=Al) (fun _=>R) _)) R R hb1 (by decide) ?_
  refine rm 1 R (Ai (Bv ?_))
  obtain rfl:=SJ h
  exact ⟨Or.inr R,_,[0],[.one (.ls 0 (([]:List A9)++a0).length)],[.arr 145 4 0 ((([]:List A9)++a0).flatMap Al)],(Ad (rt R) Ah),R,R,⟨by decide,R⟩,R,R,⟨R,R⟩⟩
 ·obtain rfl:=List.eq_nil_of_length_eq_zero (hnq rfl)
  replace h:(some ([]:List A9))=some r:=by first | exact h | (rw [if_pos (by decide)] at h;exact h)
  refine Ai (Cp R (fun _=>?_) (fun hx=>Bool.noConfusion hx))
  refine csr (rm 1 R (Ai ?_))
  refine D1 145 4 2 (by decide) R ?_
  refine Bv (Ag ?_)
  obtain rfl:=SJ h
  exact ⟨Or.inr R,_,[0],[.one (.ls 0 ([]:List A9).length)],[.arr 145 4 0 (([]:List A9).flatMap Al)],(Ad (rt R) Ah),R,R,⟨by decide,R⟩,R,R,⟨R,R⟩⟩
def Ly (a0:List A9) (a1:Int) (a2:A9):Option (List A9) :=
 (Ii a0).bind fun v1=>if (decide ((v1.length:Int)≤a1)) then (if (v1.length+[a2].length)*32≤140737488355328 then (some (v1++[a2])) else none) else ((idx v1 a1).bind fun u3=>some (v1.set a1.toNat a2))
theorem Xa {a0:List A9} {a1:Int} {a2:A9} {r:(List A9)} (h:Ly a0 a1 a2=some r):Bt Tryz.prog 196 [.one (.sl a0.length (a0.flatMap Al)),.one (Ii6 a1),.agg (EL.el a2)] (·=.s (.one (.sl r.length (r.flatMap Al)))):=by
 unfold Ly at h
 refine A4 Tryz.func196 R (nt:=23) R (Nbl R) ?_
 intro w0 S0
 refine csr (F0 R R (rm 1 R (Ai (csr (sv R (Bc R) ?_)))))
 obtain ⟨v1,hv1,h⟩:=Ae h
 refine Ho (x':=.s (.one (.ls 1 v1.length))) (M':=[.box (EL.el a2),.arr 145 4 0 (v1.flatMap Al)]) [] R Awl (.func _) (Aa R Af) (Tz hv1) R R (by decide) R R R ?_
 refine rm 1 R (Ai (Br (csr (rm 2 R (sv R (Mf Abp R R (A1 (f:=Al) (fun _=>R) _).symm) ?_)))))
 refine sv R (He R R) (Ai (ccI h R (fun h=>?_) (fun h=>?_)))
 ·refine csr (rm 1 R (sv R (Bf Abb R (.lp _ _ _ R) (Nbl R)) ?_))
  refine Gk R Tryz.underlying35 Aih R R (List.all_eq_true.1 R) (by decide) ?_
  refine P4 [.box (EL.el a2),.arr 145 4 0 (v1.flatMap Al),.arr 145 4 0 ([a2].flatMap Al)] R ?_
  obtain ⟨hb2,h⟩:=Cy h
  refine Wb (f:=Al) (xs:=v1) (us:=[a2]) R Tryz.underlying35 Aih Avy (fun _=>R) R R (.one _ _ _ _ (.ls _ _ _ _ _ _ R (A1 (f:=Al) (fun _=>R) [a2]).symm)) R R R (.sl _ _ _ (A1 (f:=Al) (fun _=>R) _)) R R hb2 (by decide) ?_
  refine rm 1 R (Ai (Bv (Ag ?_)))
  obtain rfl:=SJ h
  refine ⟨Or.inr R,_,_,_,(Ad (rt R) Ah),(by (repeat' first | exact J7.nil _ | apply J7.cons | apply Jm.one | apply Jm.agg | exact Dm.nil | exact Dm.ls _ _ _ _ _ _ R (A1 (f:=Al) (fun _=>R) _).symm | exact Dm.id _ R | exact Cw.nil _ | apply Cw.cons)),?_⟩
  rfl
 ·refine Bj (Ab (csr (rm 2 R (sv R (Bf Abb R (.lp _ _ _ R) (Nbl R)) ?_))))
  obtain ⟨u3,hu3,h⟩:=Ae h
  refine sv R (I4 (f:=Al) Abp (fun _=>R) R R R R R hu3) ?_
  refine Abd (f:=Al) (u':=a2) (sz:=4) 0 Aac (fun _=>R) R R R R R R R (List.all_eq_true.1 R) (L6 hu3).2 (Nbl R) R ?_
  refine M0 9 (y:=.s (.one (.ls 1 v1.length))) (.s (.one (.ls 1 (v1.set a1.toNat a2).length))) R (congrArg (fun n=>AV.s (.one (.ls 1 n))) List.length_set.symm) ?_
  refine M0 7 (y:=.s (.one (.ls 1 v1.length))) (.s (.one (.ls 1 (v1.set a1.toNat a2).length))) R (congrArg (fun n=>AV.s (.one (.ls 1 n))) List.length_set.symm) ?_
  refine M0 11 (y:=.s (.one (.ls 1 v1.length))) (.s (.one (.ls 1 (v1.set a1.toNat a2).length))) R (congrArg (fun n=>AV.s (.one (.ls 1 n))) List.length_set.symm) ?_
  refine M0 18 (y:=.s (.one (.ls 1 v1.length))) (.s (.one (.ls 1 (v1.set a1.toNat a2).length))) R (congrArg (fun n=>AV.s (.one (.ls 1 n))) List.length_set.symm) ?_
  refine Ai (csr (rm 2 R (Ai (Bv ?_))))
  obtain rfl:=SJ h
  refine ⟨Or.inr R,_,_,_,(Ad (rt R) Ah),(by (repeat' first | exact J7.nil _ | apply J7.cons | apply Jm.one | apply Jm.agg | exact Dm.nil | exact Dm.ls _ _ _ _ _ _ R (A1 (f:=Al) (fun _=>R) _).symm | exact Dm.id _ R | exact Cw.nil _ | apply Cw.cons)),?_⟩
  rfl
def C0 (a0:Bm) (a1:A9):Option (Bm × Int) :=
 (Er a0 a1.Tok).bind fun v1=>if (decide (32≤v1)) then (some (Cm,8)) else ((Ly a0.L v1 a1).bind fun v2=>some ((Bm.mk v2),0))
theorem G5 {a0:Bm} {a1:A9} {r:Bm × Int} (h:C0 a0 a1=some r):Bt Tryz.prog 131 [.agg [.sl a0.L.length (a0.L.flatMap Al)],.agg (EL.el a1)] (·=.tup [.agg [.sl r.1.L.length (r.1.L.flatMap Al)],.one (Ii6 r.2)]):=by
 unfold C0 at h
 refine A4 Tryz.func131 R (nt:=20) R (Nbl R) ?_
 intro w0 S0
 refine csr (F0 R R (F0 R R (Bq R U0 (rm 1 R (Ai (csr (ld Nz R R R R (sv R (Ac Yx R) (sv R (Ak ti3 R (.lp _ _ _ R) R) ?_)))))))))
 obtain ⟨v1,hv1,h⟩:=Ae h
 refine Bb R Am7 (Aa R (Aa R Af)) (Ao R) (Kc hv1) (rm 1 R (Ai (Br (csr (rm 1 R (sv R (He R R) (Ai (ccI h R (fun h=>?_) (fun h=>?_)))))))))
 ·refine csr (sv R (A6 U0 Aa5 Az (.nil _)) (sst Sf R R R R R (rm 1 R (Ai (Bv (Ag ?_))))))
  obtain rfl:=SJ h
  exact dn (Ad (ra Nz R R R) (Ad (rt R) Ah)) (Iz R) R
 ·refine Bj (Ab (csr (fl V7 Ajr R R R R R R (rm 1 R (sv R (Bf Abb R (.lp _ _ _ R) (Nbl R)) ?_)))))
  obtain ⟨v2,hv2,h⟩:=Ae h
  refine Bb R Ave (Aa R (Aa R (Aa R Af))) (Ao R) (Xa hv2) (sv R (A6 U0 Aa5 (Av R Az) (.cons _ _ _ _ _ _ _ R R (Nbl R) (.nil _))) (sst Sf R R R R R (rm 1 R (Ai (Bv ?_)))))
  obtain rfl:=SJ h
  exact dn (Ad (ra Nz R R R) (Ad (rt R) Ah)) (Ao R) R
def Kk (a0:Bm) (a1:Int) (a2:Int) (b1:Unit):Option (Bm × Int × Int) :=
 (Eg a0 a1).bind fun v2=>if (decide (v2.1.State=2)) then (some (a0,v2.1.Ts,0)) else ((C0 a0 (A9.mk a1 (if a2 > v2.1.Attempt then a2 else v2.1.Attempt) 3 0)).bind fun v3=>some (v3.1,0,v3.2))
def Dk (a0:Bm) (a1:Int) (a2:Int):Option (Bm × Int × Int) :=
 (Dd a0).bind fun v4=>if (!v4) then (some (Cm,0,1)) else ((Co a1 a2).bind fun v5=>if (!v5) then (some (Cm,0,1)) else (Kk a0 a1 a2 ()))
theorem Qs {a0:Bm} {a1:Int} {a2:Int} {r:Bm × Int × Int} (h:Dk a0 a1 a2=some r):Bt Tryz.prog 73 [.agg [.sl a0.L.length (a0.L.flatMap Al)],.one (Ii6 a1),.one (Ii6 a2)] (·=.tup [.agg [.sl r.1.L.length (r.1.L.flatMap Al)],.one (Ii6 r.2.1),.one (Ii6 r.2.2)]):=by
 unfold Dk at h
 refine A4 Tryz.func73 R (nt:=48) R (Nbl R) ?_
 intro w0 S0
 refine csr (F0 R R (Bq R U0 (rm 2 R (Ai (Br (Br (Hp (Unit) (fun b1=>[(1,.s (.one (Ii6 a1))),(2,.s (.one (Ii6 a2))),(3,.s (.one (.lp 0 0))),(6,.s (.one (.lp 1 0)))]) (fun b1=>[.box [.sl a0.L.length (a0.L.flatMap Al)],.box [Znl]]) (fun b1=>Kk a0 a1 a2 b1=some r) (fun _ _=>A5 R) (fun _ _=>Ap R) (fun _ _=>Nbl R) (fun b1 h=>?_) ?_)))))))
 ·unfold Kk at h
  refine csr (ld Nz R R R R (sv R (Bc R) ?_))
  obtain ⟨v2,hv2,h⟩:=Ae h
  refine Bb R Aue (Aa R (Aa R Af)) (Ao R) (J1 hv2) (sv R (Cd R) (sv R (Aj R R) (sv R (Aj R R) (Bq R Vj (sst Aac R R R R R (rm 1 R (Ai (Br (csr (fl Uy ti3 R R R R R R (sv R (B5 R R) (Ai (ccI h R (fun h=>?_) (fun h=>?_))))))))))))))
  ·refine Br ?_
   refine Ki [3] [0,0,2,1,15,31] [[.box [.sl a0.L.length (a0.L.flatMap Al)],.box [Znl],.box (EL.el v2.1)],[.box [.sl a0.L.length (a0.L.flatMap Al)],.box [.sl a0.L.length (a0.L.flatMap Al)],.box (EL.el v2.1)]] (by kernel_rfl) mixed (by kernel_rfl) (by decide) R R R R ?_
   refine evs (md:=[.box [.sl a0.L.length (a0.L.flatMap Al)],.dead,.box (EL.el v2.1)]) (fun hS=>ev (Bg 0 R R) R R (Bf Nz R (.lp _ _ _ R) (Nbl R)) (ev (Ca hS) R R (Ac Ae3 R) (ev (Ca hS) R R (Ak ti3 R (.lp _ _ _ R) R) (ee0 0 R R R R (fun ζ=>?_) ?_)))) ⟨⟨R,⟨trivial,⟨R,trivial⟩⟩⟩,⟨⟨R,⟨trivial,⟨R,trivial⟩⟩⟩,trivial⟩⟩
   ·refine sst Sf R R R R R (P4 [.box [.sl a0.L.length (a0.L.flatMap Al)],.box [.sl a0.L.length (a0.L.flatMap Al)],.box (EL.el v2.1)] R ?_)
    exact Ta
   refine ev (Bg 1 R R) R R (Ko R) (ev (Bg 1 R R) R R (Ko R) (Abk (Ab (Bv (Ag ?_)))))
   obtain rfl:=SJ h
   exact dn (Ad (ra Nz R R R) (Ad (rt R) (Ad (rt R) Ah))) (Ao R) R
  ·refine Bj (Ab (csr (ld Nz R R R R (rm 1 R (fl Uz ti3 R R R R R R (rm 1 R (sv R (Al0 R R) (sv R (A6 Vj Ae9 (Av R (Av R (Av R Az))) (.cons _ _ _ _ _ _ _ R R (Nbl R) (.cons _ _ _ _ _ _ _ R R (Nbl R) (.cons _ _ _ _ _ _ _ R R (Nbl R) (.nil _))))) ?_))))))))
   obtain ⟨v3,hv3,h⟩:=Ae h
   refine Bb R Ah8 (Aa R (Aa R Af)) (Ao R) (G5 hv3) (sv R (Cd R) (sv R (Aj R R) (sv R (Aj R R) (Bq R U0 (sst Sf R R R R R (rm 1 R (Ai (csr (ld Nz R R R R (rm 1 R (sst Sf R R R R R (rm 2 R (Ai (Bv ?_))))))))))))))
   obtain rfl:=SJ h
   exact dn (Ad (ra Nz R R R) (Ad (rt R) (Ad (rt R) Ah))) (Ao R) R
 ·skip
  refine As (sv R (Bf Nz R (.lp _ _ _ R) (Nbl R)) ?_)
  obtain ⟨v4,hv4,h⟩:=Ae h
  refine Bb R At3 (Aa R Af) (Ao R) (Ji hv4) (sv R (B2 R) (rm 1 R (ssI 16 h R (fun h=>?_) (fun h=>?_))))
  ·refine rm 5 R (Ai (Cp R (fun _=>?_) (fun hx=>Bool.noConfusion hx)))
   refine csr (sv R (A6 U0 Aa5 Az (.nil _)) (sst Sf R R R R R (rm 2 R (Ai (Bv (Ag ?_))))))
   obtain rfl:=SJ h
   exact dn (Ad (ra Nz R R R) (Ad (rt R) (Ad (rt R) Ah))) (Iz R) R
  ·refine rm 2 R (son R R R ?_)
   obtain ⟨v5,hv5,h⟩:=Ae h
   refine Bb R Ain (Aa R (Aa R Af)) (Ao R) (D7 hv5) (son R R R (sv R (B2 R) (rm 1 R (Ai (ccI h R (fun h=>?_) (fun h=>?_))))))
   ·refine csr (sv R (A6 U0 Aa5 Az (.nil _)) (sst Sf R R R R R (rm 2 R (Ai (Bv (Ag ?_))))))
    obtain rfl:=SJ h
    exact dn (Ad (ra Nz R R R) (Ad (rt R) (Ad (rt R) Ah))) (Iz R) R
   ·refine Bj (Ab ?_)
    exact ⟨(),_,h,⟨R,R,R,R,trivial⟩,R⟩
def Dn (a0:Am) (a1:Bl):Option Am :=
 (J6 a0 a1.ID).bind fun v1=>(Fz v1.Cert a1.ID).bind fun v2=>(Dk v1.Toks a1.Token a1.Attempt).bind fun v3=>if (decide (v3.2.2=0)) then (some ({v1 with Cert:=v2,Toks:=v3.1})) else (some ({v1 with Cert:=v2}))
theorem Ht {a0:Am} {a1:Bl} {r:Am} (h:Dn a0 a1=some r):Bt Tryz.prog 57 [.agg (EL.el a0),.agg (EL.el a1)] (·=.s (.agg (EL.el r))):=by
 unfold Dn at h
 refine A4 Tryz.func57 R (nt:=34) R (Nbl R) ?_
 intro w0 S0
 refine csr (F0 R R (F0 R R (Bq R Q8 (Ai (csr (ld Dh R R R R (sv R (Ac Ri R) (sv R (Ak ti3 R (.lp _ _ _ R) R) ?_))))))))
 obtain ⟨v1,hv1,h⟩:=Ae h
 refine Bb R Ass (Aa R (Aa R Af)) (Ao R) (Rf hv1) (sst J8 R R R R R (Ai (csr (sv R (Ac Sz R) (ld P9 R R R R (sv R (Ac Ri R) (sv R (Ak ti3 R (.lp _ _ _ R) R) ?_)))))))
 obtain ⟨v2,hv2,h⟩:=Ae h
 refine Bb R Axh (Aa R (Aa R Af)) (Ao R) (X6 hv2) (sv R (Ac Sz R) (sst Ws R R R R R (Ai (Br (csr (sv R (Ac Uj R) (ld Nz R R R R (fl Aao ti3 R R R R R R (sv R (Ac Ac6 R) (sv R (Ak ti3 R (.lp _ _ _ R) R) ?_))))))))))
 obtain ⟨v3,hv3,h⟩:=Ae h
 refine Bb R Ax9 (Aa R (Aa R (Aa R Af))) (Ao R) (Qs hv3) (sv R (Cd R) (sv R (Aj R R) (sv R (Aj R R) (sv R (Aj R R) (Bq R U0 (sst Sf R R R R R (rm 2 R (Ai (csr (rm 1 R (sv R (B5 R R) (Ai (ccI h R (fun h=>?_) (fun h=>?_))))))))))))))
 ·refine As (ld Nz R R R R (sv R (Ac Uj R) (sst Sf R R R R R (Ai (csr (ld Dh R R R R (sst J8 R R R R R (Ai (Bv ?_)))))))))
  obtain rfl:=SJ h
  exact dnA R Dh R (.lp _ _ _ R) (Nbl R) R R
 ·refine Bj (Ab (csr (ld Dh R R R R (sst J8 R R R R R (Ai (Bv ?_))))))
  obtain rfl:=SJ h
  exact dnA R Dh R (.lp _ _ _ R) (Nbl R) R R
def Kd (a0:Bm) (a1:Int) (a2:Int) (b1:Unit):Option (Bm × Int) :=
 (Eg a0 a1).bind fun v2=>if v2.2 then (if (decide (v2.1.State=2)) then (some (Cm,7)) else (if v2.2 then (if (decide (a2≤v2.1.Attempt)) then (some (Cm,14)) else ((C0 a0 (A9.mk a1 a2 1 0)).bind fun v3=>some (v3.1,v3.2))) else ((C0 a0 (A9.mk a1 a2 1 0)).bind fun v4=>some (v4.1,v4.2)))) else (if v2.2 then (if (decide (a2≤v2.1.Attempt)) then (some (Cm,14)) else ((C0 a0 (A9.mk a1 a2 1 0)).bind fun v5=>some (v5.1,v5.2))) else ((C0 a0 (A9.mk a1 a2 1 0)).bind fun v6=>some (v6.1,v6.2)))
def Gm (a0:Bm) (a1:Int) (a2:Int):Option (Bm × Int) :=
 (Dd a0).bind fun v7=>if (!v7) then (some (Cm,1)) else ((Co a1 a2).bind fun v8=>if (!v8) then (some (Cm,1)) else (Kd a0 a1 a2 ()))
theorem Wc {a0:Bm} {a1:Int} {a2:Int} {r:Bm × Int} (h:Gm a0 a1 a2=some r):Bt Tryz.prog 58 [.agg [.sl a0.L.length (a0.L.flatMap Al)],.one (Ii6 a1),.one (Ii6 a2)] (·=.tup [.agg [.sl r.1.L.length (r.1.L.flatMap Al)],.one (Ii6 r.2)]):=by
 unfold Gm at h
 refine A4 Tryz.func58 R (nt:=50) R (Nbl R) ?_
 intro w0 S0
 refine csr (F0 R R (Bq R U0 (rm 1 R (Ai (Br (Br (Hp (Unit) (fun b1=>[(1,.s (.one (Ii6 a1))),(2,.s (.one (Ii6 a2))),(3,.s (.one (.lp 0 0))),(6,.s (.one (.lp 1 0)))]) (fun b1=>[.box [.sl a0.L.length (a0.L.flatMap Al)],.box [Znl]]) (fun b1=>Kd a0 a1 a2 b1=some r) (fun _ _=>A5 R) (fun _ _=>Ap R) (fun _ _=>Nbl R) (fun b1 h=>?_) ?_)))))))
 ·unfold Kd at h
  refine csr (ld Nz R R R R (sv R (Bc R) ?_))
  obtain ⟨v2,hv2,h⟩:=Ae h
  refine Bb R Aue (Aa R (Aa R Af)) (Ao R) (J1 hv2) (sv R (Cd R) (sv R (Aj R R) (sv R (Aj R R) (Bq R Vj (sst Aac R R R R R (rm 1 R (Ai (Br (Bu (csr (rm 2 R (ssI 28 h R (fun h=>?_) (fun h=>?_)))))))))))))
  ·refine son R R R (sv R (Ac Uy R) (son R R R (sv R (Ak ti3 R (.lp _ _ _ R) R) (son R R R (sv R (B5 R R) (rm 2 R (Ai (ccI h R (fun h=>?_) (fun h=>?_)))))))))
   ·refine csr (sv R (A6 U0 Aa5 Az (.nil _)) (sst Sf R R R R R (rm 1 R (Ai (Bv (Ay (Ag ?_)))))))
    obtain rfl:=SJ h
    exact dn (Ad (ra Nz R R R) (Ad (rt R) Ah)) (Iz R) R
   ·refine csr (rm 2 R (ssI 36 h R (fun h=>?_) (fun h=>?_)))
    ·refine rm 1 R (son R R R (sv R (Ac Uz R) (son R R R (sv R (Ak ti3 R (.lp _ _ _ R) R) (son R R R (sv R (Dj R R) (rm 2 R (Ai (ccI h R (fun h=>?_) (fun h=>?_))))))))))
     ·refine csr (sv R (A6 U0 Aa5 Az (.nil _)) (sst Sf R R R R R (rm 1 R (Ai (Bv (Ay (Ag ?_)))))))
      obtain rfl:=SJ h
      exact dn (Ad (ra Nz R R R) (Ad (rt R) Ah)) (Iz R) R
     ·refine Bj (Ar (Ab (csr (ld Nz R R R R (rm 2 R (sv R (A6 Vj Ae9 (Av R (Av R (Av R Az))) (.cons _ _ _ _ _ _ _ R R (Nbl R) (.cons _ _ _ _ _ _ _ R R (Nbl R) (.cons _ _ _ _ _ _ _ R R (Nbl R) (.nil _))))) ?_))))))
      obtain ⟨v3,hv3,h⟩:=Ae h
      refine Bb R Ah8 (Aa R (Aa R Af)) (Ao R) (G5 hv3) (sv R (Aj R R) (sv R (Aj R R) (sst Sf R R R R R (rm 1 R (Ai (Bv ?_))))))
      obtain rfl:=SJ h
      exact dn (Ad (ra Nz R R R) (Ad (rt R) Ah)) (Ao R) R
    ·refine rm 6 R (Ai (Cp R (fun hx=>Bool.noConfusion hx) (fun _=>?_)))
     refine Bj (Ar (Ab (csr (ld Nz R R R R (rm 2 R (sv R (A6 Vj Ae9 (Av R (Av R (Av R Az))) (.cons _ _ _ _ _ _ _ R R (Nbl R) (.cons _ _ _ _ _ _ _ R R (Nbl R) (.cons _ _ _ _ _ _ _ R R (Nbl R) (.nil _))))) ?_))))))
     obtain ⟨v4,hv4,h⟩:=Ae h
     refine Bb R Ah8 (Aa R (Aa R Af)) (Ao R) (G5 hv4) (sv R (Aj R R) (sv R (Aj R R) (sst Sf R R R R R (rm 1 R (Ai (Bv ?_))))))
     obtain rfl:=SJ h
     exact dn (Ad (ra Nz R R R) (Ad (rt R) Ah)) (Ao R) R
  ·refine rm 5 R (Ai (Cp R (fun hx=>Bool.noConfusion hx) (fun _=>?_)))
   refine csr (rm 2 R (ssI 36 h R (fun h=>?_) (fun h=>?_)))
   ·refine rm 1 R (son R R R (sv R (Ac Uz R) (son R R R (sv R (Ak ti3 R (.lp _ _ _ R) R) (son R R R (sv R (Dj R R) (rm 2 R (Ai (ccI h R (fun h=>?_) (fun h=>?_))))))))))
    ·refine csr (sv R (A6 U0 Aa5 Az (.nil _)) (sst Sf R R R R R (rm 1 R (Ai (Bv (Ay (Ag ?_)))))))
     obtain rfl:=SJ h
     exact dn (Ad (ra Nz R R R) (Ad (rt R) Ah)) (Iz R) R
    ·refine Bj (Ar (Ab (csr (ld Nz R R R R (rm 2 R (sv R (A6 Vj Ae9 (Av R (Av R (Av R Az))) (.cons _ _ _ _ _ _ _ R R (Nbl R) (.cons _ _ _ _ _ _ _ R R (Nbl R) (.cons _ _ _ _ _ _ _ R R (Nbl R) (.nil _))))) ?_))))))
     obtain ⟨v5,hv5,h⟩:=Ae h
     refine Bb R Ah8 (Aa R (Aa R Af)) (Ao R) (G5 hv5) (sv R (Aj R R) (sv R (Aj R R) (sst Sf R R R R R (rm 1 R (Ai (Bv ?_))))))
     obtain rfl:=SJ h
     exact dn (Ad (ra Nz R R R) (Ad (rt R) Ah)) (Ao R) R
   ·refine rm 6 R (Ai (Cp R (fun hx=>Bool.noConfusion hx) (fun _=>?_)))
    refine Bj (Ar (Ab (csr (ld Nz R R R R (rm 2 R (sv R (A6 Vj Ae9 (Av R (Av R (Av R Az))) (.cons _ _ _ _ _ _ _ R R (Nbl R) (.cons _ _ _ _ _ _ _ R R (Nbl R) (.cons _ _ _ _ _ _ _ R R (Nbl R) (.nil _))))) ?_))))))
    obtain ⟨v6,hv6,h⟩:=Ae h
    refine Bb R Ah8 (Aa R (Aa R Af)) (Ao R) (G5 hv6) (sv R (Aj R R) (sv R (Aj R R) (sst Sf R R R R R (rm 1 R (Ai (Bv ?_))))))
    obtain rfl:=SJ h
    exact dn (Ad (ra Nz R R R) (Ad (rt R) Ah)) (Ao R) R
 ·skip
  refine As (sv R (Bf Nz R (.lp _ _ _ R) (Nbl R)) ?_)
  obtain ⟨v7,hv7,h⟩:=Ae h
  refine Bb R At3 (Aa R Af) (Ao R) (Ji hv7) (sv R (B2 R) (rm 1 R (ssI 13 h R (fun h=>?_) (fun h=>?_))))
  ·refine rm 5 R (Ai (Cp R (fun _=>?_) (fun hx=>Bool.noConfusion hx)))
   refine csr (sv R (A6 U0 Aa5 Az (.nil _)) (sst Sf R R R R R (rm 1 R (Ai (Bv (Ag ?_))))))
   obtain rfl:=SJ h
   exact dn (Ad (ra Nz R R R) (Ad (rt R) Ah)) (Iz R) R
  ·refine rm 2 R (son R R R ?_)
   obtain ⟨v8,hv8,h⟩:=Ae h
   refine Bb R Ain (Aa R (Aa R Af)) (Ao R) (D7 hv8) (son R R R (sv R (B2 R) (rm 1 R (Ai (ccI h R (fun h=>?_) (fun h=>?_))))))
   ·refine csr (sv R (A6 U0 Aa5 Az (.nil _)) (sst Sf R R R R R (rm 1 R (Ai (Bv (Ag ?_))))))
    obtain rfl:=SJ h
    exact dn (Ad (ra Nz R R R) (Ad (rt R) Ah)) (Iz R) R
   ·refine Bj (Ab ?_)
    exact ⟨(),_,h,⟨R,R,R,R,trivial⟩,R⟩
def Jf (a0:Int) (b1:Unit):Option (List A2) :=
 if (decide (0<(wI (a0-(wI (0-0)))))) then (if 0<(wI (a0-(wI (0-0))))∧(wI (a0-(wI (0-0))))*((64:Nat):Int)≤281474976710656 then (if (0:Int)≤0∧0≤((List.replicate (wI (a0-(wI (0-0)))).toNat W8).length:Int) then (some ((List.replicate (wI (a0-(wI (0-0)))).toNat W8).take (0:Int).toNat)) else none) else none) else (some ([]:List A2))
end Go.Proofs.YtkblaobhhoebaaaGreat.Abs
