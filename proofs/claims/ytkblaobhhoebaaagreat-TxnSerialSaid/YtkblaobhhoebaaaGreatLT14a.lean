/-
 t
-/
import Derived.Test.YtkblaobhhoebaaaGreatLAbsD
import Derived.Test.YtkblaobhhoebaaaGreatProg
set_option linter.unusedVariables false
set_option linter.unusedSimpArgs false
namespace Go.Proofs.YtkblaobhhoebaaaGreat.Abs
open Go.RowKit Go.Proofs
noncomputable abbrev Qx0:=Tryz.prog
set_option maxRecDepth 100000
structure Ae where
 Key:List UInt8
 Val:List UInt8
 Del:Bool
def Am (x:Ae):List Lf:=[SL x.Key eU8,SL x.Val eU8,.b x.Del]
structure Bf where
 L:List Ae
def Agw (x:Bf):List Lf:=[SL x.L Am]
structure A5 where
 Key:List UInt8
 Val:List UInt8
def Bi (x:A5):List Lf:=[SL x.Key eU8,SL x.Val eU8]
structure Ar where
 Lo:List UInt8
 Hi:List UInt8
 Open:Bool
def Aby (x:Ar):List Lf:=[SL x.Lo eU8,SL x.Hi eU8,.b x.Open]
structure Ak where
 Ts:Int
 Val:List UInt8
 Del:Bool
def Av (x:Ak):List Lf:=[.i .i64 x.Ts,SL x.Val eU8,.b x.Del]
structure Ac where
 L:List Ak
def Al (x:Ac):List Lf:=[SL x.L Av]
structure Bc where
 Keys:List (List UInt8)
 Chains:List Ac
 Ts:Int
def Ac6 (x:Bc):List Lf:=[SL x.Keys (eL eU8),SL x.Chains Al,.i .i64 x.Ts]
structure Ao where
 ID:Int
 Begin:Int
 End:Int
 State:Int
 In:Bool
 Out:Bool
 RO:Bool
 Keys:List (List UInt8)
def Az (x:Ao):List Lf:=[.i .i64 x.ID,.i .i64 x.Begin,.i .i64 x.End,.i .i64 x.State,.b x.In,.b x.Out,.b x.RO,SL x.Keys (eL eU8)]
structure Ap where
 Tx:Int
 Rng:Ar
def Aj (x:Ap):List Lf:=[.i .i64 x.Tx,SL x.Rng.Lo eU8,SL x.Rng.Hi eU8,.b x.Rng.Open]
structure Be where
 L:List Ap
def Adf (x:Be):List Lf:=[SL x.L Aj]
structure Ay where
 Txs:List Ao
 Reads:Be
def Akw (x:Ay):List Lf:=[SL x.Txs Az,SL x.Reads.L Aj]
structure As where
 Tok:Int
 Attempt:Int
 State:Int
 Ts:Int
def Ad (x:As):List Lf:=[.i .i64 x.Tok,.i .i64 x.Attempt,.i .i64 x.State,.i .i64 x.Ts]
structure A1 where
 L:List As
def Ace (x:A1):List Lf:=[SL x.L Ad]
structure Ax where
 ID:Int
 Token:Int
 Attempt:Int
 Snap:Int
 RO:Bool
 Buf:Bf
def A7 (x:Ax):List Lf:=[.i .i64 x.ID,.i .i64 x.Token,.i .i64 x.Attempt,.i .i64 x.Snap,.b x.RO,SL x.Buf.L Am]
structure Ab where
 Store:Bc
 Cert:Ay
 Toks:A1
 Open:List Ax
 Next:Int
def Aft (x:Ab):List Lf:=[SL x.Store.Keys (eL eU8),SL x.Store.Chains Al,.i .i64 x.Store.Ts,SL x.Cert.Txs Az,SL x.Cert.Reads.L Aj,SL x.Toks.L Ad,SL x.Open A7,.i .i64 x.Next]
structure B0 where
 tx_:Int
 lo_:List UInt8
 hi_:List UInt8
 open_:Bool
def C6 (x:B0):List Lf:=[.i .i64 x.tx_,.s ⟨x.lo_.toArray⟩,.s ⟨x.hi_.toArray⟩,.b x.open_]
structure Dl where
 What:Int
 N:Int
 Token:Int
 Attempt:Int
 RO:Bool
 Del:Bool
 Key:List UInt8
 Val:List UInt8
 Rng:Ar
def Dm (x:Dl):List Lf:=[.i .i64 x.What,.i .i64 x.N,.i .i64 x.Token,.i .i64 x.Attempt,.b x.RO,.b x.Del,SL x.Key eU8,SL x.Val eU8,SL x.Rng.Lo eU8,SL x.Rng.Hi eU8,.b x.Rng.Open]
structure Gg where
 n_:Int
 found_:Bool
 v_:List UInt8
 l_:List A5
 e_:Int
def Am7 (x:Gg):List Lf:=[.i .i64 x.n_,.b x.found_,SL x.v_ eU8,SL x.l_ Bi,.i .i64 x.e_]
structure B9 where
 o_:Dl
 x_:Gg
def Dj (x:B9):List Lf:=[.i .i64 x.o_.What,.i .i64 x.o_.N,.i .i64 x.o_.Token,.i .i64 x.o_.Attempt,.b x.o_.RO,.b x.o_.Del,SL x.o_.Key eU8,SL x.o_.Val eU8,SL x.o_.Rng.Lo eU8,SL x.o_.Rng.Hi eU8,.b x.o_.Rng.Open,.i .i64 x.x_.n_,.b x.x_.found_,SL x.x_.v_ eU8,SL x.x_.l_ Bi,.i .i64 x.x_.e_]
structure Ai where
 id_:Int
 snap_:Int
 end_:Int
 acts_:List B9
def Cl (x:Ai):List Lf:=[.i .i64 x.id_,.i .i64 x.snap_,.i .i64 x.end_,SL x.acts_ Dj]
class EL (α:Type) where
 el:α->List Lf
instance:EL Ae:=⟨Am⟩
instance:EL Bf:=⟨Agw⟩
instance:EL A5:=⟨Bi⟩
instance:EL Ar:=⟨Aby⟩
instance:EL Ak:=⟨Av⟩
instance:EL Ac:=⟨Al⟩
instance:EL Bc:=⟨Ac6⟩
instance:EL Ao:=⟨Az⟩
instance:EL Ap:=⟨Aj⟩
instance:EL Be:=⟨Adf⟩
instance:EL Ay:=⟨Akw⟩
instance:EL As:=⟨Ad⟩
instance:EL A1:=⟨Ace⟩
instance:EL Ax:=⟨A7⟩
instance:EL Ab:=⟨Aft⟩
instance:EL B0:=⟨C6⟩
instance:EL Dl:=⟨Dm⟩
instance:EL Gg:=⟨Am7⟩
instance:EL B9:=⟨Dj⟩
instance:EL Ai:=⟨Cl⟩
abbrev Auu:Ar:=(Ar.mk ([]:List UInt8) ([]:List UInt8) false)
abbrev Ov:Bc:=(Bc.mk ([]:List (List UInt8)) ([]:List Ac) 0)
abbrev Xm:Ao:=(Ao.mk 0 0 0 0 false false false ([]:List (List UInt8)))
abbrev Ql:Ap:=(Ap.mk 0 (Ar.mk ([]:List UInt8) ([]:List UInt8) false))
abbrev G8:Ay:=(Ay.mk ([]:List Ao) (Be.mk ([]:List Ap)))
abbrev B3:A1:=(A1.mk ([]:List As))
abbrev Om:Ax:=(Ax.mk 0 0 0 0 false (Bf.mk ([]:List Ae)))
abbrev De:Ab:=(Ab.mk (Bc.mk ([]:List (List UInt8)) ([]:List Ac) 0) (Ay.mk ([]:List Ao) (Be.mk ([]:List Ap))) (A1.mk ([]:List As)) ([]:List Ax) 0)
abbrev Znl:Lf:=.raw (.slice none 0 0)
abbrev Ii6 (n:Int):Lf:=.i .i64 n
theorem SJ {α:Type} {a b:α} (h:some a=some b):a=b:=zD h
abbrev Nfu:Lf:=.raw .nilFunc
abbrev Zba:List Lf:=[Znl,Znl,Ii6 0,Znl,Znl,Znl,Znl,Ii6 0]
abbrev Zbb:List Lf:=[Ii6 0,Ii6 0,Ii6 0,Ii6 0,.b false,.b false,.b false,Znl]
theorem Nbl {n m:Nat} (h:Nat.ble n m=true):n<=m:=wH h
theorem Ag5:SI Qx0 84 99 3:=⟨Tryz.underlying84,by kernel_rfl,by decide⟩
theorem Auj:TI Qx0 99 true 3:=⟨⟨_,Tryz.underlying99,rfl⟩,by kernel_rfl⟩
theorem Azv:(Tryz.prog.info? 99).map (·.size)=some 3:=by kernel_rfl
theorem Ab1:FI Qx0 99 0 0:=⟨⟨_,_,1,Tryz.underlying99,rfl,rfl,by kernel_rfl,by decide⟩⟩
theorem Yz:TI Qx0 56 false 1:=⟨⟨_,Tryz.underlying56,rfl⟩,by kernel_rfl⟩
theorem Ai5:SI Qx0 56 5 1:=⟨Tryz.underlying56,by kernel_rfl,by decide⟩
theorem Ard:FI Qx0 99 1 1:=⟨⟨_,_,1,Tryz.underlying99,rfl,rfl,by kernel_rfl,by decide⟩⟩
theorem Arq:FI Qx0 99 2 2:=⟨⟨_,_,1,Tryz.underlying99,rfl,rfl,by kernel_rfl,by decide⟩⟩
theorem ti4:TI Qx0 4 false 1:=⟨⟨_,Tryz.underlying4,rfl⟩,by kernel_rfl⟩
theorem Aut:TI Qx0 86 true 1:=⟨⟨_,Tryz.underlying86,rfl⟩,by kernel_rfl⟩
theorem Ae9:EI Qx0 56 1 24 [Znl]:=Tq (by kernel_rfl) (by decide)
theorem Aus:NI Qx0 25:=⟨.inl ⟨_,Tryz.underlying25⟩⟩
theorem Ab4:SI Qx0 25 56 1:=⟨Tryz.underlying25,by kernel_rfl,by decide⟩
theorem mixed:Tryz.prog.follows .mixedOrders=true:=by kernel_rfl
theorem Au4:XI Qx0 259 Extern.BytealgCompare.compare:=⟨⟨Tryz.f259,Tryz.func259,by kernel_rfl,by kernel_rfl,by kernel_rfl,by kernel_rfl⟩⟩
theorem Ax0:FnI Qx0 150:=⟨⟨_,Tryz.func150,by kernel_rfl,by kernel_rfl⟩⟩
theorem Alu:SI Qx0 61 157 2:=⟨Tryz.underlying61,by kernel_rfl,by decide⟩
theorem Avd:TI Qx0 157 true 2:=⟨⟨_,Tryz.underlying157,rfl⟩,by kernel_rfl⟩
theorem Afy:FI Qx0 157 0 0:=⟨⟨_,_,1,Tryz.underlying157,rfl,rfl,by kernel_rfl,by decide⟩⟩
theorem Aqx:FI Qx0 58 0 0:=⟨⟨_,_,1,Tryz.underlying58,rfl,rfl,by kernel_rfl,by decide⟩⟩
theorem Avq:FI Qx0 58 2 2:=⟨⟨_,_,1,Tryz.underlying58,rfl,rfl,by kernel_rfl,by decide⟩⟩
theorem Ami:FI Qx0 58 1 1:=⟨⟨_,_,1,Tryz.underlying58,rfl,rfl,by kernel_rfl,by decide⟩⟩
theorem Asq:TI Qx0 58 true 3:=⟨⟨_,Tryz.underlying58,rfl⟩,by kernel_rfl⟩
theorem Apc:EI Qx0 157 2 48 [Znl,Znl]:=Tq (by kernel_rfl) (by decide)
theorem Azd:NI Qx0 61:=⟨.inl ⟨_,Tryz.underlying61⟩⟩
theorem Agp:FI Qx0 157 1 1:=⟨⟨_,_,1,Tryz.underlying157,rfl,rfl,by kernel_rfl,by decide⟩⟩
theorem Axl:ZI Qx0 40 (Zba):=Ac1 (by kernel_rfl)
theorem Az8:PI Qx0 40 [(0,3),(3,2),(5,1),(6,1),(7,1)]:=Agz Tryz.underlying40 (by kernel_rfl) (by kernel_rfl)
theorem Aii:TI Qx0 40 true 8:=⟨⟨_,Tryz.underlying40,rfl⟩,by kernel_rfl⟩
theorem Aq3:FI Qx0 40 0 0:=⟨⟨_,_,3,Tryz.underlying40,rfl,rfl,by kernel_rfl,by decide⟩⟩
theorem At5:TI Qx0 28 true 3:=⟨⟨_,Tryz.underlying28,rfl⟩,by kernel_rfl⟩
theorem Aq9:FI Qx0 28 2 2:=⟨⟨_,_,1,Tryz.underlying28,rfl,rfl,by kernel_rfl,by decide⟩⟩
theorem ti3:TI Qx0 3 false 1:=⟨⟨_,Tryz.underlying3,rfl⟩,by kernel_rfl⟩
theorem Ac8:FI Qx0 28 0 0:=⟨⟨_,_,1,Tryz.underlying28,rfl,rfl,by kernel_rfl,by decide⟩⟩
theorem Axn:TI Qx0 25 false 1:=⟨⟨_,Tryz.underlying25,rfl⟩,by kernel_rfl⟩
theorem Ae4:FI Qx0 28 1 1:=⟨⟨_,_,1,Tryz.underlying28,rfl,rfl,by kernel_rfl,by decide⟩⟩
theorem Avy:TI Qx0 26 false 1:=⟨⟨_,Tryz.underlying26,rfl⟩,by kernel_rfl⟩
theorem Au1:SI Qx0 26 134 1:=⟨Tryz.underlying26,by kernel_rfl,by decide⟩
theorem V3:TI Qx0 134 true 1:=⟨⟨_,Tryz.underlying134,rfl⟩,by kernel_rfl⟩
theorem Ax7:ZI Qx0 134 ([Znl]):=Ac1 (by kernel_rfl)
theorem Ax6:(Tryz.prog.info? 134).map (·.size)=some 1:=by kernel_rfl
theorem Af2:FI Qx0 134 0 0:=⟨⟨_,_,1,Tryz.underlying134,rfl,rfl,by kernel_rfl,by decide⟩⟩
theorem Aya:TI Qx0 132 false 1:=⟨⟨_,Tryz.underlying132,rfl⟩,by kernel_rfl⟩
theorem Zn:SI Qx0 132 136 3:=⟨Tryz.underlying132,by kernel_rfl,by decide⟩
theorem sz3:(Tryz.prog.info? 3).map (·.size)=some 1:=by kernel_rfl
theorem Avl:TI Qx0 136 true 3:=⟨⟨_,Tryz.underlying136,rfl⟩,by kernel_rfl⟩
theorem Ay0:ZI Qx0 136 ([Ii6 0,Znl,.b false]):=Ac1 (by kernel_rfl)
theorem Atd:FI Qx0 136 0 0:=⟨⟨_,_,1,Tryz.underlying136,rfl,rfl,by kernel_rfl,by decide⟩⟩
theorem Ate:FI Qx0 136 2 2:=⟨⟨_,_,1,Tryz.underlying136,rfl,rfl,by kernel_rfl,by decide⟩⟩
theorem Aqs:FI Qx0 40 1 3:=⟨⟨_,_,2,Tryz.underlying40,rfl,rfl,by kernel_rfl,by decide⟩⟩
theorem Aj8:TI Qx0 34 true 2:=⟨⟨_,Tryz.underlying34,rfl⟩,by kernel_rfl⟩
theorem Ahu:FI Qx0 34 0 0:=⟨⟨_,_,1,Tryz.underlying34,rfl,rfl,by kernel_rfl,by decide⟩⟩
theorem Axm:TI Qx0 29 false 1:=⟨⟨_,Tryz.underlying29,rfl⟩,by kernel_rfl⟩
theorem Tu:SI Qx0 29 139 8:=⟨Tryz.underlying29,by kernel_rfl,by decide⟩
theorem Ar2:FI Qx0 34 1 1:=⟨⟨_,_,1,Tryz.underlying34,rfl,rfl,by kernel_rfl,by decide⟩⟩
theorem Awm:TI Qx0 32 true 1:=⟨⟨_,Tryz.underlying32,rfl⟩,by kernel_rfl⟩
theorem Ael:FI Qx0 32 0 0:=⟨⟨_,_,1,Tryz.underlying32,rfl,rfl,by kernel_rfl,by decide⟩⟩
theorem Au0:TI Qx0 30 false 1:=⟨⟨_,Tryz.underlying30,rfl⟩,by kernel_rfl⟩
theorem Aie:SI Qx0 30 142 4:=⟨Tryz.underlying30,by kernel_rfl,by decide⟩
theorem Amz:TI Qx0 142 true 4:=⟨⟨_,Tryz.underlying142,rfl⟩,by kernel_rfl⟩
theorem ti5:TI Qx0 5 false 1:=⟨⟨_,Tryz.underlying5,rfl⟩,by kernel_rfl⟩
instance:DecidableEq B0:=λa b=>decidable_of_iff (a.tx_=b.tx_/\a.lo_=b.lo_/\a.hi_=b.hi_/\a.open_=b.open_) (by cases a;cases b;simp)
theorem Awc:Afa B0 Qx0 354 C6 [0,2,2,1]:=⟨⟨by kernel_rfl,by kernel_rfl,by kernel_rfl,by kernel_rfl⟩,λ_=>rfl,by decide,λa b=>by cases a;cases b;simp [C6,Auv,Axq,A0l,Azs]⟩
theorem Ays:TI Qx0 354 true 4:=⟨⟨_,Tryz.underlying354,rfl⟩,by kernel_rfl⟩
theorem Nz:TI Qx0 139 true 8:=⟨⟨_,Tryz.underlying139,rfl⟩,by kernel_rfl⟩
theorem Av4:(Tryz.prog.info? 139).map (·.size)=some 8:=by kernel_rfl
theorem Aui:FI Qx0 139 0 0:=⟨⟨_,_,1,Tryz.underlying139,rfl,rfl,by kernel_rfl,by decide⟩⟩
theorem Ac4:FI Qx0 139 3 3:=⟨⟨_,_,1,Tryz.underlying139,rfl,rfl,by kernel_rfl,by decide⟩⟩
theorem Afj:FI Qx0 139 2 2:=⟨⟨_,_,1,Tryz.underlying139,rfl,rfl,by kernel_rfl,by decide⟩⟩
theorem As3:FI Qx0 139 7 7:=⟨⟨_,_,1,Tryz.underlying139,rfl,rfl,by kernel_rfl,by decide⟩⟩
theorem ei3:EI Qx0 3 1 8 [Ii6 0]:=Tq (by kernel_rfl) (by decide)
theorem Al5:NI Qx0 225:=⟨.inl ⟨_,Tryz.underlying225⟩⟩
theorem Awu:SI Qx0 225 3 1:=⟨Tryz.underlying225,by kernel_rfl,by decide⟩
theorem Anf:EI Qx0 142 4 64 [Ii6 0,Znl,Znl,.b false]:=Tq (by kernel_rfl) (by decide)
theorem Azm:NI Qx0 30:=⟨.inl ⟨_,Tryz.underlying30⟩⟩
theorem Au8:FT Qx0 32 0 0 30:=⟨⟨_,_,Tryz.underlying32,rfl,rfl,rfl⟩⟩
theorem Azc:TI Qx0 37 true 1:=⟨⟨_,Tryz.underlying37,rfl⟩,by kernel_rfl⟩
theorem Aqy:FI Qx0 37 0 0:=⟨⟨_,_,1,Tryz.underlying37,rfl,rfl,by kernel_rfl,by decide⟩⟩
theorem Aza:TI Qx0 35 false 1:=⟨⟨_,Tryz.underlying35,rfl⟩,by kernel_rfl⟩
theorem Aj1:SI Qx0 35 145 4:=⟨Tryz.underlying35,by kernel_rfl,by decide⟩
theorem As4:TI Qx0 145 true 4:=⟨⟨_,Tryz.underlying145,rfl⟩,by kernel_rfl⟩
theorem Axy:(Tryz.prog.info? 145).map (·.size)=some 4:=by kernel_rfl
theorem Atb:FI Qx0 145 3 3:=⟨⟨_,_,1,Tryz.underlying145,rfl,rfl,by kernel_rfl,by decide⟩⟩
theorem Avf:FI Qx0 40 4 7:=⟨⟨_,_,1,Tryz.underlying40,rfl,rfl,by kernel_rfl,by decide⟩⟩
theorem Aw2:FI Qx0 40 3 6:=⟨⟨_,_,1,Tryz.underlying40,rfl,rfl,by kernel_rfl,by decide⟩⟩
theorem A0u:TI Qx0 38 false 1:=⟨⟨_,Tryz.underlying38,rfl⟩,by kernel_rfl⟩
theorem Aih:SI Qx0 38 88 6:=⟨Tryz.underlying38,by kernel_rfl,by decide⟩
theorem Ao8:TI Qx0 88 true 6:=⟨⟨_,Tryz.underlying88,rfl⟩,by kernel_rfl⟩
theorem A0z:(Tryz.prog.info? 88).map (·.size)=some 6:=by kernel_rfl
theorem Ana:FI Qx0 88 0 0:=⟨⟨_,_,1,Tryz.underlying88,rfl,rfl,by kernel_rfl,by decide⟩⟩
theorem Aq8:FI Qx0 88 5 5:=⟨⟨_,_,1,Tryz.underlying88,rfl,rfl,by kernel_rfl,by decide⟩⟩
theorem A02:(Tryz.prog.info? 40).map (·.size)=some 8:=by kernel_rfl
theorem Aue:EI Qx0 88 6 64 [Ii6 0,Ii6 0,Ii6 0,Ii6 0,.b false,Znl]:=Tq (by kernel_rfl) (by decide)
theorem Ayj:NI Qx0 38:=⟨.inl ⟨_,Tryz.underlying38⟩⟩
theorem Azf:ZI Qx0 34 ([Znl,Znl]):=Ac1 (by kernel_rfl)
theorem Agn:EI Qx0 139 8 64 Zbb:=Tq (by kernel_rfl) (by decide)
theorem Ax3:NI Qx0 29:=⟨.inl ⟨_,Tryz.underlying29⟩⟩
theorem A0x:PI Qx0 34 [(0,1),(1,1)]:=Agz Tryz.underlying34 (by kernel_rfl) (by kernel_rfl)
theorem Az4:ZI Qx0 37 ([Znl]):=Ac1 (by kernel_rfl)
theorem Azq:PI Qx0 37 [(0,1)]:=Agz Tryz.underlying37 (by kernel_rfl) (by kernel_rfl)
theorem Aj2:EI Qx0 145 4 32 [Ii6 0,Ii6 0,Ii6 0,Ii6 0]:=Tq (by kernel_rfl) (by decide)
theorem Axu:NI Qx0 35:=⟨.inl ⟨_,Tryz.underlying35⟩⟩
theorem Az3:EI Qx0 29 1 24 [Znl]:=Tq (by kernel_rfl) (by decide)
theorem Awi:SI Qx0 312 29 1:=⟨Tryz.underlying312,by kernel_rfl,by decide⟩
theorem Az7:EI Qx0 38 1 24 [Znl]:=Tq (by kernel_rfl) (by decide)
theorem Awa:SI Qx0 246 38 1:=⟨Tryz.underlying246,by kernel_rfl,by decide⟩
theorem ei5:EI Qx0 5 1 1 [.i .u8 0]:=Tq (by kernel_rfl) (by decide)
theorem A0v:NI Qx0 56:=⟨.inl ⟨_,Tryz.underlying56⟩⟩
theorem zv3:(Tryz.prog.info? 3).bind (·.zero)=some (.int .i64 0):=by kernel_rfl
theorem Azy:EI Qx0 30 1 24 [Znl]:=Tq (by kernel_rfl) (by decide)
theorem Awo:SI Qx0 396 30 1:=⟨Tryz.underlying396,by kernel_rfl,by decide⟩
theorem Ay5:TI Qx0 320 true 2:=⟨⟨_,Tryz.underlying320,rfl⟩,by kernel_rfl⟩
theorem Ash:FI Qx0 320 0 0:=⟨⟨_,_,1,Tryz.underlying320,rfl,rfl,by kernel_rfl,by decide⟩⟩
theorem Av1:TI Qx0 318 false 1:=⟨⟨_,Tryz.underlying318,rfl⟩,by kernel_rfl⟩
theorem At9:FI Qx0 320 1 1:=⟨⟨_,_,1,Tryz.underlying320,rfl,rfl,by kernel_rfl,by decide⟩⟩
theorem Ayp:PI Qx0 136 [(0,1),(1,1),(2,1)]:=Agz Tryz.underlying136 (by kernel_rfl) (by kernel_rfl)
theorem Ayh:EI Qx0 99 3 56 [Znl,Znl,.b false]:=Tq (by kernel_rfl) (by decide)
theorem A0o:NI Qx0 84:=⟨.inl ⟨_,Tryz.underlying84⟩⟩
theorem A0k:(Tryz.prog.info? 25).map (·.size)=some 1:=by kernel_rfl
theorem Aw0:ZI Qx0 28 ([Znl,Znl,Ii6 0]):=Ac1 (by kernel_rfl)
theorem Azj:PI Qx0 28 [(0,1),(1,1),(2,1)]:=Agz Tryz.underlying28 (by kernel_rfl) (by kernel_rfl)
theorem Agd:EI Qx0 134 1 24 [Znl]:=Tq (by kernel_rfl) (by decide)
theorem Axv:NI Qx0 26:=⟨.inl ⟨_,Tryz.underlying26⟩⟩
theorem Am3:EI Qx0 136 3 40 [Ii6 0,Znl,.b false]:=Tq (by kernel_rfl) (by decide)
theorem Axz:EI Qx0 132 1 24 [Znl]:=Tq (by kernel_rfl) (by decide)
theorem Avc:SI Qx0 408 132 1:=⟨Tryz.underlying408,by kernel_rfl,by decide⟩
theorem Awb:NI Qx0 132:=⟨.inl ⟨_,Tryz.underlying132⟩⟩
theorem An6:SI Qx0 22 60 11:=⟨Tryz.underlying22,by kernel_rfl,by decide⟩
theorem Ahv:FI Qx0 60 8 8:=⟨⟨_,_,3,Tryz.underlying60,rfl,rfl,by kernel_rfl,by decide⟩⟩
theorem An0:FI Qx0 60 6 6:=⟨⟨_,_,1,Tryz.underlying60,rfl,rfl,by kernel_rfl,by decide⟩⟩
theorem Awl:FI Qx0 60 7 7:=⟨⟨_,_,1,Tryz.underlying60,rfl,rfl,by kernel_rfl,by decide⟩⟩
theorem Azk:ZI Qx0 64 ([Ii6 0,.b false,Znl,Znl,Ii6 0]):=Ac1 (by kernel_rfl)
theorem Yf:FI Qx0 60 0 0:=⟨⟨_,_,1,Tryz.underlying60,rfl,rfl,by kernel_rfl,by decide⟩⟩
theorem A03:(Tryz.prog.info? 64).map (·.size)=some 5:=by kernel_rfl
theorem Azg:TI Qx0 64 true 5:=⟨⟨_,Tryz.underlying64,rfl⟩,by kernel_rfl⟩
theorem Az1:EI Qx0 35 1 24 [Znl]:=Tq (by kernel_rfl) (by decide)
theorem Avv:SI Qx0 337 35 1:=⟨Tryz.underlying337,by kernel_rfl,by decide⟩
theorem Ajg:SI Qx0 73 79 4:=⟨Tryz.underlying73,by kernel_rfl,by decide⟩
theorem Axo:TI Qx0 79 true 4:=⟨⟨_,Tryz.underlying79,rfl⟩,by kernel_rfl⟩
theorem Aqr:FI Qx0 79 3 3:=⟨⟨_,_,1,Tryz.underlying79,rfl,rfl,by kernel_rfl,by decide⟩⟩
theorem A0f:TI Qx0 77 false 1:=⟨⟨_,Tryz.underlying77,rfl⟩,by kernel_rfl⟩
theorem Axt:SI Qx0 77 152 16:=⟨Tryz.underlying77,by kernel_rfl,by decide⟩
theorem Afh:FI Qx0 152 0 0:=⟨⟨_,_,11,Tryz.underlying152,rfl,rfl,by kernel_rfl,by decide⟩⟩
theorem Aw3:TI Qx0 60 true 11:=⟨⟨_,Tryz.underlying60,rfl⟩,by kernel_rfl⟩
theorem Akh:FI Qx0 79 2 2:=⟨⟨_,_,1,Tryz.underlying79,rfl,rfl,by kernel_rfl,by decide⟩⟩
theorem Ass:FI Qx0 152 1 11:=⟨⟨_,_,5,Tryz.underlying152,rfl,rfl,by kernel_rfl,by decide⟩⟩
theorem Awt:FI Qx0 64 3 3:=⟨⟨_,_,1,Tryz.underlying64,rfl,rfl,by kernel_rfl,by decide⟩⟩
theorem A0m:TI Qx0 61 false 1:=⟨⟨_,Tryz.underlying61,rfl⟩,by kernel_rfl⟩
theorem Auw:EI Qx0 79 4 48 [Ii6 0,Ii6 0,Ii6 0,Znl]:=Tq (by kernel_rfl) (by decide)
theorem Axk:NI Qx0 73:=⟨.inl ⟨_,Tryz.underlying73⟩⟩
abbrev BE {α:Type} [EL α] (x:α):Blk:=.box (EL.el x)
noncomputable instance tbI:TB Qx0:=.of
 [(40,true,8),(3,false,1),(37,true,1),(56,false,1),(34,true,2),(139,true,8),(88,true,6),(28,true,3),(134,true,1),(86,true,1),(4,false,1),(99,true,3),(32,true,1),(58,true,3),(25,false,1),(29,false,1),(64,true,5),(145,true,4),(26,false,1),(142,true,4),(38,false,1),(136,true,3),(30,false,1),(35,false,1),(84,false,1),(132,false,1),(77,false,1),(79,true,4),(60,true,11),(157,true,2),(5,false,1),(62,false,1),(354,true,4),(320,true,2),(318,false,1),(61,false,1)]
 [zy 40 (Zba),zy 37 ([Znl]),zy 34 ([Znl,Znl]),zy 88 ([Ii6 0,Ii6 0,Ii6 0,Ii6 0,.b false,Znl]),zy 139 (Zbb),zy 28 ([Znl,Znl,Ii6 0]),zy 99 ([Znl,Znl,.b false]),zy 145 ([Ii6 0,Ii6 0,Ii6 0,Ii6 0]),zy 86 ([Znl]),zy 134 ([Znl]),zy 64 ([Ii6 0,.b false,Znl,Znl,Ii6 0]),zy 32 ([Znl]),zy 136 ([Ii6 0,Znl,.b false]),zy 142 ([Ii6 0,Znl,Znl,.b false]),zy 157 ([Znl,Znl]),zy 58 ([Znl,Znl,.b false]),zy 3 ([Ii6 0]),zy 60 ([Ii6 0,Ii6 0,Ii6 0,Ii6 0,.b false,.b false,Znl,Znl,Znl,Znl,.b false]),zy 354 ([Ii6 0,.s ByteArray.empty,.s ByteArray.empty,.b false]),zy 320 ([Nfu,Nfu]),zy 4 ([.b false]),zy 152 ([Ii6 0,Ii6 0,Ii6 0,Ii6 0,.b false,.b false,Znl,Znl,Znl,Znl,.b false,Ii6 0,.b false,Znl,Znl,Ii6 0]),zy 79 ([Ii6 0,Ii6 0,Ii6 0,Znl])]
 [(34,0,0),(60,0,0),(99,0,0),(28,0,0),(28,1,1),(28,2,2),(40,0,0),(139,3,3),(40,3,6),(88,0,0),(40,1,3),(139,2,2),(86,0,0),(32,0,0),(40,2,5),(58,1,1),(37,0,0),(79,3,3),(134,0,0),(34,1,1),(139,0,0),(139,7,7),(40,4,7),(88,5,5),(99,1,1),(58,0,0),(136,0,0),(139,1,1),(145,2,2),(145,1,1),(60,6,6),(157,0,0),(142,1,1),(79,2,2),(99,2,2),(58,2,2),(145,0,0),(88,1,1),(60,8,8),(142,0,0),(88,3,3),(88,2,2),(60,7,7),(64,4,4),(157,1,1),(136,1,1),(136,2,2),(139,6,6),(145,3,3),(88,4,4),(60,2,2),(60,5,5),(152,0,0),(79,1,1),(139,5,5),(139,4,4),(60,3,3),(64,0,0),(320,0,0),(320,1,1),(60,4,4),(152,1,11),(64,1,1),(64,2,2),(64,3,3),(60,1,1)]
 [(29,139,8),(25,56,1),(56,5,1),(84,99,3),(38,88,6),(30,142,4),(35,145,4),(61,157,2),(73,79,4),(132,136,3),(22,60,11),(26,134,1),(77,152,16),(312,29,1),(246,38,1),(396,30,1),(408,132,1),(337,35,1),(225,3,1)]
 [(157,[(0,1),(1,1)]),(40,[(0,3),(3,2),(5,1),(6,1),(7,1)]),(354,[(0,1),(1,1),(2,1),(3,1)]),(32,[(0,1)]),(139,[(0,1),(1,1),(2,1),(3,1),(4,1),(5,1),(6,1),(7,1)]),(88,[(0,1),(1,1),(2,1),(3,1),(4,1),(5,1)]),(34,[(0,1),(1,1)]),(37,[(0,1)]),(145,[(0,1),(1,1),(2,1),(3,1)]),(99,[(0,1),(1,1),(2,1)]),(58,[(0,1),(1,1),(2,1)]),(142,[(0,1),(1,3)]),(320,[(0,1),(1,1)]),(136,[(0,1),(1,1),(2,1)]),(86,[(0,1)]),(28,[(0,1),(1,1),(2,1)]),(134,[(0,1)]),(64,[(0,1),(1,1),(2,1),(3,1),(4,1)]),(152,[(0,11),(11,5)]),(79,[(0,1),(1,1),(2,1),(3,1)])] (by kernel_rfl) (by kernel_rfl) (by kernel_rfl) (by kernel_rfl)
noncomputable instance fbI:FB Qx0:=⟨[61,130,16,131,57,150,121,45,47,74,55,62,181,46,116,69,52,119,182,235,108,237,48,132,194,23,135,201,205,24,53,25,27,51,124,125,107,183,109,71,72,184,236,185,110,186,111,114,197,113,188,56,128,195,73,200,251,203,204,64,148,147,218,70,254,214,215,146,54,50,168,118,20,219,120,122,112,187,115,189,117,49,129,249,196,58,198,133,59,134,60,63,206,137,65,268,250,199,202,252,253,136,149,28,126,127,138,66,139,67,141,209,210,269,270,212,211,140,142,213,255,256,281,275,257,216,143,144,258,217,145,68,29,30,26,31,220,151,75,32,17,9,10,18,19,21,11],by kernel_rfl⟩
def Dr (a0:List UInt8):Option Bool :=
 if (decide (1<=(a0.length:Int))) then(some (decide ((a0.length:Int)<=16))) else(some false)
theorem Ns {a0:List UInt8} {r:Bool} (h:Dr a0=some r):A6 Qx0 62 [.one (SL a0 eU8)] (·=L7 (.b r)):=by
 refine An Tryz.func62 R (nt:=11) R (Nbl R) ?_
 intro w0 S0
 refine crs R (csr (rx 4 R (ssI 6 h R (λh=>?_) (λh=>?_))))
 ·refine rsn R (Bn ?_)
  cases SJ h
  exact dnT R R R R
 ·refine rsn R (Bn ?_)
  cases SJ h
  exact dnT R R R R
def Ca (a0:Ae):Option Bool :=
 (Dr a0.Key).bind λv1=>if v1 then(if (decide ((a0.Val.length:Int)<=32)) then(if a0.Del then(some (!(decide (0<(a0.Val.length:Int))))) else(some true)) else(some false)) else(some false)
theorem M5 {a0:Ae} {r:Bool} (h:Ca a0=some r):A6 Qx0 124 [.agg (EL.el a0)] (·=L7 (.b r)):=by
 refine An Tryz.func124 R (nt:=23) R (Nbl R) ?_
 intro w0 S0
 refine crs R (csr (rx 2 R ?_))
 obtain⟨v1,hv1,h⟩:=Aa h
 refine scI R R (Ns hv1) (rm 1 R (ssI 6 h R (λh=>?_) (λh=>?_)))
 ·refine rx 6 R (ssI 12 h R (λh=>?_) (λh=>?_))
  ·refine rx 3 R (ssI 15 h R (λh=>?_) (λh=>?_))
   ·refine rsn R (Bn ?_)
    cases SJ h
    exact dnT R R R R
   ·refine rsn R (Bn ?_)
    cases SJ h
    exact dnT R R R R
  ·refine rsn R (Bn ?_)
   cases SJ h
   exact dnT R R R R
 ·refine rsn R (Bn ?_)
  cases SJ h
  exact dnT R R R R
def O1 (b1:(List (List UInt8))):Option (List (List UInt8)) :=
 some b1
def G5 (a0:Bf) (s2:Int×(List (List UInt8))):Option (LB (Int×(List (List UInt8))) ((List (List UInt8)))) :=
 if (decide (s2.1<(a0.L.length:Int))) then((idx a0.L s2.1).bind λu3=>if (s2.2.length+[u3.Key].length)*24<=140737488355328 then(some (.cont ((wI (s2.1+1)),(s2.2++[u3.Key])))) else none) else(some (.brk s2.2))
def Dn (a0:Bf):Option (List (List UInt8)) :=
 (B8 (G5 a0) fuel (0,([]:List (List UInt8)))).bind λe5=>O1 e5
theorem Px {a0:Bf} {r:(List (List UInt8))} (h:Dn a0=some r):A6 Qx0 125 [.agg [SL a0.L Am]] (·=L7 (SL r (eL eU8))):=by
 refine An Tryz.func125 R (nt:=20) R (Nbl R) ?_
 intro w0 S0
 refine crs R (crs R (Bb (crs R ?_)))
 refine Cq 56 1 3 (by decide) R ?_
 refine cj ((List (List UInt8))) (λb1=>[(3,L7 (.ls 1 b1.length))]) (λb1=>[.box [SL a0.L Am],.arr 56 1 0 (b1.flatMap (eL eU8))]) (λb1=>O1 b1=some r) fR (λb1 h=>?_) ?_
 ·refine crs R (Bn ?_)
  cases SJ h
  refine⟨Or.inr R,_,_,_,(Au (rt R) A4),pb,?_⟩
  rfl
 ·refine Bh ?_
  obtain⟨x2,hx2,ho2⟩:=Aa h
  refine lpn (α:=Int×(List (List UInt8))) (λg=>[(3,L7 (.ls 1 g.2.2.length)),(7,L7 (SL a0.L Am)),(8,L7 (Ii6 (a0.L.length:Int))),(9,L7 (Ii6 g.2.1))]) (λg=>[.box [SL a0.L Am],.arr 56 1 0 (g.2.2.flatMap (eL eU8))]) (λg=>B8 (G5 a0) g.1 g.2=some x2) (fuel,(0,([]:List (List UInt8)))) hx2 R R fR ?_
  rintro⟨n2,s2⟩ h
  obtain⟨n2,y2,rfl,h,hk2⟩:=Cb h
  refine crs R (Bb (ccI h R (λh=>?_) (λh=>?_)))
  ·refine csn (csb ?_)
   obtain⟨u3,hu3,h⟩:=Aa h
   refine sv R (Bl (f:=Am) Ag5 fR R R R R hu3) ?_
   refine sv R (A8 (ys:=[SL u3.Key eU8,SL u3.Val eU8,.b u3.Del]) Auj R (.cp _) R R) (rsn R (Bg (rx 3 R ?_)))
   refine Eg R Tryz.underlying25 Ae9 R R (zL.1 R) (by decide) ?_
   refine Pf [.box [SL a0.L Am],.arr 56 1 0 (s2.2.flatMap (eL eU8)),BE u3,.arr 56 1 0 ([u3.Key].flatMap (eL eU8))] R ?_
   obtain⟨hb4,h⟩:=B5 h
   refine Tp (f:=(eL eU8)) (xs:=s2.2) (us:=[u3.Key]) R Tryz.underlying25 Ae9 Aus fR R R (.one _ _ _ _ (.ls _ _ _ _ _ _ R (Aq (f:=(eL eU8)) fR [u3.Key]).symm)) R R R (.sl _ _ _ (Aq (f:=(eL eU8)) fR _)) R R hb4 (by decide) ?_
   refine rm 1 R (Fi (A0 (Ag (cgs R ?_))))
   cases SJ h
   exact lx (n2,((wI (s2.1+1)),(s2.2++[u3.Key]))) hk2 R R
  ·refine cx5 ?_
   cases SJ h
   obtain rfl:_=x2:=hk2
   exact⟨s2.2,_,ho2,(ml R),R⟩
def Rh (a0:List UInt8) (a1:List UInt8):Option Int :=
 some (Dp a0 a1)
theorem U7 {a0:List UInt8} {a1:List UInt8} {r:Int} (h:Rh a0 a1=some r):A6 Qx0 219 [.one (SL a0 eU8),.one (SL a1 eU8)] (·=L7 (Ii6 r)):=by
 refine An Tryz.func219 R (nt:=8) R (Nbl R) ?_
 intro w0 S0
 refine crs R (csr (rm 2 R (sv R (Aoy (a:=a0) (b:=a1) Au4 R R R R R R) (rsn R (Bn ?_)))))
 cases SJ h
 exact dnT R R R R
def Ij (a0:List UInt8) (a1:List UInt8):Option Int :=
 (Rh a0 a1).bind λv1=>some v1
theorem Kb {a0:List UInt8} {a1:List UInt8} {r:Int} (h:Ij a0 a1=some r):A6 Qx0 150 [.one (SL a0 eU8),.one (SL a1 eU8)] (·=L7 (Ii6 r)):=by
 refine An Tryz.func150 R (nt:=8) R (Nbl R) ?_
 intro w0 S0
 refine crs R (csr (rx 2 R ?_))
 obtain⟨v1,hv1,h⟩:=Aa h
 refine scI R R (U7 hv1) (rsn R (Bn ?_))
 cases SJ h
 exact dnT R R R R
def Qu (b1:Unit):Option Bool :=
 some true
def Ce (a0:List (List UInt8)) (s2:Int):Option (LR (Int) (Unit) (Bool)) :=
 if (decide (s2<(a0.length:Int))) then((idx a0 (wI (s2-1))).bind λu3=>(idx a0 s2).bind λu4=>(Ij u3 u4).bind λv5=>if (decide (0<=v5)) then(some (.ret false)) else(some (.cont (wI (s2+1))))) else(some (.brk ()))
def B6 (a0:List (List UInt8)):Option Bool :=
 (Gj (Ce a0) fuel 1).bind λx=>match x with | .inl r=>some r | .inr e6=>Qu e6
theorem Jn {a0:List (List UInt8)} {r:Bool} (h:B6 a0=some r):A6 Qx0 181 [.one (SL a0 (eL eU8))] (·=L7 (.b r)):=by
 refine An Tryz.func181 R (nt:=21) R (Nbl R) ?_
 intro w0 S0
 refine crs R (Bb (crs R (cj (Unit) (λb1=>[]) (λb1=>[]) (λb1=>Qu b1=some r) fR (λb1 h=>?_) ?_)))
 ·refine crs R (Bn ?_)
  cases SJ h
  exact dnT R R R R
 ·refine Bh ?_
  obtain⟨x2,hx2,ho2⟩:=Aa h
  refine lpn (α:=Int) (λg=>[(0,L7 (SL a0 (eL eU8))),(3,L7 (Ii6 g.2))]) (λg=>[]) (λg=>Gj (Ce a0) g.1 g.2=some x2) (fuel,1) hx2 R R fR ?_
  rintro⟨n2,s2⟩ h
  obtain⟨n2,y2,rfl,h,hk2⟩:=Ct h
  refine Bb (crs R (ccI h R (λh=>?_) (λh=>?_)))
  ·refine csn (Bb (Bh (Bb ?_)))
   refine U4 mixed (by kernel_rfl) ?_
   refine dv R (Bj R) (dv R (Bj R) (dv R (Anu R R) ?_))
   obtain⟨u3,hu3,h⟩:=Aa h
   refine dv R (Bl (f:=(eL eU8)) Ab4 fR R R R R hu3) ?_
   refine dv R (C5 Yz R (.cp _) R) (dv R (Bj R) (dv R (Bj R) ?_))
   obtain⟨u4,hu4,h⟩:=Aa h
   refine dv R (Bl (f:=(eL eU8)) Ab4 fR R R R R hu4) ?_
   refine dv R (C5 Yz R (.cp _) R) ?_
   obtain⟨v5,hv5,h⟩:=Aa h
   refine dd R (Cf (fk R) (Af R (Af R A2)) R (Kb hv5)) (dv R (Afk R R) (Vp (Ag (ccI h R (λh=>?_) (λh=>?_)))))
   ·refine crs R (Bn (br5 ?_))
    cases SJ h
    obtain rfl:Sum.inl _=x2:=hk2
    obtain rfl:=zD ho2
    exact dnT R R R R
   ·refine cbn (cgs R ?_)
    cases SJ h
    exact lx (n2,(wI (s2+1))) hk2 R R
  ·refine cx5 ?_
   cases SJ h
   obtain rfl:_=x2:=hk2
   exact⟨(),_,ho2,trivial,R⟩
def Il (a0:Bf) (b1:Unit):Option Bool :=
 if (decide ((a0.L.length:Int)<=16)) then((Dn a0).bind λv2=>(B6 v2).bind λv3=>some v3) else(some false)
def Gf (a0:Bf) (s4:Int):Option (LR (Int) (Unit) (Bool)) :=
 if (decide (s4<(a0.L.length:Int))) then((idx a0.L s4).bind λu5=>(Ca u5).bind λv6=>if (!v6) then(some (.ret false)) else(some (.cont (wI (s4+1))))) else(some (.brk ()))
def E8 (a0:Bf):Option Bool :=
 (Gj (Gf a0) fuel 0).bind λx=>match x with | .inl r=>some r | .inr e7=>Il a0 e7
theorem Nh {a0:Bf} {r:Bool} (h:E8 a0=some r):A6 Qx0 119 [.agg [SL a0.L Am]] (·=L7 (.b r)):=by
 refine An Tryz.func119 R (nt:=25) R (Nbl R) ?_
 intro w0 S0
 refine crs R (Bb (crs R (cj (Unit) (λb1=>[(1,L7 (.lp 0 0))]) (λb1=>[.box [SL a0.L Am]]) (λb1=>Il a0 b1=some r) fR (λb1 h=>?_) ?_)))
 ·refine csr (rx 5 R (ssI 20 h R (λh=>?_) (λh=>?_)))
  ·refine rx 1 R (son R R R ?_)
   obtain⟨v2,hv2,h⟩:=Aa h
   refine scI R R (Px hv2) (son R R R ?_)
   obtain⟨v3,hv3,h⟩:=Aa h
   refine scI R R (Jn hv3) (rsn R (Bn ?_))
   cases SJ h
   exact dnT R R R R
  ·refine rsn R (Bn ?_)
   cases SJ h
   exact dnT R R R R
 ·refine Bh ?_
  obtain⟨x4,hx4,ho4⟩:=Aa h
  refine lpn (α:=Int) (λg=>[(1,L7 (.lp 0 0)),(6,L7 (SL a0.L Am)),(7,L7 (Ii6 (a0.L.length:Int))),(8,L7 (Ii6 g.2))]) (λg=>[.box [SL a0.L Am]]) (λg=>Gj (Gf a0) g.1 g.2=some x4) (fuel,0) hx4 R R fR ?_
  rintro⟨n4,s4⟩ h
  obtain⟨n4,y4,rfl,h,hk4⟩:=Ct h
  refine crs R (Bb (ccI h R (λh=>?_) (λh=>?_)))
  ·refine csn (csb ?_)
   obtain⟨u5,hu5,h⟩:=Aa h
   refine sv R (Bl (f:=Am) Ag5 fR R R R R hu5) ?_
   refine sv R (A8 (ys:=[SL u5.Key eU8,SL u5.Val eU8,.b u5.Del]) Auj R (.cp _) R R) (rsn R (csr (rx 1 R ?_)))
   obtain⟨v6,hv6,h⟩:=Aa h
   refine scI R R (M5 hv6) (rsn R (ccI h R (λh=>?_) (λh=>?_)))
   ·refine crs R (Bn (br5 ?_))
    cases SJ h
    obtain rfl:Sum.inl _=x4:=hk4
    obtain rfl:=zD ho4
    exact dnT R R R R
   ·refine cbn (cgs R ?_)
    cases SJ h
    exact lx (n4,(wI (s4+1))) hk4 R R
  ·refine cx5 ?_
   cases SJ h
   obtain rfl:_=x4:=hk4
   exact⟨(),_,ho4,(ml R),R⟩
def Dt (b1:(List (List UInt8))):Option Bool :=
 (B6 b1).bind λv2=>some v2
def Dw (a0:List A5) (s3:Int×(List (List UInt8))):Option (LB (Int×(List (List UInt8))) ((List (List UInt8)))) :=
 if (decide (s3.1<(a0.length:Int))) then((idx a0 s3.1).bind λu4=>if (s3.2.length+[u4.Key].length)*24<=140737488355328 then(some (.cont ((wI (s3.1+1)),(s3.2++[u4.Key])))) else none) else(some (.brk s3.2))
def Fx (a0:List A5):Option Bool :=
 (B8 (Dw a0) fuel (0,([]:List (List UInt8)))).bind λe6=>Dt e6
theorem Wl {a0:List A5} {r:Bool} (h:Fx a0=some r):A6 Qx0 120 [.one (SL a0 Bi)] (·=L7 (.b r)):=by
 refine An Tryz.func120 R (nt:=20) R (Nbl R) ?_
 intro w0 S0
 refine crs R (crs R (Bb (crs R ?_)))
 refine Cq 56 1 3 (by decide) R ?_
 refine cj ((List (List UInt8))) (λb1=>[(3,L7 (.ls 0 b1.length))]) (λb1=>[.arr 56 1 0 (b1.flatMap (eL eU8))]) (λb1=>Dt b1=some r) fR (λb1 h=>?_) ?_
 ·refine csr (rx 1 R ?_)
  refine Ahd 18 R pb ?_
  obtain⟨v2,hv2,h⟩:=Aa h
  refine scI R R (Jn hv2) (rsn R (Bn ?_))
  cases SJ h
  exact dnT R R R R
 ·refine Bh ?_
  obtain⟨x3,hx3,ho3⟩:=Aa h
  refine lpn (α:=Int×(List (List UInt8))) (λg=>[(3,L7 (.ls 0 g.2.2.length)),(6,L7 (SL a0 Bi)),(7,L7 (Ii6 (a0.length:Int))),(8,L7 (Ii6 g.2.1))]) (λg=>[.arr 56 1 0 (g.2.2.flatMap (eL eU8))]) (λg=>B8 (Dw a0) g.1 g.2=some x3) (fuel,(0,([]:List (List UInt8)))) hx3 R R fR ?_
  rintro⟨n3,s3⟩ h
  obtain⟨n3,y3,rfl,h,hk3⟩:=Cb h
  refine crs R (Bb (ccI h R (λh=>?_) (λh=>?_)))
  ·refine csn (csb ?_)
   obtain⟨u4,hu4,h⟩:=Aa h
   refine sv R (Bl (f:=Bi) Alu fR R R R R hu4) ?_
   refine sv R (A8 (ys:=[SL u4.Key eU8,SL u4.Val eU8]) Avd R (.cp _) R R) (rsn R (Bg (rx 3 R ?_)))
   refine Eg R Tryz.underlying25 Ae9 R R (zL.1 R) (by decide) ?_
   refine Pf [.arr 56 1 0 (s3.2.flatMap (eL eU8)),BE u4,.arr 56 1 0 ([u4.Key].flatMap (eL eU8))] R ?_
   obtain⟨hb5,h⟩:=B5 h
   refine Tp (f:=(eL eU8)) (xs:=s3.2) (us:=[u4.Key]) R Tryz.underlying25 Ae9 Aus fR R R (.one _ _ _ _ (.ls _ _ _ _ _ _ R (Aq (f:=(eL eU8)) fR [u4.Key]).symm)) R R R (.sl _ _ _ (Aq (f:=(eL eU8)) fR _)) R R hb5 (by decide) ?_
   refine rm 1 R (Fi (A0 (Ag (cgs R ?_))))
   cases SJ h
   exact lx (n3,((wI (s3.1+1)),(s3.2++[u4.Key]))) hk3 R R
  ·refine cx5 ?_
   cases SJ h
   obtain rfl:_=x3:=hk3
   exact⟨s3.2,_,ho3,(ml R),R⟩
def Gw (a0:Ar) (a1:List UInt8):Option Bool :=
 (Ij a1 a0.Lo).bind λv1=>if (decide (0<=v1)) then(if a0.Open then(some true) else((Ij a1 a0.Hi).bind λv2=>some (decide (v2<0)))) else(some false)
theorem Kh {a0:Ar} {a1:List UInt8} {r:Bool} (h:Gw a0 a1=some r):A6 Qx0 121 [.agg (EL.el a0),.one (SL a1 eU8)] (·=L7 (.b r)):=by
 refine An Tryz.func121 R (nt:=21) R (Nbl R) ?_
 intro w0 S0
 refine crs R (csr (rx 3 R ?_))
 obtain⟨v1,hv1,h⟩:=Aa h
 refine scI R R (Kb hv1) (rx 2 R (ssI 10 h R (λh=>?_) (λh=>?_)))
 ·refine rx 3 R (ssI 13 h R (λh=>?_) (λh=>?_))
  ·refine rsn R (Bn ?_)
   cases SJ h
   exact dnT R R R R
  ·refine rx 3 R (son R R R ?_)
   obtain⟨v2,hv2,h⟩:=Aa h
   refine scI R R (Kb hv2) (rsn R (Bn ?_))
   cases SJ h
   exact dnT R R R R
 ·refine rsn R (Bn ?_)
  cases SJ h
  exact dnT R R R R
def kvk (x:A5):List UInt8:=x.Key
def kB (x:A5):ByteArray:=⟨x.Key.toArray⟩
theorem Ae8 {t:List A5} {j:Nat} {k:List UInt8} (h:(t.map kB)[j]? = some ⟨k.toArray⟩):(t.map kvk)[j]? = some k:=by
 rw[zQ] at h ⊢
 cases ht:t[j]? with
 | none=>rw[ht] at h;cases h
 | some x =>
  rw[ht] at h
  have h1:(⟨x.Key.toArray⟩:ByteArray)=⟨k.toArray⟩:=zD h
  have h2:x.Key.toArray=k.toArray:=congrArg ByteArray.data h1
  have h3:x.Key=k:=by have:=congrArg Array.toList h2;simpa using this
  rw[xE];exact congrArg some h3
theorem Amt {t:List A5} {k:List UInt8} (h:(⟨k.toArray⟩:ByteArray)∉t.map kB):k∉t.map kvk:=λhk=>by
 obtain⟨x,hx,rfl⟩:=z8.1 hk
 exact h (z8.2 ⟨x,hx,R⟩)
theorem Arj {t:List A5} {j:Nat} {x:A5} (h:(t.map kvk)[j]? = some (kvk x)):(t.set j x).map kB=t.map kB:=by
 rw[kQ]
 apply wE
 intro i
 rw[kL]
 by_cases hij:j=i
 ·subst hij
  rw[zQ] at h ⊢
  cases ht:t[j]? with
  | none=>rw[ht] at h;cases h
  | some y =>
   rw[ht] at h
   have h2:y.Key=x.Key:=zD h
   have hlt:j<t.length:=(zB.1 ht).1
   rw[if_pos rfl,if_pos (by simpa using hlt),xE]
   show some (ByteArray.mk x.Key.toArray)=some (ByteArray.mk y.Key.toArray)
   rw[h2]
 ·rw[if_neg hij]
theorem Awz {W:World} {S:Bz} {a b:List UInt8} {va vb:Value} (h1:Rep W S (.sl a.length (a.flatMap eU8)) va) (h2:Rep W S (.sl b.length (b.flatMap eU8)) vb):(callFunc 259 #[va,vb]).run Tryz.prog W=.ok (.value (.int .i64 (Dp a b))) W:=by
 rw[<- Alb] at h1 h2
 obtain⟨fn,q1,q2,q3,q4,q5⟩:=Au4.h
 have hrun:(Extern.BytealgCompare.compare #[va,vb]).run Tryz.prog W=.ok (.int .i64 (Dp a b)) W:=by
  change Sem.run Tryz.prog (do
   let p <- Extern.Bytes.bytesOf va
   let q <- Extern.Bytes.bytesOf vb
   pure (goInt (Extern.BytealgCompare.cmp p q))) W=_
  simp only[Sem.run_bind,Tc h1,Tc h2,Result.andThen_ok,Ar3,Sem.run_pure]
  rfl
 have hcall:=run_callFunc_extern (P:=Tryz.prog) q1 q2 q3 q4 q5 #[va,vb] W
 rw[hrun] at hcall
 simpa using hcall
theorem Atr {W:World} {S:Bz} {a b:List UInt8} {va vb:Value} (h1:Rep W S (.sl a.length (a.flatMap eU8)) va) (h2:Rep W S (.sl b.length (b.flatMap eU8)) vb):Calls Tryz.prog 219 #[va,vb] W λe w'=>e=.returned (.int .i64 (Dp a b))/\w'=W:=by
 have hx:=Awz h1 h2
 generalize Dp a b=r at hx ⊢
 clear h1 h2
 go_enter Tryz.func219,Tryz.ntmps219
 go_wp2
 go_ret
 exact⟨R,R⟩
theorem Aub {W:World} {S:Bz} {a b:List UInt8} {va vb:Value} (h1:Rep W S (.sl a.length (a.flatMap eU8)) va) (h2:Rep W S (.sl b.length (b.flatMap eU8)) vb):Calls Tryz.prog 150 #[va,vb] W λe w'=>e=.returned (.int .i64 (Dp a b))/\w'=W:=by
 have hcon:=Atr h1 h2
 generalize Dp a b=r at hcon ⊢
 clear h1 h2
 go_enter Tryz.func150,Tryz.ntmps150
 go_wp2_with (go_at_call 219;refine hcon.mono ?_;rintro e w' ⟨rfl,rfl⟩)
 go_ret
 exact⟨R,R⟩
set_option maxHeartbeats 1000000 in
theorem Au5 {W:World} {S:Bz} {a b:List UInt8} {va vb ua ub:Value} (hS:∀ b i,S b i->b<W.heap.size) (h1:Rep W S (.sl a.length (a.flatMap eU8)) va) (h2:Rep W S (.sl b.length (b.flatMap eU8)) vb) (oc:ua.oneCell'=true) (od:ub.oneCell'=true) :
  Calls Tryz.prog 123 #[.agg #[va,ua],.agg #[vb,ub]] W λe w'=>e=.returned (.int .i64 (Dp a b))/\∃ q os',w'=Go.Sort.grow (W.drewN q) os':=by
 have oa:=h1.oneCell
 have ob:=h2.oneCell
 have hcon:∀ o1 o2:Obj,Calls Tryz.prog 150 #[va,vb] ((W.alloc o1).alloc o2) λe w'=>e=.returned (.int .i64 (Dp a b))/\w'=(W.alloc o1).alloc o2:=λo1 o2=>by
  have k1:∀ b i,S b i->S b i/\((W.alloc o1).alloc o2).cell? ⟨b,i,none⟩=W.cell? ⟨b,i,none⟩:=λb i hs =>
   ⟨hs,World.cell?_of_block (w:=W) ((Below.heap_alloc _ o2 b (by have:=hS b i hs;simp;omega)).trans (Below.heap_alloc W o1 b (hS b i hs)))⟩
  exact Aub (h1.mono k1) (h2.mono k1)
 generalize Dp a b=r at hcon ⊢
 clear h1 h2
 go_enter Tryz.func123,Tryz.ntmps123
 go_wp2_with (go_at_call 150;refine(hcon _ _).mono ?_;rintro e w' ⟨rfl,rfl⟩)
 go_ret
 exact⟨rfl,0,_,by rw[Go.Sort.alloc_eq_grow,Go.Sort.alloc_eq_grow,Go.Sort.grow_grow];rfl⟩
def Abh:Go.Shelf.Ren:=⟨λ| 6=>122|15=>191|14=>190|28=>246|29=>247|20=>238|21=>239|22=>240|23=>241|24=>242|25=>243|26=>244|27=>245|46=>262|47=>263|48=>264|49=>265|50=>266|57=>277|n=>n,λ| 22=>61|24=>157|25=>235|3=>3|39=>307|0=>0|53=>365|55=>367|4=>4|46=>359|45=>358|50=>177|5=>5|9=>9|66=>389|70=>393|76=>404|77=>405|n=>n,λ| n=>n⟩
theorem Awg:Go.Proofs.SlLaysF0.n6 Qx0 Abh:={
 mixed:=by kernel_rfl,
 f6 :=⟨ "slices.SortFunc[[]godwit/api.KV,godwit/api.KV]", by decide, Tryz.func122.trans (congrArg some (by kernel_rfl))⟩,
 f14 :=⟨ "slices.pdqsortCmpFunc[godwit/api.KV]", by decide, Tryz.func190.trans (congrArg some (by kernel_rfl))⟩,
 f15:=Tryz.func191.trans (congrArg some (by kernel_rfl)),
 f20 :=⟨ "slices.insertionSortCmpFunc[godwit/api.KV]", by decide, Tryz.func238.trans (congrArg some (by kernel_rfl))⟩,
 f21 :=⟨ "slices.heapSortCmpFunc[godwit/api.KV]", by decide, Tryz.func239.trans (congrArg some (by kernel_rfl))⟩,
 f22 :=⟨ "slices.breakPatternsCmpFunc[godwit/api.KV]", by decide, Tryz.func240.trans (congrArg some (by kernel_rfl))⟩,
 f23 :=⟨ "slices.choosePivotCmpFunc[godwit/api.KV]", by decide, Tryz.func241.trans (congrArg some (by kernel_rfl))⟩,
 f24 :=⟨ "slices.reverseRangeCmpFunc[godwit/api.KV]", by decide, Tryz.func242.trans (congrArg some (by kernel_rfl))⟩,
 f25 :=⟨ "slices.partialInsertionSortCmpFunc[godwit/api.KV]", by decide, Tryz.func243.trans (congrArg some (by kernel_rfl))⟩,
 f26 :=⟨ "slices.partitionEqualCmpFunc[godwit/api.KV]", by decide, Tryz.func244.trans (congrArg some (by kernel_rfl))⟩,
 f27 :=⟨ "slices.partitionCmpFunc[godwit/api.KV]", by decide, Tryz.func245.trans (congrArg some (by kernel_rfl))⟩,
 f28:=Tryz.func246.trans (congrArg some (by kernel_rfl)),
 f29:=Tryz.func247.trans (congrArg some (by kernel_rfl)),
 f46 :=⟨ "slices.siftDownCmpFunc[godwit/api.KV]", by decide, Tryz.func262.trans (congrArg some (by kernel_rfl))⟩,
 f47:=Tryz.func263.trans (congrArg some (by kernel_rfl)),
 f48:=Tryz.func264.trans (congrArg some (by kernel_rfl)),
 f49 :=⟨ "slices.medianAdjacentCmpFunc[godwit/api.KV]", by decide, Tryz.func265.trans (congrArg some (by kernel_rfl))⟩,
 f50 :=⟨ "slices.medianCmpFunc[godwit/api.KV]", by decide, Tryz.func266.trans (congrArg some (by kernel_rfl))⟩,
 f57 :=⟨ "slices.order2CmpFunc[godwit/api.KV]", by decide, Tryz.func277.trans (congrArg some (by kernel_rfl))⟩,
 t0:=Tryz.underlying0,
 a0:=Tryz.isAgg0,
 z0:=Tryz.sizeOf0,
 v0:=Tryz.zeroValue0,
 t3:=Tryz.underlying3,
 a3:=Tryz.isAgg3,
 z3:=Tryz.sizeOf3,
 v3:=Tryz.zeroValue3,
 t4:=Tryz.underlying4,
 a4:=Tryz.isAgg4,
 z4:=Tryz.sizeOf4,
 v4:=Tryz.zeroValue4,
 t5:=Tryz.underlying5,
 a5:=Tryz.isAgg5,
 z5:=Tryz.sizeOf5,
 v5:=Tryz.zeroValue5,
 t9:=Tryz.underlying9,
 a9:=Tryz.isAgg9,
 z9:=Tryz.sizeOf9,
 v9:=Tryz.zeroValue9,
 t22:=Tryz.underlying61,
 a22:=Tryz.isAgg61,
 z22:=Tryz.sizeOf61,
 v22:=Tryz.zeroValue61,
 t25:=Tryz.underlying235,
 a25:=Tryz.isAgg235,
 z25:=Tryz.sizeOf235,
 v25:=Tryz.zeroValue235,
 t39:=Tryz.underlying307,
 a39:=Tryz.isAgg307,
 z39:=Tryz.sizeOf307,
 v39:=Tryz.zeroValue307,
 t45:=Tryz.underlying358,
 a45:=Tryz.isAgg358,
 z45:=Tryz.sizeOf358,
 v45:=Tryz.zeroValue358,
 t46:=Tryz.underlying359,
 a46:=Tryz.isAgg359,
 z46:=Tryz.sizeOf359,
 v46:=Tryz.zeroValue359,
 t50:=Tryz.underlying177,
 a50:=Tryz.isAgg177,
 z50:=Tryz.sizeOf177,
 v50:=Tryz.zeroValue177,
 t53:=Tryz.underlying365,
 a53:=Tryz.isAgg365,
 z53:=Tryz.sizeOf365,
 v53:=Tryz.zeroValue365,
 t55:=Tryz.underlying367,
 a55:=Tryz.isAgg367,
 z55:=Tryz.sizeOf367,
 v55:=Tryz.zeroValue367,
 t66:=Tryz.underlying389,
 a66:=Tryz.isAgg389,
 z66:=Tryz.sizeOf389,
 v66:=Tryz.zeroValue389,
 t70:=Tryz.underlying393,
 a70:=Tryz.isAgg393,
 z70:=Tryz.sizeOf393,
 v70:=Tryz.zeroValue393,
 t76:=Tryz.underlying404,
 a76:=Tryz.isAgg404,
 z76:=Tryz.sizeOf404,
 v76:=Tryz.zeroValue404,
 t77:=Tryz.underlying405,
 a77:=Tryz.isAgg405,
 z77:=Tryz.sizeOf405,
 v77:=Tryz.zeroValue405 }
theorem Am5 {xs:List A5} (hn:xs.length<=1000000000000000000) (hd:Hz kvk xs):Cv Qx0 122 [.arr 157 2 0 (xs.flatMap Bi)] [.one (.ls 0 xs.length),.one (.raw (.func (.func 123) #[] #[]))] (λy m'=>y=.tup []/\m'=[.arr 157 2 0 ((Acx kvk xs).flatMap Bi)]) :=
 Awq (ρ:=Abh) (f:=Bi) (g:=123) Awg (λa b=>Dp (kvk a) (kvk b)) (λ_=>rfl) (by decide) Tryz.isAgg157 Tryz.sizeOf157 A0h (enters_of Tryz.func123 (by kernel_rfl) rfl) (λW S x y vx vy hS hx hy=>by
  obtain⟨v0,u0,rfl⟩:∃ v0 u0,vx=[v0,u0]:=by
   match vx,hx.1 with
   | [a,b],_=>exact⟨a,b,rfl⟩
  obtain⟨v1,u1,rfl⟩:∃ v1 u1,vy=[v1,u1]:=by
   match vy,hy.1 with
   | [a,b],_=>exact⟨a,b,rfl⟩
  exact Au5 hS (hx.2 0 _ _ R R) (hy.2 0 _ _ R R) (hx.2 1 _ _ R R).oneCell (hy.2 1 _ _ R R).oneCell) hn (Ajj hd)
def Zw (a1:List A5) (a2:Ar) (s:Int×List A5):Option (LB (Int×List A5) (List A5)) :=
 if decide (s.1<(a1.length:Int)) then((idx a1 s.1).bind λu=>(Gw a2 u.Key).bind λv=>some (.cont (wI (s.1+1),if v then Sb kvk s.2 u else s.2))) else some (.brk s.2)
def Z0 (a0:Bf) (a2:Ar) (s:Int×List A5):Option (LB (Int×List A5) (List A5)) :=
 if decide (s.1<(a0.L.length:Int)) then((idx a0.L s.1).bind λu=>if u.Del then some (.cont (wI (s.1+1),Yw kvk s.2 u.Key)) else(Gw a2 u.Key).bind λv=>some (.cont (wI (s.1+1),if v then Sb kvk s.2 ⟨u.Key,u.Val⟩ else s.2))) else some (.brk s.2)
def Aig (a3:Int) (t:List A5):Option (List A5) :=
 if t.length*48<=140737488355328 then cut (Acx kvk t) 0 (if a3<((Acx kvk t).length:Int) then a3 else((Acx kvk t).length:Int)) else none
def Ah8 (a0:Bf) (a2:Ar) (a3:Int) (t:List A5):Option (List A5):=(B8 (Z0 a0 a2) fuel (0,t)).bind λt2=>Aig a3 t2
def Cc (a0:Bf) (a1:List A5) (a2:Ar) (a3:Int):Option (List A5) :=
 (E8 a0).bind λv1=>if !v1 then some [] else(Fx a1).bind λv2=>if !v2 then some [] else if decide (a3<1) then some [] else(B8 (Zw a1 a2) fuel (0,[])).bind λt1=>Ah8 a0 a2 a3 t1
theorem Kv {a0:Bf} {a1:List A5} {a2:Ar} {a3:Int} {r:List A5} (h:Cc a0 a1 a2 a3=some r) :
  A6 Qx0 52 [.agg [SL a0.L Am],.one (SL a1 Bi),.agg (EL.el a2),.one (Ii6 a3)] (·=L7 (SL r Bi)):=by
 refine An Tryz.func52 R (nt:=91) R (Nbl R) ?_
 intro w0 S0
 refine crs R (Bb (csr (rx 1 R ?_)))
 obtain⟨v1,hv1,h⟩:=Aa h
 refine scI R R (Nh hv1) (rx 2 R (Ama 20 R (λhc=>?_) (λhc=>?_)))
 ·replace h:=P8 hc h
  clear hc
  refine rsn R (B1 R (λhc=>?_) (λhc=>nomatch hc))
  refine crs R (crt ?_)
  cases SJ h
  exact dE R (F1 R) R
 replace h:=P3 hc h
 clear hc
 refine rm 1 R (son R R R ?_)
 obtain⟨v2,hv2,h⟩:=Aa h
 refine scI R R (Wl hv2) (rx 3 R (Ama 25 R (λhc=>?_) (λhc=>?_)))
 ·replace h:=P8 hc h
  clear hc
  refine rsn R (B1 R (λhc=>?_) (λhc=>nomatch hc))
  refine crs R (crt ?_)
  cases SJ h
  exact dE R (F1 R) R
 replace h:=P3 hc h
 clear hc
 refine rsn R (B1 R (λhc=>?_) (λhc=>?_))
 ·replace h:=P8 hc h
  refine crs R (crt ?_)
  cases SJ h
  exact dE R (F1 R) R
 replace h:=P3 hc h
 clear hc
 refine csn (csr (Apr Vm R (λg=>?_)))
 refine rsn R (Bb (crs R (cj (List A5×List A5) (λ_=>[(4,L7 (.lp 0 0)),(6,L7 (.lp 1 0)),(3,L7 (Ii6 a3)),(9,L7 (.raw (.map (some g))))]) (λb=>[.box [SL a0.L Am],BE a2,.obj g (J8 Vm ((b.2.map kB).map .string)) (b.2.map Bi)]) (λb=>b.2.Perm b.1/\Hz kvk b.2/\Ah8 a0 a2 a3 b.1=some r) fR (λb h=>?_) ?_)))
 ·obtain⟨t1,t1'⟩:=b
  obtain⟨hp1,hd1,h⟩:=h
  dsimp only at hp1 hd1 h
  unfold Ah8 at h
  refine Bb (crs R (cj (List A5×List A5) (λ_=>[(3,L7 (Ii6 a3)),(9,L7 (.raw (.map (some g))))]) (λb=>[.box [SL a0.L Am],BE a2,.obj g (J8 Vm ((b.2.map kB).map .string)) (b.2.map Bi)]) (λb=>b.2.Perm b.1/\Hz kvk b.2/\Aig a3 b.1=some r) fR (λb h=>?_) ?_))
  ·obtain⟨t2,t2'⟩:=b
   obtain⟨hp2,hd2,h⟩:=h
   dsimp only at hp2 hd2 h
   unfold Aig at h
   obtain⟨hb2,h⟩:=B5 h
   have hb2':t2'.length*48<=140737488355328:=by rw[hp2.length_eq];exact hb2
   refine crs R (Bb (csr (rm 1 R (Amd (p:=2) R Tryz.underlying233 R R (λes clock q hst hks hsz=>?_)))))
   refine Oy ?_
   refine Cq 157 2 14 (by decide) R ?_
   have hes:es.size=t2'.length:=by rw[hsz,zY]
   obtain⟨hs1,hs2,_⟩:=(Go.MapKept.stamped_iff es clock).1 hst
   refine cj (Array Nat×List A5) (λb=>[(3,L7 (Ii6 a3)),(14,L7 (.ls 4 b.2.length))]) (λb=>[.box [SL a0.L Am],BE a2,.obj g (Adw Vm es clock) (t2'.map Bi),.obj q (Aka g clock b.1 clock) [],.arr 157 2 0 (b.2.flatMap Bi)]) (λb=>b.2.Perm t2') fR (λb hpo=>?_) ?_
   ·obtain⟨seen,out⟩:=b
    dsimp only at hpo
    have hol:out.length=t2'.length:=hpo.length_eq
    have hdo:Hz kvk out:=(Hz.perm hpo).2 hd2
    have he:Acx kvk out=Acx kvk t2:=Ai6 (hpo.trans hp2) hdo
    have hlen:(Acx kvk out).length=out.length:=(J6 out).length_eq
    have hlen2:out.length*2=((Acx kvk out).flatMap Bi).length:=by rw[<- hlen];exact(Aq (f:=Bi) (λ_=>rfl) _).symm
    rw[<- he,hlen] at h
    refine csr (rx 1 R ?_)
    refine Gi (x':=.tup []) (M':=[.box [SL a0.L Am],BE a2,.obj g (Adw Vm es clock) (t2'.map Bi),.obj q (Aka g clock seen clock) [],.arr 157 2 0 ((Acx kvk out).flatMap Bi)]) [4] R (fk R) (.func _) (Af R (Af R A2)) (Am5 (xs:=out) (by omega) hdo) R R (by decide) R R R ?_
    refine Oy (csr (rm 2 R (sv R (Fw Alu R R hlen2) (rm 1 R (sv R (Afz R R) (Ahd 85 R (Xk.one _ _ _ _ (Oe.ls _ _ _ _ _ _ R hlen2)) (sv R (Uo (f:=Bi) (lo:=0) (hi:=(if a3<(out.length:Int) then a3 else(out.length:Int))) Alu fR R R hlen.symm R9 (Mq R (zAg (Ro h).1.1 (Ro h).1.2.1)) h) ?_)))))))
    refine rsn R (Bn (⟨Or.inr R,_,_,_,(Au (rt R) A4),(Bq R),?_⟩))
    rfl
   ·refine Bh ?_
    refine lpo (G:=Array Nat×List Nat) (λb=>[(3,L7 (Ii6 a3)),(14,L7 (.ls 4 (b.2.filterMap (t2'[·]?)).length)),(74,L7 (.raw (.pointer (some ⟨q,0,none⟩))))]) (λb=>[.box [SL a0.L Am],BE a2,.obj g (Adw Vm es clock) (t2'.map Bi),.obj q (Aka g clock b.1 clock) [],.arr 157 2 0 ((b.2.filterMap (t2'[·]?)).flatMap Bi)]) (λb=>b.2.Nodup/\(∀ j∈b.2,j<t2'.length)/\(∀ (j:Nat) e,es[j]? = some e->(b.1.contains e.born=true↔j∈b.2))/\b.2.length+(leftOf es b.1).size<=es.size) (λb=>(leftOf es b.1).size) (#[],[]) ⟨kJ,λj hj=>by simp at hj,λj e _=>⟨λh=>by simp at h,λh=>by simp at h⟩,by show 0+(leftOf es #[]).size<=es.size;rw[yK];exact Array.size_filter_le ..⟩ (ml R) [] R fR ?_
    rintro⟨seen,picks⟩ ⟨hnd,hlt,hsn,hmu⟩
    dsimp only at hnd hlt hsn hmu
    refine csr (Ao1 (p:=2) (pi:=3) (ss:=t2'.map kB) R R R R hs1 (zO _) hks (λh0=>?_) (λj e s cs hj he hs hcs=>?_))
    ·refine rsn R (Bb (B1 R (λhc=>nomatch hc) (λ_=>?_)))
     refine cx5 (⟨(seen,picks.filterMap (t2'[·]?)),_,?_,(ml R),R⟩)
     refine Aj3 hnd hlt λj hj=>?_
     have hj':j<es.size:=by rw[hes];exact hj
     exact(hsn j es[j] (zR hj')).1 (all_seen es seen h0 _ (by simp))
    ·obtain⟨x,hx,rfl⟩:∃ x,t2'[j]? = some x/\cs=Bi x:=by
      rw[zQ] at hcs
      cases hx:t2'[j]? with
      | none=>rw[hx] at hcs;cases hcs
      | some x=>rw[hx] at hcs;exact⟨x,rfl,(zD hcs).symm⟩
     have hns:=(mem_left he).2
     have hjn:j∉picks:=λh=>by rw[(hsn j e hj).2 h] at hns;cases hns
     have hsh:=left_shrinks es seen e he
     have hpl:(picks.filterMap (t2'[·]?)).length<=picks.length:=List.length_filterMap_le ..
     refine rsn R (Bb (B1 R (λ_=>?_) (λhc=>nomatch hc)))
     refine csn (Bh (Bb (Bg ?_)))
     refine Amr (p:=2) (pi:=3) (j:=j) rfl rfl rfl rfl hs2 hks hj hs (by rw[zQ,hx];rfl) ?_
     refine rsn R (Bg (rx 2 R ?_))
     refine Eg R Tryz.underlying61 Apc R R (zL.1 R) (by decide) ?_
     refine Pf [.box [SL a0.L Am],BE a2,.obj g (Adw Vm es clock) (t2'.map Bi),.obj q (Aka g clock (seen.push e.born) clock) [],.arr 157 2 0 ((picks.filterMap (t2'[·]?)).flatMap Bi),BE x,.arr 157 2 0 ([x].flatMap Bi)] R ?_
     refine Tp (f:=Bi) (xs:=picks.filterMap (t2'[·]?)) (us:=[x]) R Tryz.underlying61 Apc Azd fR R R (.one _ _ _ _ (.ls _ _ _ _ _ _ R (Aq (f:=Bi) fR [x]).symm)) R R R (.sl _ _ _ (Aq (f:=Bi) fR _)) R R (by rw[yD];omega) (by decide) ?_
     refine rm 1 R (Fi (A0 ?_))
     have hfm:(picks++[j]).filterMap (t2'[·]?)=picks.filterMap (t2'[·]?)++[x]:=by
      rw[List.filterMap_append]
      simp [hx]
     refine⟨(seen.push e.born,picks++[j]),_,⟨?_,?_,?_,?_⟩,⟨rfl,by show _=AV.s (.one (.ls 4 ((picks++[j]).filterMap (t2'[·]?)).length));rw[hfm];rfl,rfl,trivial⟩,by show _=[_,_,_,_,Blk.arr 157 2 0 (((picks++[j]).filterMap (t2'[·]?)).flatMap Bi)]++_;rw[hfm];rfl,hsh⟩
     ·rw[jR]
      exact⟨hnd,by simp,λa ha b hb=>by rw[zP.1 hb];exact λe=>hjn (e ▸ ha)⟩
     ·intro k hk
      rcases yC.1 hk with hk|hk
      ·exact hlt k hk
      ·rw[zP.1 hk];exact(zB.1 hx).1
     ·intro k e' hk
      rw[yC,zP,<- Aug hs2 hk hj,<- hsn k e' hk];simp [or_comm]
     ·rw[zH,yD]
      have:(leftOf es (seen.push e.born)).size+1<=(leftOf es seen).size:=hsh
      dsimp only
      omega
  ·refine Bh ?_
   obtain⟨x2,hx2,ho2⟩:=Aa h
   refine lpo (G:=Nat×(Int×List A5)×List A5) (λq=>[(6,L7 (.lp 1 0)),(3,L7 (Ii6 a3)),(9,L7 (.raw (.map (some g)))),(47,L7 (SL a0.L Am)),(48,L7 (Ii6 (a0.L.length:Int))),(49,L7 (Ii6 q.2.1.1))]) (λq=>[.box [SL a0.L Am],BE a2,.obj g (J8 Vm ((q.2.2.map kB).map .string)) (q.2.2.map Bi)]) (λq=>B8 (Z0 a0 a2) q.1 q.2.1=some x2/\q.2.2.Perm q.2.1.2/\Hz kvk q.2.2) (λq=>q.1) (fuel,(0,t1),t1') ⟨hx2,hp1,hd1⟩ (ml R) [] R fR ?_
   clear hx2 h hp1 hd1
   rintro⟨n,⟨i,t⟩,t'⟩ ⟨h,hp,hd⟩
   dsimp only at hp hd
   obtain⟨n,y,rfl,h,hk⟩:=Cb h
   unfold Z0 at h
   dsimp only at h
   refine crs R (Bb (ccI h R (λh=>?_) (λh=>?_)))
   ·refine csn (csb ?_)
    obtain⟨u,hu,h⟩:=Aa h
    refine sv R (Bl (f:=Am) Ag5 fR R R R R hu) ?_
    refine sv R (A8 (ys:=[SL u.Key eU8,SL u.Val eU8,.b u.Del]) Auj R (.cp _) R R) (rsn R (crs R (ccI h R (λh=>?_) (λh=>?_))))
    ·obtain rfl:=SJ h
     clear h
     refine Bg (rx 3 R (sv R (Mw (l:=u.Key) Tryz.underlying56 Tryz.underlying5 Tryz.underlying9 R R R) (Atu (ss:=t'.map kB) (css:=t'.map Bi) (s:=⟨u.Key.toArray⟩) (p:=2) Tryz.underlying233 Tryz.underlying9 R R R (λj hj=>?_) (λhn=>?_) R)))
     ·obtain⟨e1,e3⟩:=At7 hp hd (Ae8 hj)
      refine Pf [.box [SL a0.L Am],BE a2,.obj g (J8 Vm (((t'.eraseIdx j).map kB).map .string)) ((t'.eraseIdx j).map Bi),BE u] (by rw[<- Go.ChangeMaps.map_eraseIdx,<- Go.ChangeMaps.map_eraseIdx];rfl) ?_
      refine Fi (A0 (Ag (cgs R ?_)))
      exact⟨(n,(wI (i+1),Yw kvk t u.Key),t'.eraseIdx j),_,⟨hk,e1,e3⟩,(ml R),R,wM _⟩
     ·have e1:=Al1 (kf:=kvk) hp (Amt hn)
      refine Pf [.box [SL a0.L Am],BE a2,.obj g (J8 Vm ((t'.map kB).map .string)) (t'.map Bi),BE u] R (Fi (A0 (Ag (cgs R ?_))))
      exact⟨(n,(wI (i+1),Yw kvk t u.Key),t'),_,⟨hk,e1,hd⟩,(ml R),R,wM _⟩
    ·obtain⟨v,hv,h⟩:=Aa h
     cases SJ h
     clear h
     refine csr (rx 3 R (scI R R (Kh hv) (Oy (B1 R (λhc=>?_) (λhc=>?_)))))
     ·subst hc
      refine Bg (rx 3 R (sv R (Mw (l:=u.Key) Tryz.underlying56 Tryz.underlying5 Tryz.underlying9 R R R) (rx 5 R (Anv (ss:=t'.map kB) (css:=t'.map Bi) (s:=kB ⟨u.Key,u.Val⟩) (p:=2) Tryz.underlying233 Tryz.underlying9 R R R R R (λj hj=>?_) (λhn=>?_)))))
      ·obtain⟨e1,e2,e3⟩:=Acf hp hd (x:=⟨u.Key,u.Val⟩) (Ae8 hj)
       refine Pf [.box [SL a0.L Am],BE a2,.obj g (J8 Vm (((t'.set j ⟨u.Key,u.Val⟩).map kB).map .string)) ((t'.set j ⟨u.Key,u.Val⟩).map Bi),BE u] (by rw[Arj (Ae8 hj),kQ];rfl) ?_
       refine Fi (A0 (Ag (cgs R ?_)))
       exact⟨(n,(wI (i+1),Sb kvk t ⟨u.Key,u.Val⟩),t'.set j ⟨u.Key,u.Val⟩),_,⟨hk,e1,e3⟩,(ml R),R,wM _⟩
      ·obtain⟨e1,e3⟩:=Aif hp hd (x:=⟨u.Key,u.Val⟩) (Amt hn)
       refine Pf [.box [SL a0.L Am],BE a2,.obj g (J8 Vm (((t'++[(⟨u.Key,u.Val⟩:A5)]).map kB).map .string)) ((t'++[(⟨u.Key,u.Val⟩:A5)]).map Bi),BE u] (by simp only[xC];rfl) ?_
       refine Fi (A0 (Ag (cgs R ?_)))
       exact⟨(n,(wI (i+1),Sb kvk t ⟨u.Key,u.Val⟩),t'++[(⟨u.Key,u.Val⟩:A5)]),_,⟨hk,e1,e3⟩,(ml R),R,wM _⟩
     ·subst hc
      refine cbn (cgs R ?_)
      exact⟨(n,(wI (i+1),t),t'),_,⟨hk,hp,hd⟩,(ml R),R,wM _⟩
   ·refine cx5 ?_
    cases SJ h
    obtain rfl:_=x2:=hk
    exact⟨(t,t'),_,⟨hp,hd,ho2⟩,(ml R),R⟩
 ·refine Bh ?_
  obtain⟨x1,hx1,ho1⟩:=Aa h
  refine lpo (G:=Nat×(Int×List A5)×List A5) (λq=>[(4,L7 (.lp 0 0)),(6,L7 (.lp 1 0)),(3,L7 (Ii6 a3)),(9,L7 (.raw (.map (some g)))),(30,L7 (SL a1 Bi)),(31,L7 (Ii6 (a1.length:Int))),(32,L7 (Ii6 q.2.1.1))]) (λq=>[.box [SL a0.L Am],BE a2,.obj g (J8 Vm ((q.2.2.map kB).map .string)) (q.2.2.map Bi)]) (λq=>B8 (Zw a1 a2) q.1 q.2.1=some x1/\q.2.2.Perm q.2.1.2/\Hz kvk q.2.2) (λq=>q.1) (fuel,(0,[]),[]) ⟨hx1,List.Perm.refl _,List.Pairwise.nil⟩ (ml R) [] R fR ?_
  rintro⟨n,⟨i,t⟩,t'⟩ ⟨h,hp,hd⟩
  dsimp only at hp hd
  obtain⟨n,y,rfl,h,hk⟩:=Cb h
  unfold Zw at h
  dsimp only at h
  refine crs R (Bb (ccI h R (λh=>?_) (λh=>?_)))
  ·refine csn (csb ?_)
   obtain⟨u,hu,h⟩:=Aa h
   refine sv R (Bl (f:=Bi) Alu fR R R R R hu) ?_
   refine sv R (A8 (ys:=[SL u.Key eU8,SL u.Val eU8]) Avd R (.cp _) R R) (rsn R (csr (rx 3 R ?_)))
   obtain⟨v,hv,h⟩:=Aa h
   refine scI R R (Kh hv) (Oy ?_)
   cases SJ h
   clear h
   refine B1 R (λhc=>?_) (λhc=>?_)
   ·subst hc
    refine Bg (rx 3 R (sv R (Mw (l:=u.Key) Tryz.underlying56 Tryz.underlying5 Tryz.underlying9 R R R) (rx 1 R (Anv (ss:=t'.map kB) (css:=t'.map Bi) (s:=kB u) (p:=2) Tryz.underlying233 Tryz.underlying9 R R R R R (λj hj=>?_) (λhn=>?_)))))
    ·obtain⟨e1,e2,e3⟩:=Acf hp hd (x:=u) (Ae8 hj)
     refine Pf [.box [SL a0.L Am],BE a2,.obj g (J8 Vm (((t'.set j u).map kB).map .string)) ((t'.set j u).map Bi),BE u] (by rw[Arj (Ae8 hj),kQ];rfl) ?_
     refine Fi (A0 (Ag (cgs R ?_)))
     exact⟨(n,(wI (i+1),Sb kvk t u),t'.set j u),_,⟨hk,e1,e3⟩,(ml R),R,wM _⟩
    ·obtain⟨e1,e3⟩:=Aif hp hd (x:=u) (Amt hn)
     refine Pf [.box [SL a0.L Am],BE a2,.obj g (J8 Vm (((t'++[u]).map kB).map .string)) ((t'++[u]).map Bi),BE u] (by simp only[xC];rfl) ?_
     refine Fi (A0 (Ag (cgs R ?_)))
     exact⟨(n,(wI (i+1),Sb kvk t u),t'++[u]),_,⟨hk,e1,e3⟩,(ml R),R,wM _⟩
   ·subst hc
    refine cbn (cgs R ?_)
    exact⟨(n,(wI (i+1),t),t'),_,⟨hk,hp,hd⟩,(ml R),R,wM _⟩
  ·refine cx5 ?_
   cases SJ h
   obtain rfl:_=x1:=hk
   exact⟨(t,t'),_,⟨hp,hd,ho1⟩,(ml R),R⟩
section
open Go.Extern.Stop Go.Stop Go.Extern
theorem Anc (v:Value) (w:World):(Extern.ReflectliteType.typeOf #[.iface 62 v]).run Qx0 w=.ok (.iface 371 (.agg #[.pointer (some ⟨1,62,none⟩)])) w:=by kernel_rfl
theorem Ack (w : World) : ((Extern.ReflectliteType.method fun t => do Extern.Rtype.noPackHeld "Comparable" t; (fun a => Value.bool a.comparable) <$> typeInfo t) #[.agg #[.pointer (some ⟨1, 62, none⟩)]]).run Tryz.prog w = .ok (.bool true) w := by kernel_rfl
theorem Aks (v : Value) (w : World) : (Go.method 553 371 v "Comparable").run Tryz.prog w = .ok (317, v) w := by kernel_rfl
theorem Al9:(Tryz.prog.info? 62).map (·.comparable)=some true:=by kernel_rfl
theorem Auo (v:Value) (xT:TypeId) (w:World):(Instr.typeAssert (.iface 62 v) xT 373 true).run Qx0 w=.ok (.tuple #[.nilIface,.bool false]) w:=run_typeAssert_lacksB Tryz.underlying373 (by kernel_rfl) (by kernel_rfl) v xT w
theorem Afs (v:Value) (xT:TypeId) (w:World):(Instr.typeAssert (.iface 62 v) xT 376 true).run Qx0 w=.ok (.tuple #[.nilIface,.bool false]) w:=run_typeAssert_lacksB Tryz.underlying376 (by kernel_rfl) (by kernel_rfl) v xT w
theorem Aes (v:Value) (xT:TypeId) (w:World):(Instr.typeAssert (.iface 62 v) xT 378 true).run Qx0 w=.ok (.tuple #[.nilIface,.bool false]) w:=run_typeAssert_lacksB Tryz.underlying378 (by kernel_rfl) (by kernel_rfl) v xT w
set_option maxHeartbeats 2000000 in
theorem Aoc (a b:Int) (w:World):Calls Tryz.prog 138 #[.iface 62 (.int .i64 a),.iface 62 (.int .i64 b)] w λe w'=>e=.returned (.bool (a==b))/\w'=w:=by
 have h8:=@run_callFunc_extern Tryz.prog 207 _ Extern.ReflectliteType.typeOf Tryz.func207 (by kernel_rfl) (by kernel_rfl) (by kernel_rfl) (by kernel_rfl)
 have h32 := @run_callFunc_extern Tryz.prog 317 _ (Extern.ReflectliteType.method fun t => do Extern.Rtype.noPackHeld "Comparable" t; pure (.bool (← typeInfo t).comparable)) Tryz.func317 (by kernel_rfl) (by kernel_rfl) (by kernel_rfl) (by kernel_rfl)
 have tT:=Anc
 have cT:=Ack
 have mR:=Aks
 have nE:=Auo
 have uE:=Afs
 have vE:=Aes
 have hn1:=λv:Value=>run_eql_iface_nil_left (P:=Tryz.prog) w 62 v Tryz.underlying252
 have hnr:=λv:Value=>run_eql_iface_nil (P:=Tryz.prog) (w:=w) 252 (by kernel_rfl) 62 v
 cases hab:(a==b) with
 | true =>
  have heq:=Go.Lib.run_eql_iface_int (P:=Tryz.prog) w (k:=.i64) a b Tryz.underlying252 Al9 Tryz.underlying62
  rw[hab] at heq
  go_enter Tryz.func138,Tryz.ntmps138
  go_wp2
  refine wp_loop_rounds 1 ?_
  rw[rounds_succ]
  go_wp2
  go_ret
  exact⟨R,R⟩
 | false =>
  have heq:=Go.Lib.run_eql_iface_int (P:=Tryz.prog) w (k:=.i64) a b Tryz.underlying252 Al9 Tryz.underlying62
  rw[hab] at heq
  go_enter Tryz.func138,Tryz.ntmps138
  go_wp2
  refine wp_loop_rounds 1 ?_
  rw[rounds_succ]
  go_wp2
  go_ret
  exact⟨R,R⟩
def Ol (a b:Int):Option Bool:=some (a==b)
theorem Y3 {a b:Int} {r:Bool} (h:Ol a b=some r):A6 Qx0 138 [.one (.raw (.iface 62 (.int .i64 a))),.one (.raw (.iface 62 (.int .i64 b)))] (·=L7 (.b r)):=by
 cases SJ h
 exact Ag0 (λ_ _=>.b _) (λw=>Aoc a b w)
end
def I6 (a0:List (List UInt8)) (b1:Unit):Option Bool :=
 (B6 a0).bind λv2=>some v2
def Ea (a0:List (List UInt8)) (s3:Int):Option (LR (Int) (Unit) (Bool)) :=
 if (decide (s3<(a0.length:Int))) then((idx a0 s3).bind λu4=>(Dr u4).bind λv5=>if (!v5) then(some (.ret false)) else(some (.cont (wI (s3+1))))) else(some (.brk ()))
def El (a0:List (List UInt8)):Option Bool :=
 (Gj (Ea a0) fuel 0).bind λx=>match x with | .inl r=>some r | .inr e6=>I6 a0 e6
theorem Ou {a0:List (List UInt8)} {r:Bool} (h:El a0=some r):A6 Qx0 107 [.one (SL a0 (eL eU8))] (·=L7 (.b r)):=by
 refine An Tryz.func107 R (nt:=17) R (Nbl R) ?_
 intro w0 S0
 refine crs R (Bb (crs R (cj (Unit) (λb1=>[(0,L7 (SL a0 (eL eU8)))]) (λb1=>[]) (λb1=>I6 a0 b1=some r) fR (λb1 h=>?_) ?_)))
 ·refine csr (rx 1 R ?_)
  obtain⟨v2,hv2,h⟩:=Aa h
  refine scI R R (Jn hv2) (rsn R (Bn ?_))
  cases SJ h
  exact dnT R R R R
 ·refine Bh ?_
  obtain⟨x3,hx3,ho3⟩:=Aa h
  refine lpn (α:=Int) (λg=>[(0,L7 (SL a0 (eL eU8))),(5,L7 (SL a0 (eL eU8))),(6,L7 (Ii6 (a0.length:Int))),(7,L7 (Ii6 g.2))]) (λg=>[]) (λg=>Gj (Ea a0) g.1 g.2=some x3) (fuel,0) hx3 R R fR ?_
  rintro⟨n3,s3⟩ h
  obtain⟨n3,y3,rfl,h,hk3⟩:=Ct h
  refine crs R (Bb (ccI h R (λh=>?_) (λh=>?_)))
  ·refine csn (csb ?_)
   obtain⟨u4,hu4,h⟩:=Aa h
   refine sv R (Bl (f:=(eL eU8)) Ab4 fR R R R R hu4) ?_
   refine rsn R (csr (rx 1 R ?_))
   obtain⟨v5,hv5,h⟩:=Aa h
   refine scI R R (Ns hv5) (rsn R (ccI h R (λh=>?_) (λh=>?_)))
   ·refine crs R (Bn (br5 ?_))
    cases SJ h
    obtain rfl:Sum.inl _=x3:=hk3
    obtain rfl:=zD ho3
    exact dnT R R R R
   ·refine cbn (cgs R ?_)
    cases SJ h
    exact lx (n3,(wI (s3+1))) hk3 R R
  ·refine cx5 ?_
   cases SJ h
   obtain rfl:_=x3:=hk3
   exact⟨(),_,ho3,(ml R),R⟩
theorem Jz {a0:Ac}:A6 Qx0 182 [.agg [SL a0.L Av]] (·=L7 (.fn 235 [] [.cp [SL a0.L Av]])):=by
 refine An Tryz.func182 R (nt:=4) R (Nbl R) ?_
 intro w0 S0
 refine csr (Akf R R R (rsn R (csr (sv R (Ua Qc (Vw R R Qc)) (rsn R (Bn (⟨Or.inr R,_,_,_,(Au (rt R) A4),(Bq R),?_⟩)))))))
 rfl
def Qf (l:List Ak):Nat->List (Int×Ak)
 | 0=>[]
 | n+1=>match l[n]? with
  | some v=>((n:Int),v)::Qf l n
  | none=>[]
def Ai4 (c:Ac):Option (List (Int×Ak)) :=
 if c.L.length<=1000000000000000000 then some (Qf c.L c.L.length) else none
theorem Qz {l:List Ak} {n:Nat} (h:n<l.length):Qf l (n+1)=((n:Int),l[n])::Qf l n:=by
 simp [Qf,zC h]
theorem W5 {l:List Ak}:∀ n,n<=l.length->(Qf l n).length=n
 | 0,_=>rfl
 | n+1,h=>by
  rw[Qz (by omega),xD,W5 n (by omega)]
theorem Agq {c:Ac} {L:List (Int×Ak)} (h:Ai4 c=some L):Apn Qx0 235 [.cp [SL c.L Av]] (L.map λx=>(.one (Ii6 x.1),.agg (EL.el x.2))):=by
 unfold Ai4 at h
 obtain⟨hlen,h⟩:=B5 h
 cases SJ h
 refine Aog Tryz.func235 R R (nt:=21) R (Nbl R) ?_
 intro l J Jx hJ hJx hs
 refine Aw5 ?_
 refine Alk (hJ 0) (by rfl) (λw0 S0=>?_)
 refine sv R (A9 Af2 R) (rx 4 R (Fi ⟨R,R,Ae5 (Af1 ?_)⟩))
 refine Arm ?_
 have hw0:wI ((c.L.length:Int)-1)=(c.L.length:Int)-1:=by
  show IntKind.i64.wrap _=_
  exact wrap_i64 (by omega) (by omega)
 refine Axx (G:=Nat×Int) (λg=>[(0,L7 (.raw (.func (.yield l) #[] #[]))),(1,L7 (.cp [SL c.L Av])),(3,L7 (Ii6 g.2))])
  (λg=>J g.1) (λg=>g.1<=c.L.length/\g.2=((c.L.length-g.1:Nat):Int)-1/\(Qf c.L c.L.length).drop g.1=Qf c.L (c.L.length-g.1))
  (λg=>c.L.length-g.1) (0,wI ((c.L.length:Int)-1)) ⟨zZ _,by simp only[Nat.sub_zero];exact hw0,rfl⟩ ⟨rfl,rfl,rfl,trivial⟩ rfl (λ_ _=>T9 rfl) ?_
 rintro⟨k,i⟩ ⟨g1,g2,g3⟩
 simp only at g1 g2 g3
 refine Aw5 (Aw5 ?_)
 refine Alk (hJ k) (by rfl) (λw0 S0=>?_)
 refine rx 2 R (Fi ⟨R,R,Ae5 (Af1 ?_)⟩)
 refine Atj R (λhc=>?_) (λhc=>?_)
 rotate_left
 ·have hc':¬ 0<=i:=by simpa using hc
  refine Ayd (And.intro (Or.inl R) (Or.inl ?_))
  show J k=J _
  rw[zY,W5 _ (zO _)]
  congr 1
  omega
 have hge:0<=i:=by simpa using hc
 refine Aw7 (Af1 ?_)
 obtain⟨n,hn⟩:∃ n,c.L.length-k=n+1:=⟨c.L.length-k-1,by omega⟩
 have hi:i=(n:Int):=by omega
 subst hi
 have hnl:n<c.L.length:=by omega
 rw[hn,Qz hnl] at g3
 have hget:(Qf c.L c.L.length)[k]? = some ((n:Int),c.L[n]):=by
  have:=congrArg (λl=>l[0]?) g3
  simpa using this
 have hdrop:(Qf c.L c.L.length).drop (k+1)=Qf c.L n:=by
  have:=congrArg (λl=>l.drop 1) g3
  simpa [j3] using this
 have hu:idx c.L (n:Int)=some c.L[n]:=by
  unfold idx
  rw[if_pos (xV n),zT,zC hnl]
 generalize c.L[n]=v at hget hu
 refine Aw5 (Arm (Aw5 (Ams ?_)))
 refine Ao5 (l1:=[_,_,_,_,_,_,_]) (hJ k) (by rfl) (λw0 S0=>?_)
 refine rm 2 R (sv R (A9 Af2 R) (rx 2 R (sv R (Bl (f:=Av) Zn fR R R R R hu) ?_)))
 refine sv R (A8 (ys:=[Ii6 v.Ts,SL v.Val eU8,.b v.Del]) Avl R (.cp _) R R) (Fi ⟨R,R,?_⟩)
 refine Ap1 rfl rfl (λ_ _ _ _ _=>rfl) hs rfl rfl rfl rfl (x:=.one (Ii6 (n:Int))) (y:=.agg (EL.el v)) (by rw[zQ,hget];rfl) ?_ ?_
 rotate_left
 ·
  refine Ao5 (l1:=[_]) (l2:=[]) hJx (by rfl) (λw0 S0=>?_)
  refine rx 1 R (Fi ⟨R,R,Ae5 (Af1 ?_)⟩)
  refine Atj R (λ_=>?_) (λhx=>Bool.noConfusion hx)
  exact A0r (And.intro (Or.inr R) (Or.inr R))
 refine Ao5 (l1:=[_]) (l2:=[]) (hJ (k+1)) (by rfl) (λw0 S0=>?_)
 refine rx 1 R (Fi ⟨R,R,Ae5 (Af1 ?_)⟩)
 refine Atj R (λhx=>Bool.noConfusion hx) (λ_=>?_)
 refine Aw7 (Azp (Af1 ?_))
 refine Alk (hJ (k+1)) (by rfl) (λw0 S0=>?_)
 refine rx 3 R (Fi ⟨R,R,Ae5 (Af1 ?_)⟩)
 have hw:wI ((n:Int)-1)=(n:Int)-1:=by
  show IntKind.i64.wrap _=_
  exact wrap_i64 (by omega) (by omega)
 refine⟨(k+1,wI ((n:Int)-1)),⟨?_,?_,?_⟩,(ml R),R,?_⟩
 ·show k+1<=c.L.length
  omega
 ·show wI ((n:Int)-1)=((c.L.length-(k+1):Nat):Int)-1
  rw[hw];omega
 ·show List.drop (k+1) _=Qf c.L (c.L.length-(k+1))
  rw[hdrop]
  congr 1
  omega
 ·show c.L.length-(k+1)<c.L.length-k
  omega
def Gq (a0:Ak):Option Bool :=
 if (decide (1<=a0.Ts)) then(if (decide (a0.Ts<=1099511627776)) then(if (decide ((a0.Val.length:Int)<=32)) then(if a0.Del then(some (!(decide (0<(a0.Val.length:Int))))) else(some true)) else(some false)) else(some false)) else(some false)
theorem Pp {a0:Ak} {r:Bool} (h:Gq a0=some r):A6 Qx0 183 [.agg (EL.el a0)] (·=L7 (.b r)):=by
 refine An Tryz.func183 R (nt:=28) R (Nbl R) ?_
 intro w0 S0
 refine crs R (csr (rx 4 R (ssI 6 h R (λh=>?_) (λh=>?_))))
 ·refine rx 5 R (ssI 11 h R (λh=>?_) (λh=>?_))
  ·refine rx 6 R (ssI 17 h R (λh=>?_) (λh=>?_))
   ·refine rx 3 R (ssI 20 h R (λh=>?_) (λh=>?_))
    ·refine rsn R (Bn ?_)
     cases SJ h
     exact dnT R R R R
    ·refine rsn R (Bn ?_)
     cases SJ h
     exact dnT R R R R
   ·refine rsn R (Bn ?_)
    cases SJ h
    exact dnT R R R R
  ·refine rsn R (Bn ?_)
   cases SJ h
   exact dnT R R R R
 ·refine rsn R (Bn ?_)
  cases SJ h
  exact dnT R R R R
def Jg (s1:Int) (x1:Int×Ak):Option ((Int) ⊕ (Nat×(Int))) :=
 (Gq x1.2).bind λv2=>if (!v2) then(some (.inr (0,s1))) else(if (decide (s1<=x1.2.Ts)) then(some (.inr (0,s1))) else(some (.inl x1.2.Ts)))
def M8 (s3:Int):Option Bool :=
 some true
def Nn (s4:Int):Option Bool :=
 some false
def Ev (a0:Ac):Option Bool :=
 (Ai4 a0).bind λL1=>(Rm Jg L1 1099511627777).bind λe=>Ad5 M8 Nn (λ_ _=>none) e
theorem Ny {a0:Ac} {r:Bool} (h:Ev a0=some r):A6 Qx0 108 [.agg [SL a0.L Av]] (·=L7 (.b r)):=by
 refine Xl Tryz.func108 R (nt:=21) R (Nbl R) ?_
 intro w0 S0
 refine Aa7 (Hd R (λw0 S0 X0 m0 H0=>?_))
 refine Akf R R R (rsn R (Aa7 (Hd R (λw0 S0 X0 m0 H0=>?_))))
 refine rsn R (Aa7 (Aa7 (Hd R (λw0 S0 X0 m0 H0=>?_))))
 refine sv R (A8 (ys:=[SL a0.L Av]) V3 R (.cp _) R R) (scI R R Jz (Oy (Abg ?_)))
 obtain⟨L1,hL1,h⟩:=Aa h
 obtain⟨e1,he1,h⟩:=Aa h
 refine Agu Jg L1 (λx1=>.one (Ii6 x1.1)) (λx1=>.agg (EL.el x1.2)) (λs1=>[.box [.b false],.box [Ii6 s1]]) 1099511627777 he1 R (fk R) R (Agq hL1) R R R fR (λ_=>M1 R) ?_ ?_ ?_ ?_
 ·clear h
  intro x1 s1 y1 l h w0 S0 X0 H0
  refine Hd R (λw0 S0 X0 m0 H0=>?_)
  refine rsn R (λw0 S0 X0 H0=>?_)
  refine Abg (Aa7 (Aa7 (Hd R (λw0 S0 X0 m0 H0=>?_))))
  refine rx 1 R ?_
  obtain⟨v2,hv2,h⟩:=Aa h
  refine scI R R (Pp hv2) (rx 2 R (ssI 13 h R (λh=>?_) (λh=>?_)))
  ·refine rsn R (Ar5 R (λ_=>?_) (λhx=>Bool.noConfusion hx))
   refine Aa7 (Hd R (λw0 S0 X0 m0 H0=>?_))
   refine rsn R (Ar6 (Oi (D5 ?_)))
   cases SJ h
   exact⟨s1,_,R,R⟩
  ·refine rsn R (Ar5 R (λhc=>?_) (λhc=>?_))
   ·replace h:=P8 hc h
    clear hc
    refine Aa7 (Hd R (λw0 S0 X0 m0 H0=>?_))
    refine rsn R (Ar6 (Oi (D5 ?_)))
    cases SJ h
    exact⟨s1,_,R,R⟩
   ·replace h:=P3 hc h
    clear hc
    refine Aw6 (Ag (Hd R (λw0 S0 X0 m0 H0=>?_)))
    refine rx 3 R (Fi (A0 ?_))
    cases SJ h
    exact⟨x1.2.Ts,_,R,R⟩
 ·intro s3 hs
  obtain rfl:=hs
  replace h:M8 s3=some r:=h
  refine A0 (Ag (Aa7 (Hd R (λw0 S0 X0 m0 H0=>?_))))
  refine rsn R (Ar6 ?_)
  cases SJ h
  exact dE R (Bq R) R
 ·intro s4 hs
  obtain rfl:=hs
  replace h:Nn s4=some r:=h
  refine br2 ?_
  cases SJ h
  exact dE R (Bq R) R
 ·intro id s hs
  obtain rfl:=hs
  replace h:none=some r:=h
  cases h
def Rb (s1:Int) (x1:Int×Ak):Option ((Int) ⊕ (Nat×(Int))) :=
 some (.inr (0,x1.2.Ts))
def Rq (s2:Int):Option Int :=
 some 0
def Rj (s3:Int):Option Int :=
 some s3
def J0 (a0:Ac):Option Int :=
 (Ai4 a0).bind λL1=>(Rm Rb L1 0).bind λe=>Ad5 Rq Rj (λ_ _=>none) e
theorem Sp {a0:Ac} {r:Int} (h:J0 a0=some r):A6 Qx0 109 [.agg [SL a0.L Av]] (·=L7 (Ii6 r)):=by
 refine Xl Tryz.func109 R (nt:=11) R (Nbl R) ?_
 intro w0 S0
 refine Aa7 (Hd R (λw0 S0 X0 m0 H0=>?_))
 refine Akf R R R (rsn R (Aa7 (Aa7 (Hd R (λw0 S0 X0 m0 H0=>?_)))))
 refine sv R (A8 (ys:=[SL a0.L Av]) V3 R (.cp _) R R) (scI R R Jz (Oy (Abg ?_)))
 obtain⟨L1,hL1,h⟩:=Aa h
 obtain⟨e1,he1,h⟩:=Aa h
 refine Agu Rb L1 (λx1=>.one (Ii6 x1.1)) (λx1=>.agg (EL.el x1.2)) (λs1=>[.box [Ii6 s1]]) 0 he1 R (fk R) R (Agq hL1) R R R fR (λ_=>M1 R) ?_ ?_ ?_ ?_
 ·clear h
  intro x1 s1 y1 l h w0 S0 X0 H0
  refine Hd R (λw0 S0 X0 m0 H0=>?_)
  refine rsn R (λw0 S0 X0 H0=>?_)
  refine Abg (Aa7 (Hd R (λw0 S0 X0 m0 H0=>?_)))
  refine rsn R (Ar6 (D5 ?_))
  cases SJ h
  exact⟨x1.2.Ts,_,R,R⟩
 ·intro s2 hs
  obtain rfl:=hs
  replace h:Rq s2=some r:=h
  refine A0 (Ag (Aa7 (Hd R (λw0 S0 X0 m0 H0=>?_))))
  refine rsn R (Ar6 ?_)
  cases SJ h
  exact dE R (Bq R) R
 ·intro s3 hs
  obtain rfl:=hs
  replace h:Rj s3=some r:=h
  refine br2 ?_
  cases SJ h
  exact dE R (Bq R) R
 ·intro id s hs
  obtain rfl:=hs
  replace h:none=some r:=h
  cases h
def Sl (b2:Unit):Option Bool :=
 some true
def Hu (a0:Bc) (s3:Int):Option (LR (Int) (Unit) (Bool)) :=
 if (decide (s3<(a0.Chains.length:Int))) then((idx a0.Chains s3).bind λu4=>if (decide ((u4.L.length:Int)=0)) then(some (.ret false)) else((Ev u4).bind λv5=>if (!v5) then(some (.ret false)) else((J0 u4).bind λv6=>if (decide (a0.Ts<v6)) then(some (.ret false)) else(some (.cont (wI (s3+1))))))) else(some (.brk ()))
def Ob (a0:Bc) (b1:Unit):Option Bool :=
 (Gj (Hu a0) fuel 0).bind λx=>match x with | .inl r=>some r | .inr e7=>Sl e7
def Cy (a0:Bc):Option Bool :=
 if (decide (a0.Ts<0)) then(some false) else(if (decide (1099511627776<a0.Ts)) then(some false) else(if (decide (128<(a0.Keys.length:Int))) then(some false) else(if (!decide ((a0.Chains.length:Int)=(a0.Keys.length:Int))) then(some false) else((El a0.Keys).bind λv8=>if (!v8) then(some false) else(Ob a0 ())))))
theorem I0 {a0:Bc} {r:Bool} (h:Cy a0=some r):A6 Qx0 45 [.agg (EL.el a0)] (·=L7 (.b r)):=by
 refine An Tryz.func45 R (nt:=58) R (Nbl R) ?_
 intro w0 S0
 refine crs R (Bb (Bb (cj3 (Unit) (λb1=>[(1,L7 (.lp 0 0))]) (λb1=>[BE a0]) (λb1=>Ob a0 b1=some r) fR (λb1 h=>?_) ?_)))
 ·refine Bb (crs R (cj (Unit) (λb2=>[]) (λb2=>[BE a0]) (λb2=>Sl b2=some r) fR (λb2 h=>?_) ?_))
  ·refine crs R (Bn ?_)
   cases SJ h
   exact dnT R R R R
  ·refine Bh ?_
   obtain⟨x3,hx3,ho3⟩:=Aa h
   refine lpn (α:=Int) (λg=>[(1,L7 (.lp 0 0)),(35,L7 (SL a0.Chains Al)),(36,L7 (Ii6 (a0.Chains.length:Int))),(37,L7 (Ii6 g.2))]) (λg=>[BE a0]) (λg=>Gj (Hu a0) g.1 g.2=some x3) (fuel,0) hx3 R R fR ?_
   rintro⟨n3,s3⟩ h
   obtain⟨n3,y3,rfl,h,hk3⟩:=Ct h
   refine crs R (Bb (ccI h R (λh=>?_) (λh=>?_)))
   ·refine csn (csb ?_)
    obtain⟨u4,hu4,h⟩:=Aa h
    refine sv R (Bl (f:=Al) Au1 fR R R R R hu4) ?_
    refine sv R (A8 (ys:=[SL u4.L Av]) V3 R (.cp _) R R) (rsn R (Bb ?_))
    refine U4 mixed (by kernel_rfl) ?_
    refine dv R (Ah Af2 R) (dv R (l1 Aya R R R) (dv R (Mn Zn R) (dv R (Nb R R) (dv R (Bj R) (Qh 45 R (λhc=>?_) (λhc=>?_))))))
    ·replace h:=P8 hc h
     clear hc
     refine Dy R R R R (Dy R R R R (Dy R R R R (dv R (Cp R R) (dv R (Bj R) (Dy R R R R (Dy R R R R (Dy R R R R (Dy R R R R (Dy R R R R (dv R (Cp R R) (Vp (Ag (B1 R (λ_=>?_) (λhx=>Bool.noConfusion hx))))))))))))))
     refine crs R (Bn (br5 ?_))
     cases SJ h
     obtain rfl:Sum.inl _=x3:=hk3
     obtain rfl:=zD ho3
     exact dnT R R R R
    ·replace h:=P3 hc h
     clear hc
     refine dvg R R R (lo V3 R R R) ?_
     obtain⟨v5,hv5,h⟩:=Aa h
     refine ddg R R R (Cf (fk R) (Af R A2) R (Ny hv5)) (dvg R R R (S7 R) (dv R (Cn R R) (dv R (Bj R) (Qh 50 R (λhc=>?_) (λhc=>?_)))))
     ·replace h:=P8 hc h
      clear hc
      refine Dy R R R R (Dy R R R R (Dy R R R R (Dy R R R R (Dy R R R R (dv R (Cp R R) (Vp (Ag (B1 R (λ_=>?_) (λhx=>Bool.noConfusion hx)))))))))
      refine crs R (Bn (br5 ?_))
      cases SJ h
      obtain rfl:Sum.inl _=x3:=hk3
      obtain rfl:=zD ho3
      exact dnT R R R R
     ·replace h:=P3 hc h
      clear hc
      refine dvg R R R (lo V3 R R R) ?_
      obtain⟨v6,hv6,h⟩:=Aa h
      refine ddg R R R (Cf (fk R) (Af R A2) R (Sp hv6)) (dvg R R R (Ah Aq9 R) (dvg R R R (l1 ti3 R R R) (dvg R R R (Ago R R) (dv R (Cn R R) (Vp (Ag (ccI h R (λh=>?_) (λh=>?_))))))))
      ·refine crs R (Bn (br5 ?_))
       cases SJ h
       obtain rfl:Sum.inl _=x3:=hk3
       obtain rfl:=zD ho3
       exact dnT R R R R
      ·refine cbn (cgs R ?_)
       cases SJ h
       exact lx (n3,(wI (s3+1))) hk3 R R
   ·refine cx5 ?_
    cases SJ h
    obtain rfl:_=x3:=hk3
    exact⟨(),_,ho3,trivial,R⟩
 ·refine Bg (rx 4 R (ssI 8 h R (λh=>?_) (λh=>?_)))
  ·refine rsn R (B1 R (λ_=>?_) (λhx=>Bool.noConfusion hx))
   refine crs R (crt ?_)
   cases SJ h
   exact dnT R R R R
  ·refine rx 5 R (ssI 13 h R (λh=>?_) (λh=>?_))
   ·refine rsn R (B1 R (λ_=>?_) (λhx=>Bool.noConfusion hx))
    refine crs R (crt ?_)
    cases SJ h
    exact dnT R R R R
   ·refine rx 6 R (ssI 19 h R (λh=>?_) (λh=>?_))
    ·refine rsn R (B1 R (λ_=>?_) (λhx=>Bool.noConfusion hx))
     refine crs R (crt ?_)
     cases SJ h
     exact dnT R R R R
    ·refine rx 9 R (ssI 28 h R (λh=>?_) (λh=>?_))
     ·refine rsn R (B1 R (λ_=>?_) (λhx=>Bool.noConfusion hx))
      refine crs R (crt ?_)
      cases SJ h
      exact dnT R R R R
     ·refine rx 2 R (son R R R ?_)
      obtain⟨v8,hv8,h⟩:=Aa h
      refine scI R R (Ou hv8) (rsn R (ccI h R (λh=>?_) (λh=>?_)))
      ·refine crs R (crt ?_)
       cases SJ h
       exact dnT R R R R
      ·refine csn ?_
       exact⟨(),_,h,(ml R),R⟩
def E1 (a0:Ar):Option Bool :=
 if (decide ((a0.Lo.length:Int)<=17)) then(if (decide ((a0.Hi.length:Int)<=17)) then(if a0.Open then(some (!(decide (0<(a0.Hi.length:Int))))) else(some true)) else(some false)) else(some false)
theorem Pq {a0:Ar} {r:Bool} (h:E1 a0=some r):A6 Qx0 71 [.agg (EL.el a0)] (·=L7 (.b r)):=by
 refine An Tryz.func71 R (nt:=24) R (Nbl R) ?_
 intro w0 S0
 refine crs R (csr (rx 5 R (ssI 7 h R (λh=>?_) (λh=>?_))))
 ·refine rx 6 R (ssI 13 h R (λh=>?_) (λh=>?_))
  ·refine rx 3 R (ssI 16 h R (λh=>?_) (λh=>?_))
   ·refine rsn R (Bn ?_)
    cases SJ h
    exact dnT R R R R
   ·refine rsn R (Bn ?_)
    cases SJ h
    exact dnT R R R R
  ·refine rsn R (Bn ?_)
   cases SJ h
   exact dnT R R R R
 ·refine rsn R (Bn ?_)
  cases SJ h
  exact dnT R R R R
def Eh (a0:Ar) (b1:Bool):Option Bool :=
 if b1 then(some true) else((Ij a0.Hi a0.Lo).bind λv2=>some (decide (v2<=0)))
def Fs (a0:Ar):Option Bool :=
 if a0.Open then(some false) else(if (decide ((a0.Lo.length:Int)=0)) then(if (decide ((a0.Hi.length:Int)=1)) then((idx a0.Hi 0).bind λu3=>Eh a0 (decide ((u3.toBitVec.toNat:Int)=(0:Int)))) else(Eh a0 false)) else(Eh a0 false))
theorem Ti {a0:Ar} {r:Bool} (h:Fs a0=some r):A6 Qx0 72 [.agg (EL.el a0)] (·=L7 (.b r)):=by
 unfold Fs at h
 refine An Tryz.func72 R (nt:=32) R (Nbl R) ?_
 intro w0 S0
 refine csr (Azb R R (rm 1 R (Oy (Bb (csr (fl Avq ti4 R R R R R R (Oy (ccI h R (λh=>?_) (λh=>?_)))))))))
 ·refine csr (rm 1 R (Oy (Bn (Oi ?_))))
  obtain rfl:=SJ h
  exact dnT R R R R
 ·refine Vu (Ag (Bb (cj (Bool) (λb1=>[(1,L7 (.lp 0 0)),(3,L7 (.b b1))]) (λb1=>[.box (EL.el a0)]) (λb1=>Eh a0 b1=some r) (λ_=>R) (λb1 h=>?_) ?_)))
  ·unfold Eh at h
   refine csr (rm 2 R (ssI 24 h R (λh=>?_) (λh=>?_)))
   ·refine rm 8 R (Oy (Bn ?_))
    obtain rfl:=SJ h
    exact dnT R R R R
   ·refine son R R R (sv R (Ah Ami R) (son R R R (sv R (l1 Yz R R R) (son R R R (sv R (Ah Aqx R) (son R R R (sv R (l1 Yz R R R) (son R R R ?_))))))))
    obtain⟨v2,hv2,h⟩:=Aa h
    refine Amw R Ax0 (Af R (Af R A2)) (Bq R) (Kb hv2) (son R R R (sv R (Xr R R) (rm 2 R (Oy (Bn ?_)))))
    obtain rfl:=SJ h
    exact dnT R R R R
  ·skip
   refine Bg (fl Aqx Yz R R R R R R (sv R (Mn Ai5 R) (sv R (Nb R R) (rm 1 R (ssI 10 h R (λh=>?_) (λh=>?_))))))
   ·refine son R R R (sv R (Ah Ami R) (son R R R (sv R (l1 Yz R R R) (son R R R (sv R (Mn Ai5 R) (son R R R (sv R (Nb R R) (rm 2 R (ssI 16 h R (λh=>?_) (λh=>?_))))))))))
    ·refine son R R R (sv R (Ah Ami R) (son R R R (sv R (l1 Yz R R R) (son R R R ?_))))
     obtain⟨u3,hu3,h⟩:=Aa h
     refine sv R (Bl (f:=eU8) Ai5 (λ_=>R) R R R R hu3) ?_
     refine son R R R (sv R (C5 ti5 R (.cp _) R) (son R R R (sv R (Nb R R) (rm 2 R (Oy ?_)))))
     exact⟨(decide ((u3.toBitVec.toNat:Int)=(0:Int))),_,h,⟨R,R,trivial⟩,R⟩
    ·refine rm 7 R (Oy ?_)
     exact⟨false,_,h,⟨R,R,trivial⟩,R⟩
   ·refine rm 13 R (Oy ?_)
    exact⟨false,_,h,⟨R,R,trivial⟩,R⟩
def Dd (a0:Ap):Option Bool :=
 if (decide (0<=a0.Tx)) then((E1 a0.Rng).bind λv1=>if v1 then((Fs a0.Rng).bind λv2=>some (!v2)) else(some false)) else(some false)
theorem Oq {a0:Ap} {r:Bool} (h:Dd a0=some r):A6 Qx0 184 [.agg (EL.el a0)] (·=L7 (.b r)):=by
 refine An Tryz.func184 R (nt:=17) R (Nbl R) ?_
 intro w0 S0
 refine crs R (csr (rx 4 R (ssI 6 h R (λh=>?_) (λh=>?_))))
 ·refine rx 2 R (son R R R ?_)
  obtain⟨v1,hv1,h⟩:=Aa h
  refine scI R R (Pq hv1) (rm 2 R (ssI 11 h R (λh=>?_) (λh=>?_)))
  ·refine rx 2 R (son R R R ?_)
   obtain⟨v2,hv2,h⟩:=Aa h
   refine scI R R (Ti hv2) (rsn R (Bn ?_))
   cases SJ h
   exact dnT R R R R
  ·refine rsn R (Bn ?_)
   cases SJ h
   exact dnT R R R R
 ·refine rsn R (Bn ?_)
  cases SJ h
  exact dnT R R R R
def Jf (a0:Ap):Option B0 :=
 some (B0.mk a0.Tx a0.Rng.Lo a0.Rng.Hi a0.Rng.Open)
theorem Pl {a0:Ap} {r:B0} (h:Jf a0=some r):A6 Qx0 236 [.agg (EL.el a0)] (·=.s (.agg (EL.el r))):=by
 refine An Tryz.func236 R (nt:=17) R (Nbl R) ?_
 intro w0 S0
 refine crs R (csr (rx 5 R (sv R (Mw (l:=a0.Rng.Lo) Tryz.underlying56 Tryz.underlying5 Tryz.underlying9 R R R) (rx 3 R (sv R (Mw (l:=a0.Rng.Hi) Tryz.underlying56 Tryz.underlying5 Tryz.underlying9 R R R) (rsn R (Bn ?_)))))))
 cases SJ h
 exact dnA R Ays R (.lp _ _ _ R) (Nbl R) R R
def Pn (b1:(List (B0×Int))):Option (List (B0×Int)) :=
 some b1
def Fc (a0:List Ap) (s2:Int×(List (B0×Int))):Option (LB (Int×(List (B0×Int))) ((List (B0×Int)))) :=
 if (decide (s2.1<(a0.length:Int))) then((idx a0 s2.1).bind λu3=>(Jf u3).bind λv4=>some (.cont ((wI (s2.1+1)),(Wi s2.2 v4 s2.1)))) else(some (.brk s2.2))
def Ia (a0:List Ap):Option (List (B0×Int)) :=
 (B8 (Fc a0) fuel (0,([]:List (B0×Int)))).bind λe5=>Pn e5
theorem Qp {a0:List Ap} {r:(List (B0×Int))} (h:Ia a0=some r):Cv Qx0 185 [] [.one (SL a0 Aj)] (λy m'=>y=L7 (.mp 0 0)/\m'=[U3 C6 r]):=by
 refine Cs Tryz.func185 R (nt:=20) R (Nbl R) ?_
 intro w0 S0 X0 H0
 refine crs R (csr (Aom C6 R (rsn R (Bb (crs R (cj ((List (B0×Int))) (λb1=>[(3,L7 (.mp 0 0))]) (λb1=>[U3 C6 b1]) (λb1=>Pn b1=some r) fR (λb1 h=>?_) ?_))))))
 ·refine crs R (Bn ?_)
  obtain rfl:=SJ h
  exact⟨Or.inr R,_,[0],[.one (.mp 0 0)],[U3 C6 b1],(Au (rt R) A4),R,R,⟨by decide,R⟩,R,R,⟨R,R⟩⟩
 ·refine Bh ?_
  obtain⟨x2,hx2,ho2⟩:=Aa h
  refine lpn (α:=Int×(List (B0×Int))) (λg=>[(3,L7 (.mp 0 0)),(7,L7 (SL a0 Aj)),(8,L7 (Ii6 (a0.length:Int))),(9,L7 (Ii6 g.2.1))]) (λg=>[U3 C6 g.2.2]) (λg=>B8 (Fc a0) g.1 g.2=some x2) (fuel,(0,([]:List (B0×Int)))) hx2 R R fR ?_
  rintro⟨n2,s2⟩ h
  obtain⟨n2,y2,rfl,h,hk2⟩:=Cb h
  refine crs R (Bb (ccI h R (λh=>?_) (λh=>?_)))
  ·refine csn (Bb (Bh (csr (rx 1 R ?_))))
   obtain⟨u3,hu3,h⟩:=Aa h
   refine sv R (Bl (f:=Aj) Aie fR R R R R hu3) ?_
   refine sv R (A8 (ys:=[Ii6 u3.Tx,SL u3.Rng.Lo eU8,SL u3.Rng.Hi eU8,.b u3.Rng.Open]) Amz R (.cp _) R R) (rsn R (Bg (rx 2 R ?_)))
   obtain⟨v4,hv4,h⟩:=Aa h
   refine scI R R (Pl hv4) (rm 1 R (Atl (M:=s2.2) (k:=v4) (i:=s2.1) Awc Tryz.underlying299 R R R R (Pf [U3 C6 (Wi s2.2 v4 s2.1),BE u3] R (Fi (A0 (Ag (cgs R ?_)))))))
   cases SJ h
   exact lx (n2,((wI (s2.1+1)),(Wi s2.2 v4 s2.1))) hk2 R R
  ·refine cx5 ?_
   cases SJ h
   obtain rfl:_=x2:=hk2
   exact⟨s2.2,_,ho2,(ml R),R⟩
def Jk (a0:Be) (b1:Unit):Option Bool :=
 if (decide ((a0.L.length:Int)<=128)) then((Ia a0.L).bind λv3=>some (decide ((v3.length:Int)=(a0.L.length:Int)))) else(some false)
def Gu (a0:Be) (s4:Int):Option (LR (Int) (Unit) (Bool)) :=
 if (decide (s4<(a0.L.length:Int))) then((idx a0.L s4).bind λu5=>(Dd u5).bind λv6=>if (!v6) then(some (.ret false)) else(some (.cont (wI (s4+1))))) else(some (.brk ()))
def Gd (a0:Be):Option Bool :=
 (Gj (Gu a0) fuel 0).bind λx=>match x with | .inl r=>some r | .inr e7=>Jk a0 e7
theorem Se {a0:Be} {r:Bool} (h:Gd a0=some r):A6 Qx0 110 [.agg [SL a0.L Aj]] (·=L7 (.b r)):=by
 refine An Tryz.func110 R (nt:=30) R (Nbl R) ?_
 intro w0 S0
 refine crs R (Bb (crs R (cj (Unit) (λb1=>[(1,L7 (.lp 0 0))]) (λb1=>[.box [SL a0.L Aj]]) (λb1=>Jk a0 b1=some r) fR (λb1 h=>?_) ?_)))
 ·refine Bb (Aa2 ?_)
  rcases Bool.eq_false_or_eq_true (decide ((a0.L.length:Int)<=128)) with hg2|hg2
  ·replace h:=P8 hg2 h
   obtain⟨v3,hv3,h⟩:=Aa h
   refine Hs [7] [0,1,3,7,15,31,63,127,255,31,543,1567,4095,8191,16383] [[.box [SL a0.L Aj],.hole],[.box [SL a0.L Aj],U3 C6 v3]] (by kernel_rfl) mixed (by kernel_rfl) (by decide) R R R R ?_
   refine ev (Aw 0 R R) R R (Ah Ael R) (ev (Aw 0 R R) R R (l1 Au0 R R R) (ev (Aw 0 R R) R R (Mn Aie R) (ev (Aw 0 R R) R R (Xr R R) (ev (Aw 0 R R) R R (Bj R) (Aq7 20 R (λ_=>?_) (λhx=>Bool.noConfusion (hg2.symm.trans hx)))))))
   refine evg (Aw 0 R R) R R R R (Ah Ael R) (evg (Aw 0 R R) R R R R (l1 Au0 R R R) (eeg (x:=L7 (.mp 0 1)) 0 R R R R R R R (λζ=>?_) ?_))
   ·refine Aex 1 R (fk R) (.func _) (Af R A2) (Qp hv3) R R R ?_
    exact Tt
   refine evg (Aw 1 R R) R R R R (Ai0 (e:=C6) (M:=v3) Tryz.underlying299 R R) (evg (Bp (md:=[.box [SL a0.L Aj],.dead]) ⟨⟨R,⟨trivial,trivial⟩⟩,⟨⟨R,⟨trivial,trivial⟩⟩,trivial⟩⟩) R R R R (Ah Ael R) (evg (Bp (md:=[.box [SL a0.L Aj],.dead]) ⟨⟨R,⟨trivial,trivial⟩⟩,⟨⟨R,⟨trivial,trivial⟩⟩,trivial⟩⟩) R R R R (l1 Au0 R R R) (evg (Bp (md:=[.box [SL a0.L Aj],.dead]) ⟨⟨R,⟨trivial,trivial⟩⟩,⟨⟨R,⟨trivial,trivial⟩⟩,trivial⟩⟩) R R R R (Mn Aie R) (evg (Aw 1 R R) R R R R (Nb R R) (ev (Aw 1 R R) R R (Cp R R) (ev (Aw 1 R R) R R (Hh R) (Abz (Ag (Bn ?_)))))))))
   cases SJ h
   exact dnT R R R R
  ·replace h:=P3 hg2 h
   refine Hs [] [0,1,3,7,15,31,63,127,255,31,543,1567,4095,8191,16383] [[.box [SL a0.L Aj],.hole]] (by kernel_rfl) mixed (by kernel_rfl) (by decide) R R R R ?_
   refine ev (Aw 0 R R) R R (Ah Ael R) (ev (Aw 0 R R) R R (l1 Au0 R R R) (ev (Aw 0 R R) R R (Mn Aie R) (ev (Aw 0 R R) R R (Xr R R) (ev (Aw 0 R R) R R (Bj R) (Aq7 20 R (λhx=>Bool.noConfusion (hg2.symm.trans hx)) (λ_=>?_))))))
   refine Adb R R R R R (Adb R R R R R (Adb R R R R R (Adb R R R R R (Adb R R R R R (Adb R R R R R (Adb R R R R R (Adb R R R R R (ev (Aw 0 R R) R R (Cn R R) (ev (Aw 0 R R) R R (Hh R) (Abz (Ag (Bn ?_))))))))))))
   cases SJ h
   exact dnT R R R R
 ·refine Bh ?_
  obtain⟨x4,hx4,ho4⟩:=Aa h
  refine lpn (α:=Int) (λg=>[(1,L7 (.lp 0 0)),(6,L7 (SL a0.L Aj)),(7,L7 (Ii6 (a0.L.length:Int))),(8,L7 (Ii6 g.2))]) (λg=>[.box [SL a0.L Aj]]) (λg=>Gj (Gu a0) g.1 g.2=some x4) (fuel,0) hx4 R R fR ?_
  rintro⟨n4,s4⟩ h
  obtain⟨n4,y4,rfl,h,hk4⟩:=Ct h
  refine crs R (Bb (ccI h R (λh=>?_) (λh=>?_)))
  ·refine csn (csb ?_)
   obtain⟨u5,hu5,h⟩:=Aa h
   refine sv R (Bl (f:=Aj) Aie fR R R R R hu5) ?_
   refine sv R (A8 (ys:=[Ii6 u5.Tx,SL u5.Rng.Lo eU8,SL u5.Rng.Hi eU8,.b u5.Rng.Open]) Amz R (.cp _) R R) (rsn R (csr (rx 1 R ?_)))
   obtain⟨v6,hv6,h⟩:=Aa h
   refine scI R R (Oq hv6) (rsn R (ccI h R (λh=>?_) (λh=>?_)))
   ·refine crs R (Bn (br5 ?_))
    cases SJ h
    obtain rfl:Sum.inl _=x4:=hk4
    obtain rfl:=zD ho4
    exact dnT R R R R
   ·refine cbn (cgs R ?_)
    cases SJ h
    exact lx (n4,(wI (s4+1))) hk4 R R
  ·refine cx5 ?_
   cases SJ h
   obtain rfl:_=x4:=hk4
   exact⟨(),_,ho4,(ml R),R⟩
def Hk (a0:List (List UInt8)) (b1:Unit):Option Bool :=
 (B6 a0).bind λv2=>some v2
def Fa (a0:List (List UInt8)) (s3:Int):Option (LR (Int) (Unit) (Bool)) :=
 if (decide (s3<(a0.length:Int))) then((idx a0 s3).bind λu4=>(Dr u4).bind λv5=>if (!v5) then(some (.ret false)) else(some (.cont (wI (s3+1))))) else(some (.brk ()))
def Hv (a0:List (List UInt8)):Option Bool :=
 (Gj (Fa a0) fuel 0).bind λx=>match x with | .inl r=>some r | .inr e6=>Hk a0 e6
theorem Qo {a0:List (List UInt8)} {r:Bool} (h:Hv a0=some r):A6 Qx0 186 [.one (SL a0 (eL eU8))] (·=L7 (.b r)):=by
 refine An Tryz.func186 R (nt:=17) R (Nbl R) ?_
 intro w0 S0
 refine crs R (Bb (crs R (cj (Unit) (λb1=>[(0,L7 (SL a0 (eL eU8)))]) (λb1=>[]) (λb1=>Hk a0 b1=some r) fR (λb1 h=>?_) ?_)))
 ·refine csr (rx 1 R ?_)
  obtain⟨v2,hv2,h⟩:=Aa h
  refine scI R R (Jn hv2) (rsn R (Bn ?_))
  cases SJ h
  exact dnT R R R R
 ·refine Bh ?_
  obtain⟨x3,hx3,ho3⟩:=Aa h
  refine lpn (α:=Int) (λg=>[(0,L7 (SL a0 (eL eU8))),(5,L7 (SL a0 (eL eU8))),(6,L7 (Ii6 (a0.length:Int))),(7,L7 (Ii6 g.2))]) (λg=>[]) (λg=>Gj (Fa a0) g.1 g.2=some x3) (fuel,0) hx3 R R fR ?_
  rintro⟨n3,s3⟩ h
  obtain⟨n3,y3,rfl,h,hk3⟩:=Ct h
  refine crs R (Bb (ccI h R (λh=>?_) (λh=>?_)))
  ·refine csn (csb ?_)
   obtain⟨u4,hu4,h⟩:=Aa h
   refine sv R (Bl (f:=(eL eU8)) Ab4 fR R R R R hu4) ?_
   refine rsn R (csr (rx 1 R ?_))
   obtain⟨v5,hv5,h⟩:=Aa h
   refine scI R R (Ns hv5) (rsn R (ccI h R (λh=>?_) (λh=>?_)))
   ·refine crs R (Bn (br5 ?_))
    cases SJ h
    obtain rfl:Sum.inl _=x3:=hk3
    obtain rfl:=zD ho3
    exact dnT R R R R
   ·refine cbn (cgs R ?_)
    cases SJ h
    exact lx (n3,(wI (s3+1))) hk3 R R
  ·refine cx5 ?_
   cases SJ h
   obtain rfl:_=x3:=hk3
   exact⟨(),_,ho3,(ml R),R⟩
def M4 (a0:Ao) (b1:Unit):Option Bool :=
 if (decide (a0.State=1)) then(if (decide (a0.End=0)) then(some (decide ((a0.Keys.length:Int)=0))) else(some false)) else(if (decide (a0.State=2)) then(if (decide (a0.Begin<a0.End)) then(if (decide (a0.End<=1099511627776)) then((Hv a0.Keys).bind λv2=>if v2 then(if a0.RO then(some (!(decide (0<(a0.Keys.length:Int))))) else(some true)) else(some false)) else(some false)) else(some false)) else(some false))
def J3 (a0:Ao):Option Bool :=
 if (decide (a0.ID<0)) then(some false) else(if (decide (a0.Begin<0)) then(some false) else(if (decide (1099511627776<a0.Begin)) then(some false) else(M4 a0 ())))
theorem Si {a0:Ao} {r:Bool} (h:J3 a0=some r):A6 Qx0 111 [.agg (EL.el a0)] (·=L7 (.b r)):=by
 refine An Tryz.func111 R (nt:=57) R (Nbl R) ?_
 intro w0 S0
 refine crs R (Bb (Bb (cj3 (Unit) (λb1=>[(1,L7 (.lp 0 0))]) (λb1=>[BE a0]) (λb1=>M4 a0 b1=some r) fR (λb1 h=>?_) ?_)))
 ·refine Bb (crs R (Bh (crs R (ccI h R (λh=>?_) (λh=>?_)))))
  ·refine csr (rx 4 R (ssI 23 h R (λh=>?_) (λh=>?_)))
   ·refine rsn R (Bn (br2 ?_))
    cases SJ h
    exact dnT R R R R
   ·refine rsn R (Bn (br2 ?_))
    cases SJ h
    exact dnT R R R R
  ·refine crs R (ccI h R (λh=>?_) (λh=>?_))
   ·refine csr (rx 6 R (ssI 36 h R (λh=>?_) (λh=>?_)))
    ·refine rx 5 R (ssI 41 h R (λh=>?_) (λh=>?_))
     ·refine rx 2 R (son R R R ?_)
      obtain⟨v2,hv2,h⟩:=Aa h
      refine scI R R (Qo hv2) (rm 2 R (ssI 46 h R (λh=>?_) (λh=>?_)))
      ·refine rx 3 R (ssI 49 h R (λh=>?_) (λh=>?_))
       ·refine rsn R (Bn (br2 ?_))
        cases SJ h
        exact dnT R R R R
       ·refine rsn R (Bn (br2 ?_))
        cases SJ h
        exact dnT R R R R
      ·refine rsn R (Bn (br2 ?_))
       cases SJ h
       exact dnT R R R R
     ·refine rsn R (Bn (br2 ?_))
      cases SJ h
      exact dnT R R R R
    ·refine rsn R (Bn (br2 ?_))
     cases SJ h
     exact dnT R R R R
   ·refine cbn (crs R (Bn ?_))
    cases SJ h
    exact dnT R R R R
 ·refine Bg (rx 4 R (ssI 6 h R (λh=>?_) (λh=>?_)))
  ·refine rsn R (B1 R (λ_=>?_) (λhx=>Bool.noConfusion hx))
   refine crs R (crt ?_)
   cases SJ h
   exact dnT R R R R
  ·refine rx 5 R (ssI 11 h R (λh=>?_) (λh=>?_))
   ·refine rsn R (B1 R (λ_=>?_) (λhx=>Bool.noConfusion hx))
    refine crs R (crt ?_)
    cases SJ h
    exact dnT R R R R
   ·refine rsn R (ccI h R (λh=>?_) (λh=>?_))
    ·refine crs R (crt ?_)
     cases SJ h
     exact dnT R R R R
    ·refine csn ?_
     exact⟨(),_,h,(ml R),R⟩
def Ib (a0:Ao) (a1:Ao) (b1:Bool):Option Bool :=
 if (decide (a0.ID=a1.ID)) then(some true) else(if (decide (a0.State=2)) then(if (decide (a1.State=2)) then(if (decide (a0.End=a1.End)) then(some b1) else(some false)) else(some false)) else(some false))
def Oj (a0:Ao) (a1:Ao):Option Bool :=
 if (decide (0<(a0.Keys.length:Int))) then(Ib a0 a1 true) else(Ib a0 a1 (decide (0<(a1.Keys.length:Int))))
theorem Yq {a0:Ao} {a1:Ao} {r:Bool} (h:Oj a0 a1=some r):A6 Qx0 112 [.agg (EL.el a0),.agg (EL.el a1)] (·=L7 (.b r)):=by
 refine An Tryz.func112 R (nt:=41) R (Nbl R) ?_
 intro w0 S0
 refine crs R (Bb (cj (Bool) (λb1=>[(2,L7 (.lp 0 0)),(3,L7 (.lp 1 0)),(5,L7 (.b b1))]) (λb1=>[BE a0,BE a1]) (λb1=>Ib a0 a1 b1=some r) fR (λb1 h=>?_) ?_))
 ·refine csr (rx 6 R (ssI 21 h R (λh=>?_) (λh=>?_)))
  ·refine rsn R (Bn ?_)
   cases SJ h
   exact dnT R R R R
  ·refine rx 4 R (ssI 25 h R (λh=>?_) (λh=>?_))
   ·refine rx 5 R (ssI 30 h R (λh=>?_) (λh=>?_))
    ·refine rx 7 R (ssI 37 h R (λh=>?_) (λh=>?_))
     ·refine rsn R (Bn ?_)
      cases SJ h
      exact dnT R R R R
     ·refine rsn R (Bn ?_)
      cases SJ h
      exact dnT R R R R
    ·refine rsn R (Bn ?_)
     cases SJ h
     exact dnT R R R R
   ·refine rsn R (Bn ?_)
    cases SJ h
    exact dnT R R R R
 ·refine Bg (rx 5 R (ssI 10 h R (λh=>?_) (λh=>?_)))
  ·refine rsn R ?_
   exact⟨true,_,h,(ml R),R⟩
  ·refine rsn R ?_
   exact⟨(decide (0<(a1.Keys.length:Int))),_,h,(ml R),R⟩
def T8 (b1:(List Int)):Option (List Int) :=
 some b1
def J1 (a0:List Ao) (s2:Int×(List Int)):Option (LB (Int×(List Int)) ((List Int))) :=
 if (decide (s2.1<(a0.length:Int))) then((idx a0 s2.1).bind λu3=>if (s2.2.length+[u3.ID].length)*8<=140737488355328 then(some (.cont ((wI (s2.1+1)),(s2.2++[u3.ID])))) else none) else(some (.brk s2.2))
def O0 (a0:List Ao):Option (List Int) :=
 (B8 (J1 a0) fuel (0,([]:List Int))).bind λe5=>T8 e5
theorem Vi {a0:List Ao} {r:(List Int)} (h:O0 a0=some r):A6 Qx0 114 [.one (SL a0 Az)] (·=L7 (SL r eI)):=by
 refine An Tryz.func114 R (nt:=19) R (Nbl R) ?_
 intro w0 S0
 refine crs R (crs R (Bb (crs R ?_)))
 refine Cq 3 1 3 (by decide) R ?_
 refine cj ((List Int)) (λb1=>[(3,L7 (.ls 0 b1.length))]) (λb1=>[.arr 3 1 0 (b1.flatMap eI)]) (λb1=>T8 b1=some r) fR (λb1 h=>?_) ?_
 ·refine crs R (Bn ?_)
  cases SJ h
  refine⟨Or.inr R,_,_,_,(Au (rt R) A4),pb,?_⟩
  rfl
 ·refine Bh ?_
  obtain⟨x2,hx2,ho2⟩:=Aa h
  refine lpn (α:=Int×(List Int)) (λg=>[(3,L7 (.ls 0 g.2.2.length)),(6,L7 (SL a0 Az)),(7,L7 (Ii6 (a0.length:Int))),(8,L7 (Ii6 g.2.1))]) (λg=>[.arr 3 1 0 (g.2.2.flatMap eI)]) (λg=>B8 (J1 a0) g.1 g.2=some x2) (fuel,(0,([]:List Int))) hx2 R R fR ?_
  rintro⟨n2,s2⟩ h
  obtain⟨n2,y2,rfl,h,hk2⟩:=Cb h
  refine crs R (Bb (ccI h R (λh=>?_) (λh=>?_)))
  ·refine csn (csb ?_)
   obtain⟨u3,hu3,h⟩:=Aa h
   refine sv R (Bl (f:=Az) Tu fR R R R R hu3) ?_
   refine sv R (A8 (ys:=[Ii6 u3.ID,Ii6 u3.Begin,Ii6 u3.End,Ii6 u3.State,.b u3.In,.b u3.Out,.b u3.RO,SL u3.Keys (eL eU8)]) Nz R (.cp _) R R) (rsn R (Bg (rx 3 R ?_)))
   refine Eg R Tryz.underlying225 ei3 R R (zL.1 R) (by decide) ?_
   refine Pf [.arr 3 1 0 (s2.2.flatMap eI),BE u3,.arr 3 1 0 ([u3.ID].flatMap eI)] R ?_
   obtain⟨hb4,h⟩:=B5 h
   refine Tp (f:=eI) (xs:=s2.2) (us:=[u3.ID]) R Tryz.underlying225 ei3 Al5 fR R R (.one _ _ _ _ (.ls _ _ _ _ _ _ R (Aq (f:=eI) fR [u3.ID]).symm)) R R R (.sl _ _ _ (Aq (f:=eI) fR _)) R R hb4 (by decide) ?_
   refine rm 1 R (Fi (A0 (Ag (cgs R ?_))))
   cases SJ h
   exact lx (n2,((wI (s2.1+1)),(s2.2++[u3.ID]))) hk2 R R
  ·refine cx5 ?_
   cases SJ h
   obtain rfl:_=x2:=hk2
   exact⟨s2.2,_,ho2,(ml R),R⟩
def P2 (b1:Unit):Option Int :=
 some (-1)
def Dx (a0:List Int) (a1:Int) (s2:Int):Option (LR (Int) (Unit) (Int)) :=
 if (decide (s2<(a0.length:Int))) then((idx a0 s2).bind λu3=>if (decide (a1=u3)) then(some (.ret s2)) else(some (.cont (wI (s2+1))))) else(some (.brk ()))
def Ek (a0:List Int) (a1:Int):Option Int :=
 (Gj (Dx a0 a1) fuel 0).bind λx=>match x with | .inl r=>some r | .inr e4=>P2 e4
theorem Qx {a0:List Int} {a1:Int} {r:Int} (h:Ek a0 a1=some r):A6 Qx0 197 [.one (SL a0 eI),.one (Ii6 a1)] (·=L7 (Ii6 r)):=by
 refine An Tryz.func197 R (nt:=19) R (Nbl R) ?_
 intro w0 S0
 refine crs R (Bb (crs R (cj (Unit) (λb1=>[]) (λb1=>[]) (λb1=>P2 b1=some r) fR (λb1 h=>?_) ?_)))
 ·refine crs R (Bn ?_)
  cases SJ h
  exact dnT R R R R
 ·refine Bh ?_
  obtain⟨x2,hx2,ho2⟩:=Aa h
  refine lpn (α:=Int) (λg=>[(0,L7 (SL a0 eI)),(1,L7 (Ii6 a1)),(7,L7 (Ii6 (a0.length:Int))),(8,L7 (Ii6 g.2))]) (λg=>[]) (λg=>Gj (Dx a0 a1) g.1 g.2=some x2) (fuel,0) hx2 R R fR ?_
  rintro⟨n2,s2⟩ h
  obtain⟨n2,y2,rfl,h,hk2⟩:=Ct h
  refine crs R (Bb (ccI h R (λh=>?_) (λh=>?_)))
  ·refine csn (Bb (Bh (crs R (csr (rx 3 R ?_)))))
   obtain⟨u3,hu3,h⟩:=Aa h
   refine sv R (Bl (f:=eI) Awu fR R R R R hu3) ?_
   refine rsn R (ccI h R (λh=>?_) (λh=>?_))
   ·refine crs R (Bn (br5 ?_))
    cases SJ h
    obtain rfl:Sum.inl _=x2:=hk2
    obtain rfl:=zD ho2
    exact dnT R R R R
   ·refine cbn (cgs R ?_)
    cases SJ h
    exact lx (n2,(wI (s2+1))) hk2 R R
  ·refine cx5 ?_
   cases SJ h
   obtain rfl:_=x2:=hk2
   exact⟨(),_,ho2,trivial,R⟩
def Dv (a0:List Int) (a1:Int):Option Bool :=
 (Ek a0 a1).bind λv1=>some (decide (0<=v1))
theorem Ja {a0:List Int} {a1:Int} {r:Bool} (h:Dv a0 a1=some r):A6 Qx0 237 [.one (SL a0 eI),.one (Ii6 a1)] (·=L7 (.b r)):=by
 refine An Tryz.func237 R (nt:=9) R (Nbl R) ?_
 intro w0 S0
 refine crs R (csr (rx 2 R ?_))
 obtain⟨v1,hv1,h⟩:=Aa h
 refine scI R R (Qx hv1) (rsn R (Bn ?_))
 cases SJ h
 exact dnT R R R R
def Ri (b1:(List Ap)):Option Be :=
 some (Be.mk b1)
def Gr (a0:Be) (a1:List Int) (a2:Bool) (s2:Int×(List Ap)):Option (LB (Int×(List Ap)) ((List Ap))) :=
 if (decide (s2.1<(a0.L.length:Int))) then((idx a0.L s2.1).bind λu3=>(Dv a1 u3.Tx).bind λv4=>if (v4==a2) then(if (s2.2.length+[u3].length)*64<=140737488355328 then(some (.cont ((wI (s2.1+1)),(s2.2++[u3])))) else none) else(some (.cont ((wI (s2.1+1)),s2.2)))) else(some (.brk s2.2))
def Nl (a0:Be) (a1:List Int) (a2:Bool):Option Be :=
 (B8 (Gr a0 a1 a2) fuel (0,([]:List Ap))).bind λe6=>Ri e6
theorem Xy {a0:Be} {a1:List Int} {a2:Bool} {r:Be} (h:Nl a0 a1 a2=some r):A6 Qx0 187 [.agg [SL a0.L Aj],.one (SL a1 eI),.one (.b a2)] (·=.s (.agg [SL r.L Aj])):=by
 refine An Tryz.func187 R (nt:=30) R (Nbl R) ?_
 intro w0 S0
 refine crs R (crs R (Bb (crs R ?_)))
 refine Cq 142 4 7 (by decide) R ?_
 refine cj ((List Ap)) (λb1=>[(6,L7 (.lp 1 0)),(7,L7 (.ls 2 b1.length))]) (λb1=>[.box [SL a0.L Aj],.box [Znl],.arr 142 4 0 (b1.flatMap Aj)]) (λb1=>Ri b1=some r) fR (λb1 h=>?_) ?_
 ·refine crs R (Bn ?_)
  cases SJ h
  refine⟨Or.inr R,_,_,_,(Au (ra Awm R R R) A4),pb,?_⟩
  rfl
 ·refine Bh ?_
  obtain⟨x2,hx2,ho2⟩:=Aa h
  refine lpn (α:=Int×(List Ap)) (λg=>[(1,L7 (SL a1 eI)),(2,L7 (.b a2)),(6,L7 (.lp 1 0)),(7,L7 (.ls 2 g.2.2.length)),(11,L7 (SL a0.L Aj)),(12,L7 (Ii6 (a0.L.length:Int))),(13,L7 (Ii6 g.2.1))]) (λg=>[.box [SL a0.L Aj],.box [Znl],.arr 142 4 0 (g.2.2.flatMap Aj)]) (λg=>B8 (Gr a0 a1 a2) g.1 g.2=some x2) (fuel,(0,([]:List Ap))) hx2 R R fR ?_
  rintro⟨n2,s2⟩ h
  obtain⟨n2,y2,rfl,h,hk2⟩:=Cb h
  refine crs R (Bb (ccI h R (λh=>?_) (λh=>?_)))
  ·refine csn (csb ?_)
   obtain⟨u3,hu3,h⟩:=Aa h
   refine sv R (Bl (f:=Aj) Aie fR R R R R hu3) ?_
   refine sv R (A8 (ys:=[Ii6 u3.Tx,SL u3.Rng.Lo eU8,SL u3.Rng.Hi eU8,.b u3.Rng.Open]) Amz R (.cp _) R R) (rsn R (csr (rx 3 R ?_)))
   obtain⟨v4,hv4,h⟩:=Aa h
   refine scI R R (Ja hv4) (rm 1 R (sv R (Ahg Tryz.underlying4 R R) (Oy (ccI h R (λh=>?_) (λh=>?_)))))
   ·refine Bg (rx 2 R ?_)
    refine Eg R Tryz.underlying30 Anf R R (zL.1 R) (by decide) ?_
    refine Pf [.box [SL a0.L Aj],.box [Znl],.arr 142 4 0 (s2.2.flatMap Aj),BE u3,.arr 142 4 0 ([u3].flatMap Aj)] R ?_
    obtain⟨hb5,h⟩:=B5 h
    refine Tp (f:=Aj) (xs:=s2.2) (us:=[u3]) R Tryz.underlying30 Anf Azm fR R R (.one _ _ _ _ (.ls _ _ _ _ _ _ R (Aq (f:=Aj) fR [u3]).symm)) R R R (.sl _ _ _ (Aq (f:=Aj) fR _)) R R hb5 (by decide) ?_
    refine rm 1 R (Fi (A0 (Ag (cgs R ?_))))
    cases SJ h
    exact lx (n2,((wI (s2.1+1)),(s2.2++[u3]))) hk2 R R
   ·refine cbn (cgs R ?_)
    cases SJ h
    exact lx (n2,((wI (s2.1+1)),s2.2)) hk2 R R
  ·refine cx5 ?_
   cases SJ h
   obtain rfl:_=x2:=hk2
   exact⟨s2.2,_,ho2,(ml R),R⟩
def J2 (a0:Be) (a1:List Int):Option Be :=
 (Nl a0 a1 false).bind λv1=>some v1
theorem Sa {a0:Be} {a1:List Int} {r:Be} (h:J2 a0 a1=some r):A6 Qx0 113 [.agg [SL a0.L Aj],.one (SL a1 eI)] (·=.s (.agg [SL r.L Aj])):=by
 refine An Tryz.func113 R (nt:=8) R (Nbl R) ?_
 intro w0 S0
 refine crs R (csr (rx 2 R ?_))
 obtain⟨v1,hv1,h⟩:=Aa h
 refine scI R R (Xy hv1) (rsn R (Bn ?_))
 cases SJ h
 exact dnA R Awm R (.lp _ _ _ R) (Nbl R) R R
def Mx (a0:Ay) (b2:Unit):Option Bool :=
 (O0 a0.Txs).bind λv3=>(J2 a0.Reads v3).bind λv4=>some (decide ((v4.L.length:Int)=0))
def Nq (s5:Int) (b9:Unit):Option (LR (Int) (Unit) (Bool)) :=
 some (.cont (wI (s5+1)))
def Ix (u6:Ao) (c8:List Ao) (s10:Int):Option (LR (Int) (Unit) (Bool)) :=
 if (decide (s10<(c8.length:Int))) then((idx c8 s10).bind λu11=>(Oj u6 u11).bind λv12=>if v12 then(some (.ret false)) else(some (.cont (wI (s10+1))))) else(some (.brk ()))
def J4 (a0:Ay) (s5:Int):Option (LR (Int) (Unit) (Bool)) :=
 if (decide (s5<(a0.Txs.length:Int))) then((idx a0.Txs s5).bind λu6=>(J3 u6).bind λv7=>if (!v7) then(some (.ret false)) else((cut a0.Txs 0 s5).bind λc8=>(Gj (Ix u6 c8) fuel 0).bind λx=>match x with | .inl r=>some (.ret r) | .inr e13=>Nq s5 e13)) else(some (.brk ()))
def Qi (a0:Ay) (b1:Unit):Option Bool :=
 (Gj (J4 a0) fuel 0).bind λx=>match x with | .inl r=>some r | .inr e14=>Mx a0 e14
def Jw (a0:Ay):Option Bool :=
 if (decide (64<(a0.Txs.length:Int))) then(some false) else((Gd a0.Reads).bind λv15=>if (!v15) then(some false) else(Qi a0 ()))
theorem Og {a0:Ay} {r:Bool} (h:Jw a0=some r):A6 Qx0 46 [.agg (EL.el a0)] (·=L7 (.b r)):=by
 refine An Tryz.func46 R (nt:=51) R (Nbl R) ?_
 intro w0 S0
 refine crs R (Bb (Bb (cj3 (Unit) (λb1=>[(1,L7 (.lp 0 0))]) (λb1=>[BE a0]) (λb1=>Qi a0 b1=some r) fR (λb1 h=>?_) ?_)))
 ·refine Bb (crs R (cj (Unit) (λb2=>[(1,L7 (.lp 0 0))]) (λb2=>[BE a0]) (λb2=>Mx a0 b2=some r) fR (λb2 h=>?_) ?_))
  ·refine Bb ?_
   refine U4 mixed (by kernel_rfl) ?_
   refine dv R (Ah Ar2 R) (dv R (lo Awm R R R) (dv R (Ah Ahu R) (dv R (l1 Axm R R R) ?_)))
   obtain⟨v3,hv3,h⟩:=Aa h
   refine dd R (Cf (fk R) (Af R A2) R (Vi hv3)) ?_
   obtain⟨v4,hv4,h⟩:=Aa h
   refine dd R (Cf (fk R) (Af R (Af R A2)) R (Sa hv4)) (dv R (Aje Au8 Au0 R R) (dv R (Mn Aie R) (dv R (Nb R R) (dv R (Hh R) (Vp (Ag (Bn ?_)))))))
   cases SJ h
   exact dnT R R R R
  ·refine Bh ?_
   obtain⟨x5,hx5,ho5⟩:=Aa h
   refine lpn (α:=Int) (λg=>[(1,L7 (.lp 0 0)),(18,L7 (SL a0.Txs Az)),(19,L7 (Ii6 (a0.Txs.length:Int))),(20,L7 (Ii6 g.2))]) (λg=>[BE a0]) (λg=>Gj (J4 a0) g.1 g.2=some x5) (fuel,0) hx5 R R fR ?_
   rintro⟨n5,s5⟩ h
   obtain⟨n5,y5,rfl,h,hk5⟩:=Ct h
   refine crs R (Bb (ccI h R (λh=>?_) (λh=>?_)))
   ·refine csn (Bb (Bh (csr (rx 1 R ?_))))
    obtain⟨u6,hu6,h⟩:=Aa h
    refine sv R (Bl (f:=Az) Tu fR R R R R hu6) ?_
    refine sv R (A8 (ys:=[Ii6 u6.ID,Ii6 u6.Begin,Ii6 u6.End,Ii6 u6.State,.b u6.In,.b u6.Out,.b u6.RO,SL u6.Keys (eL eU8)]) Nz R (.cp _) R R) (rsn R (Bb (csr (rx 1 R ?_))))
    obtain⟨v7,hv7,h⟩:=Aa h
    refine scI R R (Si hv7) (rsn R (ccI h R (λh=>?_) (λh=>?_)))
    ·refine crs R (crt (br5 ?_))
     cases SJ h
     obtain rfl:Sum.inl _=x5:=hk5
     obtain rfl:=zD ho5
     exact dnT R R R R
    ·refine csn (csr (rx 3 R ?_))
     obtain⟨c8,hc8,h⟩:=Aa h
     refine sv R (Uo (f:=Az) (lo:=0) (hi:=s5) Tu fR R R R R9 (Mq R (zAg (Ro hc8).1.1 (Ro hc8).1.2.1)) hc8) ?_
     refine rsn R (Ahr (Unit) (λb9=>[(1,L7 (.lp 0 0)),(18,L7 (SL a0.Txs Az)),(19,L7 (Ii6 (a0.Txs.length:Int))),(20,L7 (Ii6 s5))]) (λb9=>[BE a0,BE u6]) (λb9=>Nq s5 b9=some y5) (λ_ _=>T9 R) (λ_ _=>M1 R) (λ_ _=>Nbl R) (λb9 h=>?_) ?_)
     ·refine cgs R ?_
      cases SJ h
      exact lx (n5,(wI (s5+1))) hk5 R R
     ·refine Bh ?_
      obtain⟨x10,hx10,ho10⟩:=Aa h
      refine lpn (α:=Int) (λg=>[(1,L7 (.lp 0 0)),(4,L7 (.lp 1 0)),(18,L7 (SL a0.Txs Az)),(19,L7 (Ii6 (a0.Txs.length:Int))),(20,L7 (Ii6 s5)),(31,L7 (SL c8 Az)),(32,L7 (Ii6 (c8.length:Int))),(33,L7 (Ii6 g.2))]) (λg=>[BE a0,BE u6]) (λg=>Gj (Ix u6 c8) g.1 g.2=some x10) (fuel,0) hx10 R R fR ?_
      rintro⟨n10,s10⟩ h
      obtain⟨n10,y10,rfl,h,hk10⟩:=Ct h
      refine crs R (Bb (ccI h R (λh=>?_) (λh=>?_)))
      ·refine csn (csb ?_)
       obtain⟨u11,hu11,h⟩:=Aa h
       refine sv R (Bl (f:=Az) Tu fR R R R R hu11) ?_
       refine sv R (A8 (ys:=[Ii6 u11.ID,Ii6 u11.Begin,Ii6 u11.End,Ii6 u11.State,.b u11.In,.b u11.Out,.b u11.RO,SL u11.Keys (eL eU8)]) Nz R (.cp _) R R) (rsn R (csr (rx 2 R ?_)))
       obtain⟨v12,hv12,h⟩:=Aa h
       refine scI R R (Yq hv12) (Oy (ccI h R (λh=>?_) (λh=>?_)))
       ·refine crs R (Bn (br3 (D5 (br5 ?_))))
        cases SJ h
        obtain rfl:Sum.inl _=x10:=hk10
        obtain rfl:=zD ho10
        obtain rfl:Sum.inl _=x5:=hk5
        obtain rfl:=zD ho5
        exact dnT R R R R
       ·refine cbn (cgs R ?_)
        cases SJ h
        exact lx (n10,(wI (s10+1))) hk10 R R
      ·refine Tm (Cw (Cw (Ez (A0 (Ag ?_)))))
       cases SJ h
       obtain rfl:_=x10:=hk10
       exact⟨(),_,ho10,(ml R),R⟩
   ·refine cx5 ?_
    cases SJ h
    obtain rfl:_=x5:=hk5
    exact⟨(),_,ho5,(ml R),R⟩
 ·refine Bg (rx 5 R (ssI 11 h R (λh=>?_) (λh=>?_)))
  ·refine rsn R (B1 R (λ_=>?_) (λhx=>Bool.noConfusion hx))
   refine crs R (crt ?_)
   cases SJ h
   exact dnT R R R R
  ·refine rx 2 R (son R R R ?_)
   obtain⟨v15,hv15,h⟩:=Aa h
   refine scI R R (Se hv15) (rsn R (ccI h R (λh=>?_) (λh=>?_)))
   ·refine crs R (crt ?_)
    cases SJ h
    exact dnT R R R R
   ·refine csn ?_
    exact⟨(),_,h,(ml R),R⟩
def Cg (a0:Int) (a1:Int):Option Bool :=
 if (decide (0<=a0)) then(if (decide (a0<=1099511627776)) then(if (decide (0<=a1)) then(some (decide (a1<=65535))) else(some false)) else(some false)) else(some false)
theorem C7 {a0:Int} {a1:Int} {r:Bool} (h:Cg a0 a1=some r):A6 Qx0 130 [.one (Ii6 a0),.one (Ii6 a1)] (·=L7 (.b r)):=by
 refine An Tryz.func130 R (nt:=19) R (Nbl R) ?_
 intro w0 S0
 refine crs R (csr (rx 3 R (ssI 7 h R (λh=>?_) (λh=>?_))))
 ·refine rx 4 R (ssI 11 h R (λh=>?_) (λh=>?_))
  ·refine rx 4 R (ssI 15 h R (λh=>?_) (λh=>?_))
   ·refine rsn R (Bn ?_)
    cases SJ h
    exact dnT R R R R
   ·refine rsn R (Bn ?_)
    cases SJ h
    exact dnT R R R R
  ·refine rsn R (Bn ?_)
   cases SJ h
   exact dnT R R R R
 ·refine rsn R (Bn ?_)
  cases SJ h
  exact dnT R R R R
def G7 (a0:Int):Option Bool :=
 if (decide (1<=a0)) then(some (decide (a0<=1099511627776))) else(some false)
theorem Pt {a0:Int} {r:Bool} (h:G7 a0=some r):A6 Qx0 188 [.one (Ii6 a0)] (·=L7 (.b r)):=by
 refine An Tryz.func188 R (nt:=9) R (Nbl R) ?_
 intro w0 S0
 refine crs R (csr (rx 3 R (ssI 5 h R (λh=>?_) (λh=>?_))))
 ·refine rsn R (Bn ?_)
  cases SJ h
  exact dnT R R R R
 ·refine rsn R (Bn ?_)
  cases SJ h
  exact dnT R R R R
def E5 (a0:As) (b1:Bool):Option Bool :=
 if b1 then((Cg a0.Tok a0.Attempt).bind λv2=>if v2 then(some (decide (a0.Ts=0))) else(some false)) else(if (decide (a0.State=2)) then((Cg a0.Tok a0.Attempt).bind λv3=>if v3 then((G7 a0.Ts).bind λv4=>some v4) else(some false)) else(some false))
def Gx (a0:As):Option Bool :=
 if (decide (a0.State=1)) then(E5 a0 (decide (a0.State=1))) else(E5 a0 (decide (a0.State=3)))
theorem Td {a0:As} {r:Bool} (h:Gx a0=some r):A6 Qx0 115 [.agg (EL.el a0)] (·=L7 (.b r)):=by
 refine An Tryz.func115 R (nt:=30) R (Nbl R) ?_
 intro w0 S0
 refine crs R (Bb (crs R (Bh (Bb (crs R (cj (Bool) (λb1=>[(1,L7 (.lp 0 0)),(4,L7 (Ii6 a0.State)),(5,L7 (.b b1))]) (λb1=>[BE a0]) (λb1=>E5 a0 b1=some r) fR (λb1 h=>?_) ?_))))))
 ·refine ccI h R (λh=>?_) (λh=>?_)
  ·refine csr (rx 4 R ?_)
   obtain⟨v2,hv2,h⟩:=Aa h
   refine scI R R (C7 hv2) (rm 1 R (ssI 13 h R (λh=>?_) (λh=>?_)))
   ·refine rsn R (Bn (br2 ?_))
    cases SJ h
    exact dnT R R R R
   ·refine rsn R (Bn (br2 ?_))
    cases SJ h
    exact dnT R R R R
  ·refine crs R (ccI h R (λh=>?_) (λh=>?_))
   ·refine csr (rx 4 R ?_)
    obtain⟨v3,hv3,h⟩:=Aa h
    refine scI R R (C7 hv3) (rm 1 R (ssI 25 h R (λh=>?_) (λh=>?_)))
    ·refine rx 2 R (son R R R ?_)
     obtain⟨v4,hv4,h⟩:=Aa h
     refine scI R R (Pt hv4) (rsn R (Bn (br2 ?_)))
     cases SJ h
     exact dnT R R R R
    ·refine rsn R (Bn (br2 ?_))
     cases SJ h
     exact dnT R R R R
   ·refine cbn (crs R (Bn ?_))
    cases SJ h
    exact dnT R R R R
 ·refine ccI h R (λh=>?_) (λh=>?_)
  ·refine csn ?_
   exact⟨(decide (a0.State=1)),_,h,(ml R),R⟩
  ·refine cgs R ?_
   exact⟨(decide (a0.State=3)),_,h,(ml R),R⟩
def Pu (a0:A1) (b1:Unit):Option Int :=
 some (a0.L.length:Int)
def Hm (a0:A1) (a1:Int) (s2:Int):Option (LR (Int) (Unit) (Int)) :=
 if (decide (s2<(a0.L.length:Int))) then((idx a0.L s2).bind λu3=>if (decide (u3.Tok=a1)) then(some (.ret s2)) else(some (.cont (wI (s2+1))))) else(some (.brk ()))
def Ee (a0:A1) (a1:Int):Option Int :=
 (Gj (Hm a0 a1) fuel 0).bind λx=>match x with | .inl r=>some r | .inr e4=>Pu a0 e4
theorem Ig {a0:A1} {a1:Int} {r:Int} (h:Ee a0 a1=some r):A6 Qx0 116 [.agg [SL a0.L Ad],.one (Ii6 a1)] (·=L7 (Ii6 r)):=by
 refine An Tryz.func116 R (nt:=24) R (Nbl R) ?_
 intro w0 S0
 refine crs R (Bb (crs R (cj (Unit) (λb1=>[(2,L7 (.lp 0 0))]) (λb1=>[.box [SL a0.L Ad]]) (λb1=>Pu a0 b1=some r) fR (λb1 h=>?_) ?_)))
 ·refine crs R (Bn ?_)
  cases SJ h
  exact dnT R R R R
 ·refine Bh ?_
  obtain⟨x2,hx2,ho2⟩:=Aa h
  refine lpn (α:=Int) (λg=>[(1,L7 (Ii6 a1)),(2,L7 (.lp 0 0)),(8,L7 (SL a0.L Ad)),(9,L7 (Ii6 (a0.L.length:Int))),(10,L7 (Ii6 g.2))]) (λg=>[.box [SL a0.L Ad]]) (λg=>Gj (Hm a0 a1) g.1 g.2=some x2) (fuel,0) hx2 R R fR ?_
  rintro⟨n2,s2⟩ h
  obtain⟨n2,y2,rfl,h,hk2⟩:=Ct h
  refine crs R (Bb (ccI h R (λh=>?_) (λh=>?_)))
  ·refine csn (Bb (Bh (csr (rx 1 R ?_))))
   obtain⟨u3,hu3,h⟩:=Aa h
   refine sv R (Bl (f:=Ad) Aj1 fR R R R R hu3) ?_
   refine sv R (A8 (ys:=[Ii6 u3.Tok,Ii6 u3.Attempt,Ii6 u3.State,Ii6 u3.Ts]) As4 R (.cp _) R R) (rsn R (crs R (ccI h R (λh=>?_) (λh=>?_))))
   ·refine crs R (Bn (br5 ?_))
    cases SJ h
    obtain rfl:Sum.inl _=x2:=hk2
    obtain rfl:=zD ho2
    exact dnT R R R R
   ·refine cbn (cgs R ?_)
    cases SJ h
    exact lx (n2,(wI (s2+1))) hk2 R R
  ·refine cx5 ?_
   cases SJ h
   obtain rfl:_=x2:=hk2
   exact⟨(),_,ho2,(ml R),R⟩
def Rn (a0:A1) (b1:Unit):Option Bool :=
 some (decide ((a0.L.length:Int)<=32))
def Jp (a0:A1) (s2:Int):Option (LR (Int) (Unit) (Bool)) :=
 if (decide (s2<(a0.L.length:Int))) then((idx a0.L s2).bind λu3=>(Gx u3).bind λv4=>if (!v4) then(some (.ret false)) else((Ee a0 u3.Tok).bind λv5=>if (!decide (v5=s2)) then(some (.ret false)) else(some (.cont (wI (s2+1)))))) else(some (.brk ()))
def Cx (a0:A1):Option Bool :=
 (Gj (Jp a0) fuel 0).bind λx=>match x with | .inl r=>some r | .inr e6=>Rn a0 e6
theorem Hy {a0:A1} {r:Bool} (h:Cx a0=some r):A6 Qx0 47 [.agg [SL a0.L Ad]] (·=L7 (.b r)):=by
 refine An Tryz.func47 R (nt:=29) R (Nbl R) ?_
 intro w0 S0
 refine crs R (Bb (crs R (cj (Unit) (λb1=>[(1,L7 (.lp 0 0))]) (λb1=>[.box [SL a0.L Ad]]) (λb1=>Rn a0 b1=some r) fR (λb1 h=>?_) ?_)))
 ·refine crs R (Bn ?_)
  cases SJ h
  exact dnT R R R R
 ·refine Bh ?_
  obtain⟨x2,hx2,ho2⟩:=Aa h
  refine lpn (α:=Int) (λg=>[(1,L7 (.lp 0 0)),(6,L7 (SL a0.L Ad)),(7,L7 (Ii6 (a0.L.length:Int))),(8,L7 (Ii6 g.2))]) (λg=>[.box [SL a0.L Ad]]) (λg=>Gj (Jp a0) g.1 g.2=some x2) (fuel,0) hx2 R R fR ?_
  rintro⟨n2,s2⟩ h
  obtain⟨n2,y2,rfl,h,hk2⟩:=Ct h
  refine crs R (Bb (ccI h R (λh=>?_) (λh=>?_)))
  ·refine csn (Bb (Bh (csr (rx 1 R ?_))))
   obtain⟨u3,hu3,h⟩:=Aa h
   refine sv R (Bl (f:=Ad) Aj1 fR R R R R hu3) ?_
   refine sv R (A8 (ys:=[Ii6 u3.Tok,Ii6 u3.Attempt,Ii6 u3.State,Ii6 u3.Ts]) As4 R (.cp _) R R) (rsn R (csr (rx 1 R ?_)))
   obtain⟨v4,hv4,h⟩:=Aa h
   refine scI R R (Td hv4) (rx 2 R (ssI 16 h R (λh=>?_) (λh=>?_)))
   ·refine rsn R (B1 R (λ_=>?_) (λhx=>Bool.noConfusion hx))
    refine crs R (Bn (br5 ?_))
    cases SJ h
    obtain rfl:Sum.inl _=x2:=hk2
    obtain rfl:=zD ho2
    exact dnT R R R R
   ·refine rx 3 R (son R R R ?_)
    obtain⟨v5,hv5,h⟩:=Aa h
    refine scI R R (Ig hv5) (rsn R (ccI h R (λh=>?_) (λh=>?_)))
    ·refine crs R (Bn (br5 ?_))
     cases SJ h
     obtain rfl:Sum.inl _=x2:=hk2
     obtain rfl:=zD ho2
     exact dnT R R R R
    ·refine cbn (cgs R ?_)
     cases SJ h
     exact lx (n2,(wI (s2+1))) hk2 R R
  ·refine cx5 ?_
   cases SJ h
   obtain rfl:_=x2:=hk2
   exact⟨(),_,ho2,(ml R),R⟩
def Tl (b1:Unit):Option Int :=
 some (-1)
def Gn (a0:Ab) (a1:Int) (s2:Int):Option (LR (Int) (Unit) (Int)) :=
 if (decide (s2<(a0.Open.length:Int))) then((idx a0.Open s2).bind λu3=>if (decide (u3.ID=a1)) then(some (.ret s2)) else(some (.cont (wI (s2+1))))) else(some (.brk ()))
def Dc (a0:Ab) (a1:Int):Option Int :=
 (Gj (Gn a0 a1) fuel 0).bind λx=>match x with | .inl r=>some r | .inr e4=>Tl e4
theorem Qy {a0:Ab} {a1:Int} {r:Int} (h:Dc a0 a1=some r):A6 Qx0 48 [.agg (EL.el a0),.one (Ii6 a1)] (·=L7 (Ii6 r)):=by
 refine An Tryz.func48 R (nt:=21) R (Nbl R) ?_
 intro w0 S0
 refine crs R (Bb (crs R (cj (Unit) (λb1=>[]) (λb1=>[BE a0]) (λb1=>Tl b1=some r) fR (λb1 h=>?_) ?_)))
 ·refine crs R (Bn ?_)
  cases SJ h
  exact dnT R R R R
 ·refine Bh ?_
  obtain⟨x2,hx2,ho2⟩:=Aa h
  refine lpn (α:=Int) (λg=>[(1,L7 (Ii6 a1)),(8,L7 (SL a0.Open A7)),(9,L7 (Ii6 (a0.Open.length:Int))),(10,L7 (Ii6 g.2))]) (λg=>[BE a0]) (λg=>Gj (Gn a0 a1) g.1 g.2=some x2) (fuel,0) hx2 R R fR ?_
  rintro⟨n2,s2⟩ h
  obtain⟨n2,y2,rfl,h,hk2⟩:=Ct h
  refine crs R (Bb (ccI h R (λh=>?_) (λh=>?_)))
  ·refine csn (Bb (Bh (csr (rx 1 R ?_))))
   obtain⟨u3,hu3,h⟩:=Aa h
   refine sv R (Bl (f:=A7) Aih fR R R R R hu3) ?_
   refine sv R (A8 (ys:=[Ii6 u3.ID,Ii6 u3.Token,Ii6 u3.Attempt,Ii6 u3.Snap,.b u3.RO,SL u3.Buf.L Am]) Ao8 R (.cp _) R R) (rsn R (crs R (ccI h R (λh=>?_) (λh=>?_))))
   ·refine crs R (Bn (br5 ?_))
    cases SJ h
    obtain rfl:Sum.inl _=x2:=hk2
    obtain rfl:=zD ho2
    exact dnT R R R R
   ·refine cbn (cgs R ?_)
    cases SJ h
    exact lx (n2,(wI (s2+1))) hk2 R R
  ·refine cx5 ?_
   cases SJ h
   obtain rfl:_=x2:=hk2
   exact⟨(),_,ho2,trivial,R⟩
def Hg (a0:Ay) (a1:Int):Option Int :=
 (O0 a0.Txs).bind λv1=>(Ek v1 a1).bind λv2=>some v2
theorem Pg {a0:Ay} {a1:Int} {r:Int} (h:Hg a0 a1=some r):A6 Qx0 132 [.agg (EL.el a0),.one (Ii6 a1)] (·=L7 (Ii6 r)):=by
 refine An Tryz.func132 R (nt:=10) R (Nbl R) ?_
 intro w0 S0
 refine crs R (csr (rx 2 R ?_))
 obtain⟨v1,hv1,h⟩:=Aa h
 refine scI R R (Vi hv1) (rx 1 R ?_)
 obtain⟨v2,hv2,h⟩:=Aa h
 refine scI R R (Qx hv2) (rsn R (Bn ?_))
 cases SJ h
 exact dnT R R R R
def Ni (a0:Ay) (a1:Int):Option (Ao×Bool) :=
 (Hg a0 a1).bind λv1=>if (decide (v1<0)) then(some (Xm,false)) else((idx a0.Txs v1).bind λu2=>some (u2,true))
theorem Aat {a0:Ay} {a1:Int} {r:Ao×Bool} (h:Ni a0 a1=some r):A6 Qx0 189 [.agg (EL.el a0),.one (Ii6 a1)] (·=.tup [.agg (EL.el r.1),.one (.b r.2)]):=by
 refine An Tryz.func189 R (nt:=18) R (Nbl R) ?_
 intro w0 S0
 refine crs R (csr (rx 2 R ?_))
 obtain⟨v1,hv1,h⟩:=Aa h
 refine scI R R (Pg hv1) (rsn R (Bb (crs R (ccI h R (λh=>?_) (λh=>?_)))))
 ·refine crs R (crt ?_)
  cases SJ h
  exact dE R (F1 R) R
 ·refine csn (csr (rx 3 R ?_))
  obtain⟨u2,hu2,h⟩:=Aa h
  refine sv R (Bl (f:=Az) Tu fR R R R R hu2) ?_
  refine sv R (A8 (ys:=[Ii6 u2.ID,Ii6 u2.Begin,Ii6 u2.End,Ii6 u2.State,.b u2.In,.b u2.Out,.b u2.RO,SL u2.Keys (eL eU8)]) Nz R (.cp _) R R) (rsn R (Bn ?_))
  cases SJ h
  exact dE R (Bq R) R
def Kq (a0:Ab) (a1:Ax):Option Bool :=
 (Ni a0.Cert a1.ID).bind λv1=>if (decide (v1.1.State=1)) then(if (decide (v1.1.Begin=a1.Snap)) then(if (v1.1.RO==a1.RO) then(if (decide (a1.Snap<=a0.Store.Ts)) then((E8 a1.Buf).bind λv2=>if v2 then(if a1.RO then(some (!(decide (0<(a1.Buf.L.length:Int))))) else(some true)) else(some false)) else(some false)) else(some false)) else(some false)) else(some false)
theorem V7 {a0:Ab} {a1:Ax} {r:Bool} (h:Kq a0 a1=some r):A6 Qx0 117 [.agg (EL.el a0),.agg (EL.el a1)] (·=L7 (.b r)):=by
 refine An Tryz.func117 R (nt:=57) R (Nbl R) ?_
 intro w0 S0
 refine crs R (csr (rx 4 R ?_))
 obtain⟨v1,hv1,h⟩:=Aa h
 refine scI R R (Aat hv1) (rsn R (csr (rx 4 R (ssI 18 h R (λh=>?_) (λh=>?_)))))
 ·refine rx 7 R (ssI 25 h R (λh=>?_) (λh=>?_))
  ·refine rx 4 R (son R R R (sv R (Ahg Tryz.underlying4 R R) (rm 2 R (ssI 32 h R (λh=>?_) (λh=>?_)))))
   ·refine rx 8 R (ssI 40 h R (λh=>?_) (λh=>?_))
    ·refine rx 2 R (son R R R ?_)
     obtain⟨v2,hv2,h⟩:=Aa h
     refine scI R R (Nh hv2) (rm 2 R (ssI 45 h R (λh=>?_) (λh=>?_)))
     ·refine rx 3 R (ssI 48 h R (λh=>?_) (λh=>?_))
      ·refine rsn R (Bn ?_)
       cases SJ h
       exact dnT R R R R
      ·refine rsn R (Bn ?_)
       cases SJ h
       exact dnT R R R R
     ·refine rsn R (Bn ?_)
      cases SJ h
      exact dnT R R R R
    ·refine rsn R (Bn ?_)
     cases SJ h
     exact dnT R R R R
   ·refine rsn R (Bn ?_)
    cases SJ h
    exact dnT R R R R
  ·refine rsn R (Bn ?_)
   cases SJ h
   exact dnT R R R R
 ·refine rsn R (Bn ?_)
  cases SJ h
  exact dnT R R R R
def Hp (a0:Ab) (b1:Unit):Option Bool :=
 some (decide ((a0.Open.length:Int)<=16))
def Ho (s2:Int×Int) (u3:Ax) (b6:Unit):Option (LR (Int×Int) (Unit) (Bool)) :=
 some (.cont (u3.ID,(wI (s2.2+1))))
def Hn (u3:Ax) (c5:List Ax) (s7:Int):Option (LR (Int) (Unit) (Bool)) :=
 if (decide (s7<(c5.length:Int))) then((idx c5 s7).bind λu8=>if (decide (u8.Token=u3.Token)) then(some (.ret false)) else(some (.cont (wI (s7+1))))) else(some (.brk ()))
def Lj (a0:Ab) (s2:Int×Int) (u3:Ax) (b4:Unit):Option (LR (Int×Int) (Unit) (Bool)) :=
 (cut a0.Open 0 s2.2).bind λc5=>(Gj (Hn u3 c5) fuel 0).bind λx=>match x with | .inl r=>some (.ret r) | .inr e9=>Ho s2 u3 e9
def Hj (a0:Ab) (s2:Int×Int):Option (LR (Int×Int) (Unit) (Bool)) :=
 if (decide (s2.2<(a0.Open.length:Int))) then((idx a0.Open s2.2).bind λu3=>if (decide (u3.ID<=s2.1)) then(some (.ret false)) else(if (decide (a0.Next<=u3.ID)) then(some (.ret false)) else((Kq a0 u3).bind λv10=>if (!v10) then(some (.ret false)) else(Lj a0 s2 u3 ())))) else(some (.brk ()))
def K0 (a0:Ab):Option Bool :=
 (Gj (Hj a0) fuel ((-1),0)).bind λx=>match x with | .inl r=>some r | .inr e11=>Hp a0 e11
theorem Wh {a0:Ab} {r:Bool} (h:K0 a0=some r):A6 Qx0 49 [.agg (EL.el a0)] (·=L7 (.b r)):=by
 refine An Tryz.func49 R (nt:=55) R (Nbl R) ?_
 intro w0 S0
 refine crs R (crs R (Bb (crs R (cj (Unit) (λb1=>[(1,L7 (.lp 0 0))]) (λb1=>[BE a0]) (λb1=>Hp a0 b1=some r) fR (λb1 h=>?_) ?_))))
 ·refine crs R (Bn ?_)
  cases SJ h
  exact dnT R R R R
 ·refine Bh ?_
  obtain⟨x2,hx2,ho2⟩:=Aa h
  refine lpn (α:=Int×Int) (λg=>[(1,L7 (.lp 0 0)),(3,L7 (Ii6 g.2.1)),(9,L7 (SL a0.Open A7)),(10,L7 (Ii6 (a0.Open.length:Int))),(11,L7 (Ii6 g.2.2))]) (λg=>[BE a0]) (λg=>Gj (Hj a0) g.1 g.2=some x2) (fuel,((-1),0)) hx2 R R fR ?_
  rintro⟨n2,s2⟩ h
  obtain⟨n2,y2,rfl,h,hk2⟩:=Ct h
  refine crs R (Bb (ccI h R (λh=>?_) (λh=>?_)))
  ·refine csn (Bb (Bh (csr (rx 1 R ?_))))
   obtain⟨u3,hu3,h⟩:=Aa h
   refine sv R (Bl (f:=A7) Aih fR R R R R hu3) ?_
   refine sv R (A8 (ys:=[Ii6 u3.ID,Ii6 u3.Token,Ii6 u3.Attempt,Ii6 u3.Snap,.b u3.RO,SL u3.Buf.L Am]) Ao8 R (.cp _) R R) (rsn R (Bb (Bb (cj3 (Unit) (λb4=>[(1,L7 (.lp 0 0)),(4,L7 (Ii6 s2.2)),(5,L7 (.lp 1 0)),(9,L7 (SL a0.Open A7)),(10,L7 (Ii6 (a0.Open.length:Int))),(11,L7 (Ii6 s2.2))]) (λb4=>[BE a0,BE u3]) (λb4=>Lj a0 s2 u3 b4=some y2) fR (λb4 h=>?_) ?_))))
   ·refine Bb (csr (rx 3 R ?_))
    obtain⟨c5,hc5,h⟩:=Aa h
    refine sv R (Uo (f:=A7) (lo:=0) (hi:=s2.2) Aih fR R R R R9 (Mq R (zAg (Ro hc5).1.1 (Ro hc5).1.2.1)) hc5) ?_
    refine rsn R (cj (Unit) (λb6=>[(1,L7 (.lp 0 0)),(5,L7 (.lp 1 0)),(9,L7 (SL a0.Open A7)),(10,L7 (Ii6 (a0.Open.length:Int))),(11,L7 (Ii6 s2.2))]) (λb6=>[BE a0,BE u3]) (λb6=>Ho s2 u3 b6=some y2) fR (λb6 h=>?_) ?_)
    ·refine Bg (rx 3 R (Fi (A0 (Ag (cgs R ?_)))))
     cases SJ h
     exact lx (n2,(u3.ID,(wI (s2.2+1)))) hk2 R R
    ·refine Bh ?_
     obtain⟨x7,hx7,ho7⟩:=Aa h
     refine lpn (α:=Int) (λg=>[(1,L7 (.lp 0 0)),(5,L7 (.lp 1 0)),(9,L7 (SL a0.Open A7)),(10,L7 (Ii6 (a0.Open.length:Int))),(11,L7 (Ii6 s2.2)),(36,L7 (SL c5 A7)),(37,L7 (Ii6 (c5.length:Int))),(38,L7 (Ii6 g.2))]) (λg=>[BE a0,BE u3]) (λg=>Gj (Hn u3 c5) g.1 g.2=some x7) (fuel,0) hx7 R R fR ?_
     rintro⟨n7,s7⟩ h
     obtain⟨n7,y7,rfl,h,hk7⟩:=Ct h
     refine crs R (Bb (ccI h R (λh=>?_) (λh=>?_)))
     ·refine csn (csb ?_)
      obtain⟨u8,hu8,h⟩:=Aa h
      refine sv R (Bl (f:=A7) Aih fR R R R R hu8) ?_
      refine sv R (A8 (ys:=[Ii6 u8.ID,Ii6 u8.Token,Ii6 u8.Attempt,Ii6 u8.Snap,.b u8.RO,SL u8.Buf.L Am]) Ao8 R (.cp _) R R) (rsn R (crs R (ccI h R (λh=>?_) (λh=>?_))))
      ·refine crs R (Bn (br5 (br5 ?_)))
       cases SJ h
       obtain rfl:Sum.inl _=x7:=hk7
       obtain rfl:=zD ho7
       obtain rfl:Sum.inl _=x2:=hk2
       obtain rfl:=zD ho2
       exact dnT R R R R
      ·refine cbn (cgs R ?_)
       cases SJ h
       exact lx (n7,(wI (s7+1))) hk7 R R
     ·refine cx5 ?_
      cases SJ h
      obtain rfl:_=x7:=hk7
      exact⟨(),_,ho7,(ml R),R⟩
   ·refine Bg (rx 5 R (ssI 20 h R (λh=>?_) (λh=>?_)))
    ·refine rsn R (B1 R (λ_=>?_) (λhx=>Bool.noConfusion hx))
     refine crs R (crt (br5 ?_))
     cases SJ h
     obtain rfl:Sum.inl _=x2:=hk2
     obtain rfl:=zD ho2
     exact dnT R R R R
    ·refine rx 7 R (ssI 27 h R (λh=>?_) (λh=>?_))
     ·refine rsn R (B1 R (λ_=>?_) (λhx=>Bool.noConfusion hx))
      refine crs R (crt (br5 ?_))
      cases SJ h
      obtain rfl:Sum.inl _=x2:=hk2
      obtain rfl:=zD ho2
      exact dnT R R R R
     ·refine rx 2 R (son R R R ?_)
      obtain⟨v10,hv10,h⟩:=Aa h
      refine scI R R (V7 hv10) (rsn R (ccI h R (λh=>?_) (λh=>?_)))
      ·refine crs R (crt (br5 ?_))
       cases SJ h
       obtain rfl:Sum.inl _=x2:=hk2
       obtain rfl:=zD ho2
       exact dnT R R R R
      ·refine csn ?_
       exact⟨(),_,h,(ml R),R⟩
  ·refine cx5 ?_
   cases SJ h
   obtain rfl:_=x2:=hk2
   exact⟨(),_,ho2,(ml R),R⟩
def Nj (a0:Ab) (b2:Unit):Option Bool :=
 (K0 a0).bind λv3=>some v3
def Nr (a0:Ab) (s4:Int):Option (LR (Int) (Unit) (Bool)) :=
 if (decide (s4<(a0.Cert.Txs.length:Int))) then((idx a0.Cert.Txs s4).bind λu5=>if (decide (a0.Store.Ts<u5.End)) then(some (.ret false)) else(if (decide (u5.State=1)) then((Dc a0 u5.ID).bind λv6=>if (decide (v6<0)) then(some (.ret false)) else(some (.cont (wI (s4+1))))) else(some (.cont (wI (s4+1)))))) else(some (.brk ()))
def Qg (a0:Ab) (b1:Unit):Option Bool :=
 (Gj (Nr a0) fuel 0).bind λx=>match x with | .inl r=>some r | .inr e7=>Nj a0 e7
def G1 (a0:Ab):Option Bool :=
 (Cy a0.Store).bind λv8=>if (!v8) then(some false) else((Jw a0.Cert).bind λv9=>if (!v9) then(some false) else((Cx a0.Toks).bind λv10=>if (!v10) then(some false) else(if (decide (a0.Next<0)) then(some false) else(if (decide (1099511627776<a0.Next)) then(some false) else(Qg a0 ())))))
theorem I4 {a0:Ab} {r:Bool} (h:G1 a0=some r):A6 Qx0 16 [.agg (EL.el a0)] (·=L7 (.b r)):=by
 refine An Tryz.func16 R (nt:=60) R (Nbl R) ?_
 intro w0 S0
 refine crs R (Bb (Bb (cj3 (Unit) (λb1=>[(1,L7 (.lp 0 0))]) (λb1=>[BE a0]) (λb1=>Qg a0 b1=some r) fR (λb1 h=>?_) ?_)))
 ·refine Bb (crs R (cj (Unit) (λb2=>[(1,L7 (.lp 0 0))]) (λb2=>[BE a0]) (λb2=>Nj a0 b2=some r) fR (λb2 h=>?_) ?_))
  ·refine csr (rx 1 R ?_)
   obtain⟨v3,hv3,h⟩:=Aa h
   refine scI R R (Wh hv3) (rsn R (Bn ?_))
   cases SJ h
   exact dnT R R R R
  ·refine Bh ?_
   obtain⟨x4,hx4,ho4⟩:=Aa h
   refine lpn (α:=Int) (λg=>[(1,L7 (.lp 0 0)),(33,L7 (SL a0.Cert.Txs Az)),(34,L7 (Ii6 (a0.Cert.Txs.length:Int))),(35,L7 (Ii6 g.2))]) (λg=>[BE a0]) (λg=>Gj (Nr a0) g.1 g.2=some x4) (fuel,0) hx4 R R fR ?_
   rintro⟨n4,s4⟩ h
   obtain⟨n4,y4,rfl,h,hk4⟩:=Ct h
   refine crs R (Bb (ccI h R (λh=>?_) (λh=>?_)))
   ·refine csn (csb ?_)
    obtain⟨u5,hu5,h⟩:=Aa h
    refine sv R (Bl (f:=Az) Tu fR R R R R hu5) ?_
    refine sv R (A8 (ys:=[Ii6 u5.ID,Ii6 u5.Begin,Ii6 u5.End,Ii6 u5.State,.b u5.In,.b u5.Out,.b u5.RO,SL u5.Keys (eL eU8)]) Nz R (.cp _) R R) (rsn R (csr (rx 7 R (ssI 45 h R (λh=>?_) (λh=>?_)))))
    ·refine rsn R (B1 R (λ_=>?_) (λhx=>Bool.noConfusion hx))
     refine crs R (Bn (br5 ?_))
     cases SJ h
     obtain rfl:Sum.inl _=x4:=hk4
     obtain rfl:=zD ho4
     exact dnT R R R R
    ·refine rx 4 R (ssI 49 h R (λh=>?_) (λh=>?_))
     ·refine rx 3 R (son R R R ?_)
      obtain⟨v6,hv6,h⟩:=Aa h
      refine scI R R (Qy hv6) (rsn R (ccI h R (λh=>?_) (λh=>?_)))
      ·refine crs R (Bn (br5 ?_))
       cases SJ h
       obtain rfl:Sum.inl _=x4:=hk4
       obtain rfl:=zD ho4
       exact dnT R R R R
      ·refine cbn (cgs R ?_)
       cases SJ h
       exact lx (n4,(wI (s4+1))) hk4 R R
     ·refine rsn R (B1 R (λhx=>Bool.noConfusion hx) (λ_=>?_))
      refine cbn (cgs R ?_)
      cases SJ h
      exact lx (n4,(wI (s4+1))) hk4 R R
   ·refine cx5 ?_
    cases SJ h
    obtain rfl:_=x4:=hk4
    exact⟨(),_,ho4,(ml R),R⟩
 ·refine Bg (rx 2 R ?_)
  obtain⟨v8,hv8,h⟩:=Aa h
  refine scI R R (I0 hv8) (rx 2 R (ssI 9 h R (λh=>?_) (λh=>?_)))
  ·refine rsn R (B1 R (λ_=>?_) (λhx=>Bool.noConfusion hx))
   refine crs R (crt ?_)
   cases SJ h
   exact dnT R R R R
  ·refine rx 2 R (son R R R ?_)
   obtain⟨v9,hv9,h⟩:=Aa h
   refine scI R R (Og hv9) (rx 3 R (ssI 15 h R (λh=>?_) (λh=>?_)))
   ·refine rsn R (B1 R (λ_=>?_) (λhx=>Bool.noConfusion hx))
    refine crs R (crt ?_)
    cases SJ h
    exact dnT R R R R
   ·refine rx 2 R (son R R R ?_)
    obtain⟨v10,hv10,h⟩:=Aa h
    refine scI R R (Hy hv10) (rx 3 R (ssI 21 h R (λh=>?_) (λh=>?_)))
    ·refine rsn R (B1 R (λ_=>?_) (λhx=>Bool.noConfusion hx))
     refine crs R (crt ?_)
     cases SJ h
     exact dnT R R R R
    ·refine rx 5 R (ssI 26 h R (λh=>?_) (λh=>?_))
     ·refine rsn R (B1 R (λ_=>?_) (λhx=>Bool.noConfusion hx))
      refine crs R (crt ?_)
      cases SJ h
      exact dnT R R R R
     ·refine rsn R (ccI h R (λh=>?_) (λh=>?_))
      ·refine crs R (crt ?_)
       cases SJ h
       exact dnT R R R R
      ·refine csn ?_
       exact⟨(),_,h,(ml R),R⟩
def Ra (b1:Unit):Option (Ax×Bool) :=
 some (Om,false)
def Jd (a0:Ab) (a1:Int) (s2:Int):Option (LR (Int) (Unit) (Ax×Bool)) :=
 if (decide (s2<(a0.Open.length:Int))) then((idx a0.Open s2).bind λu3=>if (decide (u3.Token=a1)) then(some (.ret (u3,true))) else(some (.cont (wI (s2+1))))) else(some (.brk ()))
def J7 (a0:Ab) (a1:Int):Option (Ax×Bool) :=
 (Gj (Jd a0 a1) fuel 0).bind λx=>match x with | .inl r=>some r | .inr e4=>Ra e4
theorem R8 {a0:Ab} {a1:Int} {r:Ax×Bool} (h:J7 a0 a1=some r):A6 Qx0 56 [.agg (EL.el a0),.one (Ii6 a1)] (·=.tup [.agg (EL.el r.1),.one (.b r.2)]):=by
 refine An Tryz.func56 R (nt:=22) R (Nbl R) ?_
 intro w0 S0
 refine crs R (Bb (crs R (cj (Unit) (λb1=>[(4,L7 (.lp 1 0))]) (λb1=>[BE a0,.box [Ii6 0,Ii6 0,Ii6 0,Ii6 0,.b false,Znl]]) (λb1=>Ra b1=some r) fR (λb1 h=>?_) ?_)))
 ·refine crs R (Bn ?_)
  cases SJ h
  exact dE R (F1 R) R
 ·refine Bh ?_
  obtain⟨x2,hx2,ho2⟩:=Aa h
  refine lpn (α:=Int) (λg=>[(1,L7 (Ii6 a1)),(4,L7 (.lp 1 0)),(9,L7 (SL a0.Open A7)),(10,L7 (Ii6 (a0.Open.length:Int))),(11,L7 (Ii6 g.2))]) (λg=>[BE a0,.box [Ii6 0,Ii6 0,Ii6 0,Ii6 0,.b false,Znl]]) (λg=>Gj (Jd a0 a1) g.1 g.2=some x2) (fuel,0) hx2 R R fR ?_
  rintro⟨n2,s2⟩ h
  obtain⟨n2,y2,rfl,h,hk2⟩:=Ct h
  refine crs R (Bb (ccI h R (λh=>?_) (λh=>?_)))
  ·refine csn (csb ?_)
   obtain⟨u3,hu3,h⟩:=Aa h
   refine sv R (Bl (f:=A7) Aih fR R R R R hu3) ?_
   refine sv R (A8 (ys:=[Ii6 u3.ID,Ii6 u3.Token,Ii6 u3.Attempt,Ii6 u3.Snap,.b u3.RO,SL u3.Buf.L Am]) Ao8 R (.cp _) R R) (rsn R (crs R (ccI h R (λh=>?_) (λh=>?_))))
   ·refine crs R (Bn (br5 ?_))
    cases SJ h
    obtain rfl:Sum.inl _=x2:=hk2
    obtain rfl:=zD ho2
    exact dE R (Bq R) R
   ·refine cbn (cgs R ?_)
    cases SJ h
    exact lx (n2,(wI (s2+1))) hk2 R R
  ·refine cx5 ?_
   cases SJ h
   obtain rfl:_=x2:=hk2
   exact⟨(),_,ho2,(ml R),R⟩
def Rk (a0:Ab) (b1:(List Ax)):Option Ab :=
 some ({a0 with Open:=b1})
def Jc (a0:Ab) (a1:Int) (s2:Int×(List Ax)):Option (LB (Int×(List Ax)) ((List Ax))) :=
 if (decide (s2.1<(a0.Open.length:Int))) then((idx a0.Open s2.1).bind λu3=>if (!decide (u3.ID=a1)) then(if (s2.2.length+[u3].length)*64<=140737488355328 then(some (.cont ((wI (s2.1+1)),(s2.2++[u3])))) else none) else(some (.cont ((wI (s2.1+1)),s2.2)))) else(some (.brk s2.2))
def Kc (a0:Ab) (a1:Int):Option Ab :=
 (B8 (Jc a0 a1) fuel (0,([]:List Ax))).bind λe5=>Rk a0 e5
theorem R1 {a0:Ab} {a1:Int} {r:Ab} (h:Kc a0 a1=some r):A6 Qx0 128 [.agg (EL.el a0),.one (Ii6 a1)] (·=.s (.agg (EL.el r))):=by
 refine An Tryz.func128 R (nt:=27) R (Nbl R) ?_
 intro w0 S0
 refine crs R (crs R (Bb (crs R ?_)))
 refine Cq 88 6 5 (by decide) R ?_
 refine cj ((List Ax)) (λb1=>[(2,L7 (.lp 0 0)),(4,L7 (.lp 1 0)),(5,L7 (.ls 2 b1.length))]) (λb1=>[BE a0,.box Zba,.arr 88 6 0 (b1.flatMap A7)]) (λb1=>Rk a0 b1=some r) fR (λb1 h=>?_) ?_
 ·refine crs R (crs R (Bn ?_))
  cases SJ h
  refine⟨Or.inr R,_,_,_,(Au (ra Aii R R R) A4),pb,?_⟩
  rfl
 ·refine Bh ?_
  obtain⟨x2,hx2,ho2⟩:=Aa h
  refine lpn (α:=Int×(List Ax)) (λg=>[(1,L7 (Ii6 a1)),(2,L7 (.lp 0 0)),(4,L7 (.lp 1 0)),(5,L7 (.ls 2 g.2.2.length)),(9,L7 (SL a0.Open A7)),(10,L7 (Ii6 (a0.Open.length:Int))),(11,L7 (Ii6 g.2.1))]) (λg=>[BE a0,.box Zba,.arr 88 6 0 (g.2.2.flatMap A7)]) (λg=>B8 (Jc a0 a1) g.1 g.2=some x2) (fuel,(0,([]:List Ax))) hx2 R R fR ?_
  rintro⟨n2,s2⟩ h
  obtain⟨n2,y2,rfl,h,hk2⟩:=Cb h
  refine crs R (Bb (ccI h R (λh=>?_) (λh=>?_)))
  ·refine csn (csb ?_)
   obtain⟨u3,hu3,h⟩:=Aa h
   refine sv R (Bl (f:=A7) Aih fR R R R R hu3) ?_
   refine sv R (A8 (ys:=[Ii6 u3.ID,Ii6 u3.Token,Ii6 u3.Attempt,Ii6 u3.Snap,.b u3.RO,SL u3.Buf.L Am]) Ao8 R (.cp _) R R) (rsn R (crs R (ccI h R (λh=>?_) (λh=>?_))))
   ·refine Bg (rx 2 R ?_)
    refine Eg R Tryz.underlying38 Aue R R (zL.1 R) (by decide) ?_
    refine Pf [BE a0,.box Zba,.arr 88 6 0 (s2.2.flatMap A7),BE u3,.arr 88 6 0 ([u3].flatMap A7)] R ?_
    obtain⟨hb4,h⟩:=B5 h
    refine Tp (f:=A7) (xs:=s2.2) (us:=[u3]) R Tryz.underlying38 Aue Ayj fR R R (.one _ _ _ _ (.ls _ _ _ _ _ _ R (Aq (f:=A7) fR [u3]).symm)) R R R (.sl _ _ _ (Aq (f:=A7) fR _)) R R hb4 (by decide) ?_
    refine rm 1 R (Fi (A0 (Ag (cgs R ?_))))
    cases SJ h
    exact lx (n2,((wI (s2.1+1)),(s2.2++[u3]))) hk2 R R
   ·refine cbn (cgs R ?_)
    cases SJ h
    exact lx (n2,((wI (s2.1+1)),s2.2)) hk2 R R
  ·refine cx5 ?_
   cases SJ h
   obtain rfl:_=x2:=hk2
   exact⟨s2.2,_,ho2,(ml R),R⟩
def F6 (a0:Ay) (a1:Int):Option Int :=
 (Hg a0 a1).bind λv1=>if (decide (v1<0)) then(some (-1)) else((idx a0.Txs v1).bind λu2=>if (!decide (u2.State=1)) then(some (-1)) else(some v1))
theorem N8 {a0:Ay} {a1:Int} {r:Int} (h:F6 a0 a1=some r):A6 Qx0 194 [.agg (EL.el a0),.one (Ii6 a1)] (·=L7 (Ii6 r)):=by
 refine An Tryz.func194 R (nt:=21) R (Nbl R) ?_
 intro w0 S0
 refine crs R (csr (rx 2 R ?_))
 obtain⟨v1,hv1,h⟩:=Aa h
 refine scI R R (Pg hv1) (rsn R (Bb (csr (rx 3 R (ssI 11 h R (λh=>?_) (λh=>?_))))))
 ·refine rsn R (B1 R (λ_=>?_) (λhx=>Bool.noConfusion hx))
  refine crs R (crt ?_)
  cases SJ h
  exact dnT R R R R
 ·refine rx 3 R (son R R R ?_)
  obtain⟨u2,hu2,h⟩:=Aa h
  refine sv R (Bl (f:=Az) Tu fR R R R R hu2) ?_
  refine son R R R (sv R (A9 Ac4 R) (rsn R (ccI h R (λh=>?_) (λh=>?_))))
  ·refine crs R (crt ?_)
   cases SJ h
   exact dnT R R R R
  ·refine csn (crs R (Bn ?_))
   cases SJ h
   exact dnT R R R R
def Mk (a0:Ay) (a1:List Int) (b1:(List Ao)):Option Ay :=
 (J2 a0.Reads a1).bind λv2=>some (Ay.mk b1 v2)
def F4 (a0:Ay) (a1:List Int) (s3:Int×(List Ao)):Option (LB (Int×(List Ao)) ((List Ao))) :=
 if (decide (s3.1<(a0.Txs.length:Int))) then((idx a0.Txs s3.1).bind λu4=>(Dv a1 u4.ID).bind λv5=>if (!v5) then(if (s3.2.length+[u4].length)*64<=140737488355328 then(some (.cont ((wI (s3.1+1)),(s3.2++[u4])))) else none) else(some (.cont ((wI (s3.1+1)),s3.2)))) else(some (.brk s3.2))
def Iy (a0:Ay) (a1:List Int):Option Ay :=
 (B8 (F4 a0 a1) fuel (0,([]:List Ao))).bind λe7=>Mk a0 a1 e7
theorem Ru {a0:Ay} {a1:List Int} {r:Ay} (h:Iy a0 a1=some r):A6 Qx0 195 [.agg (EL.el a0),.one (SL a1 eI)] (·=.s (.agg (EL.el r))):=by
 refine An Tryz.func195 R (nt:=31) R (Nbl R) ?_
 intro w0 S0
 refine crs R (crs R (Bb (crs R ?_)))
 refine Cq 139 8 5 (by decide) R ?_
 refine cj ((List Ao)) (λb1=>[(1,L7 (SL a1 eI)),(2,L7 (.lp 0 0)),(4,L7 (.lp 1 0)),(5,L7 (.ls 2 b1.length))]) (λb1=>[BE a0,.box [Znl,Znl],.arr 139 8 0 (b1.flatMap Az)]) (λb1=>Mk a0 a1 b1=some r) fR (λb1 h=>?_) ?_
 ·refine csr (rx 4 R ?_)
  obtain⟨v2,hv2,h⟩:=Aa h
  refine scI R R (Sa hv2) (rsn R (Bn ?_))
  cases SJ h
  refine⟨Or.inr R,_,_,_,(Au (ra Aj8 R R R) A4),pb,?_⟩
  rfl
 ·refine Bh ?_
  obtain⟨x3,hx3,ho3⟩:=Aa h
  refine lpn (α:=Int×(List Ao)) (λg=>[(1,L7 (SL a1 eI)),(2,L7 (.lp 0 0)),(4,L7 (.lp 1 0)),(5,L7 (.ls 2 g.2.2.length)),(9,L7 (SL a0.Txs Az)),(10,L7 (Ii6 (a0.Txs.length:Int))),(11,L7 (Ii6 g.2.1))]) (λg=>[BE a0,.box [Znl,Znl],.arr 139 8 0 (g.2.2.flatMap Az)]) (λg=>B8 (F4 a0 a1) g.1 g.2=some x3) (fuel,(0,([]:List Ao))) hx3 R R fR ?_
  rintro⟨n3,s3⟩ h
  obtain⟨n3,y3,rfl,h,hk3⟩:=Cb h
  refine crs R (Bb (ccI h R (λh=>?_) (λh=>?_)))
  ·refine csn (csb ?_)
   obtain⟨u4,hu4,h⟩:=Aa h
   refine sv R (Bl (f:=Az) Tu fR R R R R hu4) ?_
   refine sv R (A8 (ys:=[Ii6 u4.ID,Ii6 u4.Begin,Ii6 u4.End,Ii6 u4.State,.b u4.In,.b u4.Out,.b u4.RO,SL u4.Keys (eL eU8)]) Nz R (.cp _) R R) (rsn R (csr (rx 3 R ?_)))
   obtain⟨v5,hv5,h⟩:=Aa h
   refine scI R R (Ja hv5) (rsn R (ccI h R (λh=>?_) (λh=>?_)))
   ·refine Bg (rx 2 R ?_)
    refine Eg R Tryz.underlying29 Agn R R (zL.1 R) (by decide) ?_
    refine Pf [BE a0,.box [Znl,Znl],.arr 139 8 0 (s3.2.flatMap Az),BE u4,.arr 139 8 0 ([u4].flatMap Az)] R ?_
    obtain⟨hb6,h⟩:=B5 h
    refine Tp (f:=Az) (xs:=s3.2) (us:=[u4]) R Tryz.underlying29 Agn Ax3 fR R R (.one _ _ _ _ (.ls _ _ _ _ _ _ R (Aq (f:=Az) fR [u4]).symm)) R R R (.sl _ _ _ (Aq (f:=Az) fR _)) R R hb6 (by decide) ?_
    refine rm 1 R (Fi (A0 (Ag (cgs R ?_))))
    cases SJ h
    exact lx (n3,((wI (s3.1+1)),(s3.2++[u4]))) hk3 R R
   ·refine cbn (cgs R ?_)
    cases SJ h
    exact lx (n3,((wI (s3.1+1)),s3.2)) hk3 R R
  ·refine cx5 ?_
   cases SJ h
   obtain rfl:_=x3:=hk3
   exact⟨s3.2,_,ho3,(ml R),R⟩
def C9 (a0:Ay) (a1:Int):Option Ay :=
 (F6 a0 a1).bind λv1=>if (decide (v1<0)) then(some a0) else((Iy a0 [a1]).bind λv2=>some v2)
theorem Y2 {a0:Ay} {a1:Int} {r:Ay} (h:C9 a0 a1=some r):A6 Qx0 129 [.agg (EL.el a0),.one (Ii6 a1)] (·=.s (.agg (EL.el r))):=by
 refine An Tryz.func129 R (nt:=14) R (Nbl R) ?_
 intro w0 S0
 refine crs R (Bb (csr (rx 2 R ?_)))
 obtain⟨v1,hv1,h⟩:=Aa h
 refine scI R R (N8 hv1) (rsn R (ccI h R (λh=>?_) (λh=>?_)))
 ·refine crs R (crt ?_)
  cases SJ h
  exact dnA R Aj8 R (.lp _ _ _ R) (Nbl R) R R
 ·refine csn (csr (rx 2 R ?_))
  refine Eg R Tryz.underlying225 ei3 R R (zL.1 R) (by decide) ?_
  refine Pf [BE a0,.box [Znl,Znl],.arr 3 1 0 ([a1].flatMap eI)] R ?_
  refine Ahd 12 R (by(repeat' first|exact W6.nil _|apply W6.cons|apply Xk.one|apply Xk.agg|exact Oe.nil|exact Oe.ls _ _ _ _ _ _ R (Aq (f:=eI) fR ([a1]:List Int)).symm|exact Oe.ls _ _ _ _ _ _ R (Aq (f:=eI) fR _).symm|exact Oe.id _ R|exact Qe.nil _|apply Qe.cons)) ?_
  obtain⟨v2,hv2,h⟩:=Aa h
  refine scI R R (Ru hv2) (rsn R (Bn ?_))
  cases SJ h
  exact dnA R Aj8 R (.lp _ _ _ R) (Nbl R) R R
def Er (a0:A1) (a1:Int):Option (As×Bool) :=
 (Ee a0 a1).bind λv1=>if (decide (v1=(a0.L.length:Int))) then(some ((As.mk 0 0 0 0),false)) else((idx a0.L v1).bind λu2=>some (u2,true))
theorem Ht {a0:A1} {a1:Int} {r:As×Bool} (h:Er a0 a1=some r):A6 Qx0 74 [.agg [SL a0.L Ad],.one (Ii6 a1)] (·=.tup [.agg (EL.el r.1),.one (.b r.2)]):=by
 refine An Tryz.func74 R (nt:=21) R (Nbl R) ?_
 intro w0 S0
 refine crs R (csr (rx 2 R ?_))
 obtain⟨v1,hv1,h⟩:=Aa h
 refine scI R R (Ig hv1) (rsn R (Bb (crs R (ccI h R (λh=>?_) (λh=>?_)))))
 ·refine crs R (crt ?_)
  cases SJ h
  exact dE R (Bq R) R
 ·refine csn (csr (rx 3 R ?_))
  obtain⟨u2,hu2,h⟩:=Aa h
  refine sv R (Bl (f:=Ad) Aj1 fR R R R R hu2) ?_
  refine sv R (A8 (ys:=[Ii6 u2.Tok,Ii6 u2.Attempt,Ii6 u2.State,Ii6 u2.Ts]) As4 R (.cp _) R R) (rsn R (Bn ?_))
  cases SJ h
  exact dE R (Bq R) R
def Jj (a0:List As):Option (List As) :=
 if (([]:List As).length+a0.length)*32<=140737488355328 then(some (([]:List As)++a0)) else none
theorem Uw {a0:List As} {r:(List As)} (h:Jj a0=some r):Cv Qx0 249 [] [.one (SL a0 Ad)] (λy m'=>y=L7 (.ls 0 r.length)/\m'=[.arr 145 4 0 (r.flatMap Ad)]):=by
 refine Cs Tryz.func249 R (nt:=8) R (Nbl R) ?_
 intro w0 S0 X0 H0
 refine crs R (Bb (csr (rm 1 R (Ab6 R Tryz.underlying35 R (λnq hnq=>?_)))))
 cases nq
 ·refine Oy (B1 R (λhx=>Bool.noConfusion hx) (λ_=>?_))
  refine csn (csr (Sz R Tryz.underlying35 Aj2 (rx 1 R ?_)))
  obtain⟨hb1,h⟩:=B5 h
  refine Tp (f:=Ad) (xs:=([]:List As)) (us:=a0) R Tryz.underlying35 Aj2 Axu fR R R (.one _ _ _ _ (.id _ R)) R R R (.sl _ _ _ (Aq (f:=Ad) fR _)) R R hb1 (by decide) ?_
  refine rsn R (Bn ?_)
  cases SJ h
  exact⟨Or.inr R,_,[0],[.one (.ls 0 (([]:List As)++a0).length)],[.arr 145 4 0 ((([]:List As)++a0).flatMap Ad)],(Au (rt R) A4),R,R,⟨by decide,R⟩,R,R,⟨R,R⟩⟩
 ·obtain rfl:=z7 (hnq rfl)
  replace h:(some ([]:List As))=some r:=by first|exact h|(rw[if_pos (by decide)] at h;exact h)
  refine Oy (B1 R (λ_=>?_) (λhx=>Bool.noConfusion hx))
  refine crs R ?_
  refine Cq 145 4 2 (by decide) R ?_
  refine crt ?_
  cases SJ h
  exact⟨Or.inr R,_,[0],[.one (.ls 0 ([]:List As).length)],[.arr 145 4 0 (([]:List As).flatMap Ad)],(Au (rt R) A4),R,R,⟨by decide,R⟩,R,R,⟨R,R⟩⟩
def Nf (a0:List As) (a1:Int) (a2:As):Option (List As) :=
 (Jj a0).bind λv1=>if (decide ((v1.length:Int)<=a1)) then(if (v1.length+[a2].length)*32<=140737488355328 then(some (v1++[a2])) else none) else((idx v1 a1).bind λu3=>some (v1.set a1.toNat a2))
theorem Yd {a0:List As} {a1:Int} {a2:As} {r:(List As)} (h:Nf a0 a1 a2=some r):A6 Qx0 196 [.one (SL a0 Ad),.one (Ii6 a1),.agg (EL.el a2)] (·=L7 (SL r Ad)):=by
 refine An Tryz.func196 R (nt:=23) R (Nbl R) ?_
 intro w0 S0
 refine crs R (csr (rx 1 R ?_))
 obtain⟨v1,hv1,h⟩:=Aa h
 refine Gi (x':=L7 (.ls 1 v1.length)) (M':=[BE a2,.arr 145 4 0 (v1.flatMap Ad)]) [] R (fk R) (.func _) (Af R A2) (Uw hv1) R R (by decide) R R R ?_
 refine rsn R (Bb (csr (rm 2 R (sv R (Fw Aj1 R R (Aq (f:=Ad) fR _).symm) ?_))))
 refine rsn R (ccI h R (λh=>?_) (λh=>?_))
 ·refine csr (rx 2 R ?_)
  refine Eg R Tryz.underlying35 Aj2 R R (zL.1 R) (by decide) ?_
  refine Pf [BE a2,.arr 145 4 0 (v1.flatMap Ad),.arr 145 4 0 ([a2].flatMap Ad)] R ?_
  obtain⟨hb2,h⟩:=B5 h
  refine Tp (f:=Ad) (xs:=v1) (us:=[a2]) R Tryz.underlying35 Aj2 Axu fR R R (.one _ _ _ _ (.ls _ _ _ _ _ _ R (Aq (f:=Ad) fR [a2]).symm)) R R R (.sl _ _ _ (Aq (f:=Ad) fR _)) R R hb2 (by decide) ?_
  refine rsn R (crt ?_)
  cases SJ h
  refine⟨Or.inr R,_,_,_,(Au (rt R) A4),pb,?_⟩
  rfl
 ·refine csn (csr (rx 3 R ?_))
  obtain⟨u3,hu3,h⟩:=Aa h
  refine sv R (Gc (f:=Ad) Aj1 fR R R R R R hu3) ?_
  refine Aa1 (f:=Ad) (u':=a2) (sz:=4) 0 Axy fR R R R R R R R (zL.1 R) (Ft hu3).2 (Nbl R) R ?_
  refine Kk 9 (y:=L7 (.ls 1 v1.length)) (L7 (.ls 1 (v1.set a1.toNat a2).length)) R (congrArg (λn=>AV.s (.one (.ls 1 n))) List.length_set.symm) ?_
  refine Kk 7 (y:=L7 (.ls 1 v1.length)) (L7 (.ls 1 (v1.set a1.toNat a2).length)) R (congrArg (λn=>AV.s (.one (.ls 1 n))) List.length_set.symm) ?_
  refine Kk 11 (y:=L7 (.ls 1 v1.length)) (L7 (.ls 1 (v1.set a1.toNat a2).length)) R (congrArg (λn=>AV.s (.one (.ls 1 n))) List.length_set.symm) ?_
  refine Kk 18 (y:=L7 (.ls 1 v1.length)) (L7 (.ls 1 (v1.set a1.toNat a2).length)) R (congrArg (λn=>AV.s (.one (.ls 1 n))) List.length_set.symm) ?_
  refine Oy (crs R (Bn ?_))
  cases SJ h
  refine⟨Or.inr R,_,_,_,(Au (rt R) A4),pb,?_⟩
  rfl
def Cu (a0:A1) (a1:As):Option (A1×Int) :=
 (Ee a0 a1.Tok).bind λv1=>if (decide (32<=v1)) then(some (B3,8)) else((Nf a0.L v1 a1).bind λv2=>some ((A1.mk v2),0))
theorem Fz {a0:A1} {a1:As} {r:A1×Int} (h:Cu a0 a1=some r):A6 Qx0 131 [.agg [SL a0.L Ad],.agg (EL.el a1)] (·=.tup [.agg [SL r.1.L Ad],.one (Ii6 r.2)]):=by
 refine An Tryz.func131 R (nt:=20) R (Nbl R) ?_
 intro w0 S0
 refine crs R (csr (rx 3 R ?_))
 obtain⟨v1,hv1,h⟩:=Aa h
 refine scI R R (Ig hv1) (rsn R (Bb (crs R (ccI h R (λh=>?_) (λh=>?_)))))
 ·refine crs R (crt ?_)
  cases SJ h
  exact dE R (F1 R) R
 ·refine csn (csr (rx 4 R ?_))
  obtain⟨v2,hv2,h⟩:=Aa h
  refine scI R R (Yd hv2) (rsn R (Bn ?_))
  cases SJ h
  exact dE R (Bq R) R
def Mi (a0:A1) (a1:Int) (a2:Int) (b1:Unit):Option (A1×Int×Int) :=
 (Er a0 a1).bind λv2=>if (decide (v2.1.State=2)) then(some (a0,v2.1.Ts,0)) else((Cu a0 (As.mk a1 (if a2 > v2.1.Attempt then a2 else v2.1.Attempt) 3 0)).bind λv3=>some (v3.1,0,v3.2))
def Co (a0:A1) (a1:Int) (a2:Int):Option (A1×Int×Int) :=
 (Cx a0).bind λv4=>if (!v4) then(some (B3,0,1)) else((Cg a1 a2).bind λv5=>if (!v5) then(some (B3,0,1)) else(Mi a0 a1 a2 ()))
theorem Q7 {a0:A1} {a1:Int} {a2:Int} {r:A1×Int×Int} (h:Co a0 a1 a2=some r):A6 Qx0 73 [.agg [SL a0.L Ad],.one (Ii6 a1),.one (Ii6 a2)] (·=.tup [.agg [SL r.1.L Ad],.one (Ii6 r.2.1),.one (Ii6 r.2.2)]):=by
 refine An Tryz.func73 R (nt:=48) R (Nbl R) ?_
 intro w0 S0
 refine crs R (Bb (Bb (cj3 (Unit) (λb1=>[(1,L7 (Ii6 a1)),(2,L7 (Ii6 a2)),(3,L7 (.lp 0 0)),(6,L7 (.lp 1 0))]) (λb1=>[.box [SL a0.L Ad],.box [Znl]]) (λb1=>Mi a0 a1 a2 b1=some r) fR (λb1 h=>?_) ?_)))
 ·refine csr (rx 2 R ?_)
  obtain⟨v2,hv2,h⟩:=Aa h
  refine scI R R (Ht hv2) (rsn R (Bb (crs R (ccI h R (λh=>?_) (λh=>?_)))))
  ·refine Bb ?_
   refine Hs [3] [0,0,2,1,15,31] [[.box [SL a0.L Ad],.box [Znl],BE v2.1],[.box [SL a0.L Ad],.box [SL a0.L Ad],BE v2.1]] (by kernel_rfl) mixed (by kernel_rfl) (by decide) R R R R ?_
   refine evs (md:=[.box [SL a0.L Ad],.dead,BE v2.1]) (λhS=>ev (Aw 0 R R) R R (lo Azc R R R) (ev (Bp hS) R R (Ah Atb R) (ev (Bp hS) R R (l1 ti3 R R R) (ee0 0 R R R R (λζ=>?_) ?_)))) ⟨⟨R,⟨trivial,⟨R,trivial⟩⟩⟩,⟨⟨R,⟨trivial,⟨R,trivial⟩⟩⟩,trivial⟩⟩
   ·refine rx 1 R (Pf [.box [SL a0.L Ad],.box [SL a0.L Ad],BE v2.1] R ?_)
    exact Tt
   refine ev (Aw 1 R R) R R (Hh R) (ev (Aw 1 R R) R R (Hh R) (Abz (Ag (crt ?_))))
   cases SJ h
   exact dE R (Bq R) R
  ·refine csn (csr (rx 5 R (sv R (Atq R R) (rx 1 R ?_))))
   obtain⟨v3,hv3,h⟩:=Aa h
   refine scI R R (Fz hv3) (rsn R (crs R (Bn ?_)))
   cases SJ h
   exact dE R (Bq R) R
 ·refine Bg (rx 1 R ?_)
  obtain⟨v4,hv4,h⟩:=Aa h
  refine scI R R (Hy hv4) (rx 2 R (ssI 16 h R (λh=>?_) (λh=>?_)))
  ·refine rsn R (B1 R (λ_=>?_) (λhx=>Bool.noConfusion hx))
   refine crs R (crt ?_)
   cases SJ h
   exact dE R (F1 R) R
  ·refine rm 2 R (son R R R ?_)
   obtain⟨v5,hv5,h⟩:=Aa h
   refine scI R R (C7 hv5) (rsn R (ccI h R (λh=>?_) (λh=>?_)))
   ·refine crs R (crt ?_)
    cases SJ h
    exact dE R (F1 R) R
   ·refine csn ?_
    exact⟨(),_,h,(ml R),R⟩
def Cd (a0:Ab) (a1:Ax):Option Ab :=
 (Kc a0 a1.ID).bind λv1=>(C9 v1.Cert a1.ID).bind λv2=>(Co v1.Toks a1.Token a1.Attempt).bind λv3=>if (decide (v3.2.2=0)) then(some ({v1 with Cert:=v2,Toks:=v3.1})) else(some ({v1 with Cert:=v2}))
theorem Gp {a0:Ab} {a1:Ax} {r:Ab} (h:Cd a0 a1=some r):A6 Qx0 57 [.agg (EL.el a0),.agg (EL.el a1)] (·=.s (.agg (EL.el r))):=by
 refine An Tryz.func57 R (nt:=34) R (Nbl R) ?_
 intro w0 S0
 refine crs R (csr (rx 3 R ?_))
 obtain⟨v1,hv1,h⟩:=Aa h
 refine scI R R (R1 hv1) (rsn R (csr (rx 4 R ?_)))
 obtain⟨v2,hv2,h⟩:=Aa h
 refine scI R R (Y2 hv2) (rsn R (Bb (csr (rx 6 R ?_))))
 obtain⟨v3,hv3,h⟩:=Aa h
 refine scI R R (Q7 hv3) (rsn R (crs R (ccI h R (λh=>?_) (λh=>?_))))
 ·refine cgs R (crs R (Bn ?_))
  cases SJ h
  exact dnA R Aii R (.lp _ _ _ R) (Nbl R) R R
 ·refine csn (crs R (Bn ?_))
  cases SJ h
  exact dnA R Aii R (.lp _ _ _ R) (Nbl R) R R
def Me (a0:A1) (a1:Int) (a2:Int) (b1:Unit):Option (A1×Int) :=
 (Er a0 a1).bind λv2=>if v2.2 then(if (decide (v2.1.State=2)) then(some (B3,7)) else(if v2.2 then(if (decide (a2<=v2.1.Attempt)) then(some (B3,14)) else((Cu a0 (As.mk a1 a2 1 0)).bind λv3=>some (v3.1,v3.2))) else((Cu a0 (As.mk a1 a2 1 0)).bind λv4=>some (v4.1,v4.2)))) else(if v2.2 then(if (decide (a2<=v2.1.Attempt)) then(some (B3,14)) else((Cu a0 (As.mk a1 a2 1 0)).bind λv5=>some (v5.1,v5.2))) else((Cu a0 (As.mk a1 a2 1 0)).bind λv6=>some (v6.1,v6.2)))
def Iv (a0:A1) (a1:Int) (a2:Int):Option (A1×Int) :=
 (Cx a0).bind λv7=>if (!v7) then(some (B3,1)) else((Cg a1 a2).bind λv8=>if (!v8) then(some (B3,1)) else(Me a0 a1 a2 ()))
theorem Xc {a0:A1} {a1:Int} {a2:Int} {r:A1×Int} (h:Iv a0 a1 a2=some r):A6 Qx0 58 [.agg [SL a0.L Ad],.one (Ii6 a1),.one (Ii6 a2)] (·=.tup [.agg [SL r.1.L Ad],.one (Ii6 r.2)]):=by
 refine An Tryz.func58 R (nt:=50) R (Nbl R) ?_
 intro w0 S0
 refine crs R (Bb (Bb (cj3 (Unit) (λb1=>[(1,L7 (Ii6 a1)),(2,L7 (Ii6 a2)),(3,L7 (.lp 0 0)),(6,L7 (.lp 1 0))]) (λb1=>[.box [SL a0.L Ad],.box [Znl]]) (λb1=>Me a0 a1 a2 b1=some r) fR (λb1 h=>?_) ?_)))
 ·refine csr (rx 2 R ?_)
  obtain⟨v2,hv2,h⟩:=Aa h
  refine scI R R (Ht hv2) (rsn R (Bb (Bh (csr (rm 2 R (ssI 28 h R (λh=>?_) (λh=>?_)))))))
  ·refine rsn R (ccI h R (λh=>?_) (λh=>?_))
   ·refine crs R (Bn (br2 ?_))
    cases SJ h
    exact dE R (F1 R) R
   ·refine csr (rm 2 R (ssI 36 h R (λh=>?_) (λh=>?_)))
    ·refine rsn R (ccI h R (λh=>?_) (λh=>?_))
     ·refine crs R (Bn (br2 ?_))
      cases SJ h
      exact dE R (F1 R) R
     ·refine cbn (csr (rx 4 R ?_))
      obtain⟨v3,hv3,h⟩:=Aa h
      refine scI R R (Fz hv3) (rsn R (Bn ?_))
      cases SJ h
      exact dE R (Bq R) R
    ·refine rsn R (B1 R (λhx=>Bool.noConfusion hx) (λ_=>?_))
     refine cbn (csr (rx 4 R ?_))
     obtain⟨v4,hv4,h⟩:=Aa h
     refine scI R R (Fz hv4) (rsn R (Bn ?_))
     cases SJ h
     exact dE R (Bq R) R
  ·refine rsn R (B1 R (λhx=>Bool.noConfusion hx) (λ_=>?_))
   refine csr (rm 2 R (ssI 36 h R (λh=>?_) (λh=>?_)))
   ·refine rsn R (ccI h R (λh=>?_) (λh=>?_))
    ·refine crs R (Bn (br2 ?_))
     cases SJ h
     exact dE R (F1 R) R
    ·refine cbn (csr (rx 4 R ?_))
     obtain⟨v5,hv5,h⟩:=Aa h
     refine scI R R (Fz hv5) (rsn R (Bn ?_))
     cases SJ h
     exact dE R (Bq R) R
   ·refine rsn R (B1 R (λhx=>Bool.noConfusion hx) (λ_=>?_))
    refine cbn (csr (rx 4 R ?_))
    obtain⟨v6,hv6,h⟩:=Aa h
    refine scI R R (Fz hv6) (rsn R (Bn ?_))
    cases SJ h
    exact dE R (Bq R) R
 ·refine Bg (rx 1 R ?_)
  obtain⟨v7,hv7,h⟩:=Aa h
  refine scI R R (Hy hv7) (rx 2 R (ssI 13 h R (λh=>?_) (λh=>?_)))
  ·refine rsn R (B1 R (λ_=>?_) (λhx=>Bool.noConfusion hx))
   refine crs R (crt ?_)
   cases SJ h
   exact dE R (F1 R) R
  ·refine rm 2 R (son R R R ?_)
   obtain⟨v8,hv8,h⟩:=Aa h
   refine scI R R (C7 hv8) (rsn R (ccI h R (λh=>?_) (λh=>?_)))
   ·refine crs R (crt ?_)
    cases SJ h
    exact dE R (F1 R) R
   ·refine csn ?_
    exact⟨(),_,h,(ml R),R⟩
def Ln (a0:Int) (b1:Unit):Option (List Ao) :=
 if (decide (0<(wI (a0-(wI (0-0)))))) then(if 0<(wI (a0-(wI (0-0))))/\(wI (a0-(wI (0-0))))*((64:Nat):Int)<=281474976710656 then(if (0:Int)<=0/\0<=((List.replicate (wI (a0-(wI (0-0)))).toNat Xm).length:Int) then(some ((List.replicate (wI (a0-(wI (0-0)))).toNat Xm).take (0:Int).toNat)) else none) else none) else(some ([]:List Ao))
def Kz (a0:Int):Option (List Ao) :=
 if (decide (a0<0)) then none else(Ln a0 ())
theorem Vv {a0:Int} {r:(List Ao)} (h:Kz a0=some r):Cv Qx0 198 [] [.one (Znl),.one (Ii6 a0)] (λy m'=>y=L7 (.ls 0 r.length)/\m'=[.arr 139 8 0 (r.flatMap Az)]):=by
 refine Cs Tryz.func198 R (nt:=27) R (Nbl R) ?_
 intro w0 S0 X0 H0
 refine crs R (Bb (crs R (cj (Unit) (λb1=>[(0,L7 (Znl)),(1,L7 (Ii6 a0))]) (λb1=>[]) (λb1=>Ln a0 b1=some r) fR (λb1 h=>?_) ?_)))
 ·refine Bb (csr (rm 2 R (sv R (E7 Tu R) (rm 1 R (sv R (Ef Tu R) (rsn R (crs R (ccI h R (λh=>?_) (λh=>?_)))))))))
  ·refine Bg (rm 2 R (sv R (E7 Tu R) (sv R (Kw Tu R R) (rx 1 R ?_))))
   obtain⟨hm2,h⟩:=B5 h
   refine Ahq (f:=Az) (z:=Xm) R Tryz.underlying29 Agn Tryz.underlying3 fR R R R hm2 (by decide) ?_
   refine rm 1 R (sv R (Ef Tu R) ?_)
   obtain⟨hs3,h⟩:=B5 h
   refine Ab0 (f:=Az) R Tu fR R R R R R hs3 ?_
   refine rsn R (crs R (Bn ?_))
   cases SJ h
   exact⟨Or.inr R,_,[1],[.one (.ls 0 ((List.replicate (wI (a0-(wI (0-0)))).toNat Xm).take (0:Int).toNat).length)],[.arr 139 8 0 (((List.replicate (wI (a0-(wI (0-0)))).toNat Xm).take (0:Int).toNat).flatMap Az)],(Au (rt R) A4),R,R,⟨by decide,R⟩,R,R,⟨R,R⟩⟩
  ·refine csn (crs R ?_)
   refine Cq 139 8 4 (by decide) R ?_
   refine Bn ?_
   cases SJ h
   exact⟨Or.inr R,_,[0],[.one (.ls 0 ([]:List Ao).length)],[.arr 139 8 0 (([]:List Ao).flatMap Az)],(Au (rt R) A4),R,R,⟨by decide,R⟩,R,R,⟨R,R⟩⟩
 ·refine ccI h R (λh=>?_) (λh=>?_)
  ·cases h
  ·refine csn ?_
   exact⟨(),_,h,(ml R),R⟩
def O6 (b3:(List Ao)):Option (List Ao) :=
 some b3
def Ew (a0:List (List Ao)) (s4:Int×(List Ao)):Option (LB (Int×(List Ao)) ((List Ao))) :=
 if (decide (s4.1<(a0.length:Int))) then((idx a0 s4.1).bind λu5=>if (s4.2.length+u5.length)*64<=140737488355328 then(some (.cont ((wI (s4.1+1)),(s4.2++u5)))) else none) else(some (.brk s4.2))
def Ka (a0:List (List Ao)) (b1:Int):Option (List Ao) :=
 (Kz b1).bind λv2=>(B8 (Ew a0) fuel (0,v2)).bind λe7=>O6 e7
def E0 (a0:List (List Ao)) (s8:Int×Int):Option (LB (Int×Int) (Int)) :=
 if (decide (s8.2<(a0.length:Int))) then((idx a0 s8.2).bind λu9=>if (decide ((wI (s8.1+(u9.length:Int)))<0)) then none else(some (.cont ((wI (s8.1+(u9.length:Int))),(wI (s8.2+1)))))) else(some (.brk s8.1))
def Je (a0:List (List Ao)):Option (List Ao) :=
 (B8 (E0 a0) fuel (0,0)).bind λe10=>Ka a0 e10
theorem Vf {a0:List (List Ao)} {r:(List Ao)} (h:Je a0=some r):A6 Qx0 133 [.one (SL a0 (eL Az))] (·=L7 (SL r Az)):=by
 refine An Tryz.func133 R (nt:=36) R (Nbl R) ?_
 intro w0 S0
 refine crs R (crs R (Bb (crs R (cj (Int) (λb1=>[(0,L7 (SL a0 (eL Az))),(3,L7 (Ii6 b1))]) (λb1=>[]) (λb1=>Ka a0 b1=some r) fR (λb1 h=>?_) ?_))))
 ·refine csr (rx 1 R ?_)
  obtain⟨v2,hv2,h⟩:=Aa h
  refine Gi (x':=L7 (.ls 0 v2.length)) (M':=[.arr 139 8 0 (v2.flatMap Az)]) [] R (fk R) (.func _) (Af R (Af R A2)) (Vv hv2) R R (by decide) R R R ?_
  refine rsn R (Bb (crs R (cj ((List Ao)) (λb3=>[(6,L7 (.ls 0 b3.length))]) (λb3=>[.arr 139 8 0 (b3.flatMap Az)]) (λb3=>O6 b3=some r) fR (λb3 h=>?_) ?_)))
  ·refine crs R (Bn ?_)
   cases SJ h
   refine⟨Or.inr R,_,_,_,(Au (rt R) A4),pb,?_⟩
   rfl
  ·refine Bh ?_
   obtain⟨x4,hx4,ho4⟩:=Aa h
   refine lpn (α:=Int×(List Ao)) (λg=>[(6,L7 (.ls 0 g.2.2.length)),(25,L7 (SL a0 (eL Az))),(26,L7 (Ii6 (a0.length:Int))),(27,L7 (Ii6 g.2.1))]) (λg=>[.arr 139 8 0 (g.2.2.flatMap Az)]) (λg=>B8 (Ew a0) g.1 g.2=some x4) (fuel,(0,v2)) hx4 R R fR ?_
   rintro⟨n4,s4⟩ h
   obtain⟨n4,y4,rfl,h,hk4⟩:=Cb h
   refine crs R (Bb (ccI h R (λh=>?_) (λh=>?_)))
   ·refine csn (csb ?_)
    obtain⟨u5,hu5,h⟩:=Aa h
    refine sv R (Bl (f:=(eL Az)) Awi fR R R R R hu5) ?_
    refine rsn R (Bg (rx 2 R ?_))
    obtain⟨hb6,h⟩:=B5 h
    refine Tp (f:=Az) (xs:=s4.2) (us:=u5) R Tryz.underlying29 Agn Ax3 fR R R (.one _ _ _ _ (.id _ R)) R R R (.sl _ _ _ (Aq (f:=Az) fR _)) R R hb6 (by decide) ?_
    refine rm 1 R (Fi (A0 (Ag (cgs R ?_))))
    cases SJ h
    exact lx (n4,((wI (s4.1+1)),(s4.2++u5))) hk4 R R
   ·refine cx5 ?_
    cases SJ h
    obtain rfl:_=x4:=hk4
    exact⟨s4.2,_,ho4,(ml R),R⟩
 ·refine Bh ?_
  obtain⟨x8,hx8,ho8⟩:=Aa h
  refine lpn (α:=Int×Int) (λg=>[(0,L7 (SL a0 (eL Az))),(3,L7 (Ii6 g.2.1)),(9,L7 (SL a0 (eL Az))),(10,L7 (Ii6 (a0.length:Int))),(11,L7 (Ii6 g.2.2))]) (λg=>[]) (λg=>B8 (E0 a0) g.1 g.2=some x8) (fuel,(0,0)) hx8 R R fR ?_
  rintro⟨n8,s8⟩ h
  obtain⟨n8,y8,rfl,h,hk8⟩:=Cb h
  refine crs R (Bb (ccI h R (λh=>?_) (λh=>?_)))
  ·refine csn (csb ?_)
   obtain⟨u9,hu9,h⟩:=Aa h
   refine sv R (Bl (f:=(eL Az)) Awi fR R R R R hu9) ?_
   refine rsn R (crs R (crs R (ccI h R (λh=>?_) (λh=>?_))))
   ·cases h
   ·refine cbn (cgs R ?_)
    cases SJ h
    exact lx (n8,((wI (s8.1+(u9.length:Int))),(wI (s8.2+1)))) hk8 R R
  ·refine cx5 ?_
   cases SJ h
   obtain rfl:_=x8:=hk8
   exact⟨s8.1,_,ho8,(ml R),R⟩
def Ik (a0:Ay) (a1:Int) (a2:Int) (a3:Bool):Option (Ay×Int) :=
 (Jw a0).bind λv1=>if (!v1) then(some (G8,1)) else((J3 (Ao.mk a1 a2 0 1 false false a3 ([]:List (List UInt8)))).bind λv2=>if (!v2) then(some (G8,1)) else((Hg a0 a1).bind λv3=>if (decide (0<=v3)) then(some (G8,7)) else(if (decide (64<=(a0.Txs.length:Int))) then(some (G8,8)) else((Je ([a0.Txs,([(Ao.mk a1 a2 0 1 false false a3 ([]:List (List UInt8)))]:List Ao)]:List (List Ao))).bind λv4=>some ((Ay.mk v4 a0.Reads),0)))))
theorem Zq {a0:Ay} {a1:Int} {a2:Int} {a3:Bool} {r:Ay×Int} (h:Ik a0 a1 a2 a3=some r):A6 Qx0 59 [.agg (EL.el a0),.one (Ii6 a1),.one (Ii6 a2),.one (.b a3)] (·=.tup [.agg (EL.el r.1),.one (Ii6 r.2)]):=by
 refine An Tryz.func59 R (nt:=46) R (Nbl R) ?_
 intro w0 S0
 refine crs R (crs R (Bb (Bh (csr (rx 1 R ?_)))))
 obtain⟨v1,hv1,h⟩:=Aa h
 refine scI R R (Og hv1) (rx 2 R (ssI 19 h R (λh=>?_) (λh=>?_)))
 ·refine rsn R (B1 R (λ_=>?_) (λhx=>Bool.noConfusion hx))
  refine crs R (Bn (br2 ?_))
  cases SJ h
  exact dE R (F1 R) R
 ·refine rx 1 R (son R R R ?_)
  obtain⟨v2,hv2,h⟩:=Aa h
  refine scE R R (F1 R) (Si hv2) (rsn R (ccI h R (λh=>?_) (λh=>?_)))
  ·refine crs R (Bn (br2 ?_))
   cases SJ h
   exact dE R (F1 R) R
  ·refine csr (rx 2 R ?_)
   obtain⟨v3,hv3,h⟩:=Aa h
   refine scI R R (Pg hv3) (rsn R (ccI h R (λh=>?_) (λh=>?_)))
   ·refine crs R (Bn (br2 ?_))
    cases SJ h
    exact dE R (F1 R) R
   ·refine crs R (ccI h R (λh=>?_) (λh=>?_))
    ·refine crs R (Bn (br2 ?_))
     cases SJ h
     exact dE R (F1 R) R
    ·refine cbn (Bb ?_)
     obtain⟨v4,hv4,h⟩:=Aa h
     refine Hs [9] [0,1,0,4,15,31,0,64,255,511,1023] [[BE a0,.box [Znl,Znl],.box [Ii6 a1,Ii6 a2,Ii6 0,Ii6 1,.b false,.b false,.b a3,Znl]],[BE a0,BE (Ay.mk v4 a0.Reads),.box [Ii6 a1,Ii6 a2,Ii6 0,Ii6 1,.b false,.b false,.b a3,Znl]]] (by kernel_rfl) mixed (by kernel_rfl) (by decide) R R R R ?_
     refine ev (Aw 0 R R) R R (Ah Ahu R) (ev (Aw 0 R R) R R (l1 Axm R R R) (ev (Aw 0 R R) R R (lo Nz R R R) ?_))
     refine ed (Aw 0 R R) R R (Ahi (out':=([(Ao.mk a1 a2 0 1 false false a3 ([]:List (List UInt8)))]:List Ao).flatMap Az) Tryz.underlying29 Agn (Bo R Dh) (.cons _ _ _ _ _ _ _ R R (Nbl R) (.nil _)) R (by decide) R) ?_
     refine ed (Aw 0 R R) R R (Z1 (out:=([a0.Txs,([(Ao.mk a1 a2 0 1 false false a3 ([]:List (List UInt8)))]:List Ao)]:List (List Ao)).flatMap (eL Az)) Tryz.underlying312 Az3 (Bo R (Bo R Dh)) (.cons _ _ _ _ _ _ _ R R (Nbl R) (.cons _ _ _ _ _ _ _ R R (Nbl R) (.nil _))) R (by decide)) ?_
     refine ed (Aw 0 R R) R R (Cf (fk R) (Af R A2) R (Vf hv4)) (ev (Aw 0 R R) R R (Ah Ar2 R) (ev (Aw 0 R R) R R (lo Awm R R R) (ev (Aw 0 R R) R R (O4 Azf A0x (Bo R (Bo R Dh)) (.cons _ _ _ _ _ _ _ R R (Nbl R) (.cons _ _ _ _ _ _ _ R R (Nbl R) (.nil _)))) (ee0 0 R R R R (λζ=>?_) ?_))))
     ·refine rx 1 R (Pf [BE a0,BE (Ay.mk v4 a0.Reads),.box [Ii6 a1,Ii6 a2,Ii6 0,Ii6 1,.b false,.b false,.b a3,Znl]] R ?_)
      exact Tt
     refine ev (Aw 1 R R) R R (Hh R) (Abz (Ag (Bn ?_)))
     cases SJ h
     exact dE R (Bq R) R
def Lq (a0:Int) (b1:Unit):Option (List Ax) :=
 if (decide (0<(wI (a0-(wI (0-0)))))) then(if 0<(wI (a0-(wI (0-0))))/\(wI (a0-(wI (0-0))))*((64:Nat):Int)<=281474976710656 then(if (0:Int)<=0/\0<=((List.replicate (wI (a0-(wI (0-0)))).toNat Om).length:Int) then(some ((List.replicate (wI (a0-(wI (0-0)))).toNat Om).take (0:Int).toNat)) else none) else none) else(some ([]:List Ax))
def K9 (a0:Int):Option (List Ax) :=
 if (decide (a0<0)) then none else(Lq a0 ())
theorem Vx {a0:Int} {r:(List Ax)} (h:K9 a0=some r):Cv Qx0 134 [] [.one (Znl),.one (Ii6 a0)] (λy m'=>y=L7 (.ls 0 r.length)/\m'=[.arr 88 6 0 (r.flatMap A7)]):=by
 refine Cs Tryz.func134 R (nt:=27) R (Nbl R) ?_
 intro w0 S0 X0 H0
 refine crs R (Bb (crs R (cj (Unit) (λb1=>[(0,L7 (Znl)),(1,L7 (Ii6 a0))]) (λb1=>[]) (λb1=>Lq a0 b1=some r) fR (λb1 h=>?_) ?_)))
 ·refine Bb (csr (rm 2 R (sv R (E7 Aih R) (rm 1 R (sv R (Ef Aih R) (rsn R (crs R (ccI h R (λh=>?_) (λh=>?_)))))))))
  ·refine Bg (rm 2 R (sv R (E7 Aih R) (sv R (Kw Aih R R) (rx 1 R ?_))))
   obtain⟨hm2,h⟩:=B5 h
   refine Ahq (f:=A7) (z:=Om) R Tryz.underlying38 Aue Tryz.underlying3 fR R R R hm2 (by decide) ?_
   refine rm 1 R (sv R (Ef Aih R) ?_)
   obtain⟨hs3,h⟩:=B5 h
   refine Ab0 (f:=A7) R Aih fR R R R R R hs3 ?_
   refine rsn R (crs R (Bn ?_))
   cases SJ h
   exact⟨Or.inr R,_,[1],[.one (.ls 0 ((List.replicate (wI (a0-(wI (0-0)))).toNat Om).take (0:Int).toNat).length)],[.arr 88 6 0 (((List.replicate (wI (a0-(wI (0-0)))).toNat Om).take (0:Int).toNat).flatMap A7)],(Au (rt R) A4),R,R,⟨by decide,R⟩,R,R,⟨R,R⟩⟩
  ·refine csn (crs R ?_)
   refine Cq 88 6 4 (by decide) R ?_
   refine Bn ?_
   cases SJ h
   exact⟨Or.inr R,_,[0],[.one (.ls 0 ([]:List Ax).length)],[.arr 88 6 0 (([]:List Ax).flatMap A7)],(Au (rt R) A4),R,R,⟨by decide,R⟩,R,R,⟨R,R⟩⟩
 ·refine ccI h R (λh=>?_) (λh=>?_)
  ·cases h
  ·refine csn ?_
   exact⟨(),_,h,(ml R),R⟩
def Py (b3:(List Ax)):Option (List Ax) :=
 some b3
def Fg (a0:List (List Ax)) (s4:Int×(List Ax)):Option (LB (Int×(List Ax)) ((List Ax))) :=
 if (decide (s4.1<(a0.length:Int))) then((idx a0 s4.1).bind λu5=>if (s4.2.length+u5.length)*64<=140737488355328 then(some (.cont ((wI (s4.1+1)),(s4.2++u5)))) else none) else(some (.brk s4.2))
def Lv (a0:List (List Ax)) (b1:Int):Option (List Ax) :=
 (K9 b1).bind λv2=>(B8 (Fg a0) fuel (0,v2)).bind λe7=>Py e7
def E9 (a0:List (List Ax)) (s8:Int×Int):Option (LB (Int×Int) (Int)) :=
 if (decide (s8.2<(a0.length:Int))) then((idx a0 s8.2).bind λu9=>if (decide ((wI (s8.1+(u9.length:Int)))<0)) then none else(some (.cont ((wI (s8.1+(u9.length:Int))),(wI (s8.2+1)))))) else(some (.brk s8.1))
def Ku (a0:List (List Ax)):Option (List Ax) :=
 (B8 (E9 a0) fuel (0,0)).bind λe10=>Lv a0 e10
theorem Vz {a0:List (List Ax)} {r:(List Ax)} (h:Ku a0=some r):A6 Qx0 60 [.one (SL a0 (eL A7))] (·=L7 (SL r A7)):=by
 refine An Tryz.func60 R (nt:=36) R (Nbl R) ?_
 intro w0 S0
 refine crs R (crs R (Bb (crs R (cj (Int) (λb1=>[(0,L7 (SL a0 (eL A7))),(3,L7 (Ii6 b1))]) (λb1=>[]) (λb1=>Lv a0 b1=some r) fR (λb1 h=>?_) ?_))))
 ·refine csr (rx 1 R ?_)
  obtain⟨v2,hv2,h⟩:=Aa h
  refine Gi (x':=L7 (.ls 0 v2.length)) (M':=[.arr 88 6 0 (v2.flatMap A7)]) [] R (fk R) (.func _) (Af R (Af R A2)) (Vx hv2) R R (by decide) R R R ?_
  refine rsn R (Bb (crs R (cj ((List Ax)) (λb3=>[(6,L7 (.ls 0 b3.length))]) (λb3=>[.arr 88 6 0 (b3.flatMap A7)]) (λb3=>Py b3=some r) fR (λb3 h=>?_) ?_)))
  ·refine crs R (Bn ?_)
   cases SJ h
   refine⟨Or.inr R,_,_,_,(Au (rt R) A4),pb,?_⟩
   rfl
  ·refine Bh ?_
   obtain⟨x4,hx4,ho4⟩:=Aa h
   refine lpn (α:=Int×(List Ax)) (λg=>[(6,L7 (.ls 0 g.2.2.length)),(25,L7 (SL a0 (eL A7))),(26,L7 (Ii6 (a0.length:Int))),(27,L7 (Ii6 g.2.1))]) (λg=>[.arr 88 6 0 (g.2.2.flatMap A7)]) (λg=>B8 (Fg a0) g.1 g.2=some x4) (fuel,(0,v2)) hx4 R R fR ?_
   rintro⟨n4,s4⟩ h
   obtain⟨n4,y4,rfl,h,hk4⟩:=Cb h
   refine crs R (Bb (ccI h R (λh=>?_) (λh=>?_)))
   ·refine csn (csb ?_)
    obtain⟨u5,hu5,h⟩:=Aa h
    refine sv R (Bl (f:=(eL A7)) Awa fR R R R R hu5) ?_
    refine rsn R (Bg (rx 2 R ?_))
    obtain⟨hb6,h⟩:=B5 h
    refine Tp (f:=A7) (xs:=s4.2) (us:=u5) R Tryz.underlying38 Aue Ayj fR R R (.one _ _ _ _ (.id _ R)) R R R (.sl _ _ _ (Aq (f:=A7) fR _)) R R hb6 (by decide) ?_
    refine rm 1 R (Fi (A0 (Ag (cgs R ?_))))
    cases SJ h
    exact lx (n4,((wI (s4.1+1)),(s4.2++u5))) hk4 R R
   ·refine cx5 ?_
    cases SJ h
    obtain rfl:_=x4:=hk4
    exact⟨s4.2,_,ho4,(ml R),R⟩
 ·refine Bh ?_
  obtain⟨x8,hx8,ho8⟩:=Aa h
  refine lpn (α:=Int×Int) (λg=>[(0,L7 (SL a0 (eL A7))),(3,L7 (Ii6 g.2.1)),(9,L7 (SL a0 (eL A7))),(10,L7 (Ii6 (a0.length:Int))),(11,L7 (Ii6 g.2.2))]) (λg=>[]) (λg=>B8 (E9 a0) g.1 g.2=some x8) (fuel,(0,0)) hx8 R R fR ?_
  rintro⟨n8,s8⟩ h
  obtain⟨n8,y8,rfl,h,hk8⟩:=Cb h
  refine crs R (Bb (ccI h R (λh=>?_) (λh=>?_)))
  ·refine csn (csb ?_)
   obtain⟨u9,hu9,h⟩:=Aa h
   refine sv R (Bl (f:=(eL A7)) Awa fR R R R R hu9) ?_
   refine rsn R (crs R (crs R (ccI h R (λh=>?_) (λh=>?_))))
   ·cases h
   ·refine cbn (cgs R ?_)
    cases SJ h
    exact lx (n8,((wI (s8.1+(u9.length:Int))),(wI (s8.2+1)))) hk8 R R
  ·refine cx5 ?_
   cases SJ h
   obtain rfl:_=x8:=hk8
   exact⟨s8.1,_,ho8,(ml R),R⟩
def Db (a1:Int) (a2:Int) (a3:Bool) (b3:Ab):Option (Ab×Int×Int) :=
 if (decide (1099511627776<=b3.Next)) then(some (b3,0,11)) else(if (decide (16<=(b3.Open.length:Int))) then(some (b3,0,8)) else((Iv b3.Toks a1 a2).bind λv4=>if (!decide (v4.2=0)) then(some (b3,0,v4.2)) else((Ik b3.Cert b3.Next b3.Store.Ts a3).bind λv5=>if (!decide (v5.2=0)) then(some (b3,0,v5.2)) else((Ku ([b3.Open,([(Ax.mk b3.Next a1 a2 b3.Store.Ts a3 (Bf.mk ([]:List Ae)))]:List Ax)]:List (List Ax))).bind λv6=>some ((Ab.mk b3.Store v5.1 v4.1 v6 (wI (b3.Next+1))),b3.Next,0)))))
def G4 (a0:Ab) (a1:Int) (a2:Int) (a3:Bool):Option (Ab×Int×Int) :=
 (G1 a0).bind λv1=>if (!v1) then(some (De,0,1)) else((J7 a0 a1).bind λv2=>if v2.2 then(if (decide (v2.1.Attempt<a2)) then((Cd a0 v2.1).bind λv7=>Db a1 a2 a3 v7) else(Db a1 a2 a3 a0)) else(Db a1 a2 a3 a0))
theorem Q3 {a0:Ab} {a1:Int} {a2:Int} {a3:Bool} {r:Ab×Int×Int} (h:G4 a0 a1 a2 a3=some r):A6 Qx0 23 [.agg (EL.el a0),.one (Ii6 a1),.one (Ii6 a2),.one (.b a3)] (·=.tup [.agg (EL.el r.1),.one (Ii6 r.2.1),.one (Ii6 r.2.2)]):=by
 refine An Tryz.func23 R (nt:=101) R (Nbl R) ?_
 intro w0 S0
 refine crs R (Bb (csr (rx 1 R ?_)))
 obtain⟨v1,hv1,h⟩:=Aa h
 refine scI R R (I4 hv1) (rsn R (ccI h R (λh=>?_) (λh=>?_)))
 ·refine crs R (crt ?_)
  cases SJ h
  exact dE R (F1 R) R
 ·refine csn (Bb (csr (rx 2 R ?_)))
  obtain⟨v2,hv2,h⟩:=Aa h
  refine scI R R (R8 hv2) (rsn R (Bb (cj3 (Ab) (λb3=>[(1,L7 (Ii6 a1)),(2,L7 (Ii6 a2)),(3,L7 (.b a3)),(4,L7 (.lp 0 0)),(8,L7 (.lp 1 0))]) (λb3=>[BE b3,.box Zba,BE v2.1]) (λb3=>Db a1 a2 a3 b3=some r) fR (λb3 h=>?_) ?_)))
  ·refine Bb (crs R (ccI h R (λh=>?_) (λh=>?_)))
   ·refine crs R (crt ?_)
    cases SJ h
    exact dE R (Bq R) R
   ·refine csn (Bb (crs R (ccI h R (λh=>?_) (λh=>?_))))
    ·refine crs R (crt ?_)
     cases SJ h
     exact dE R (Bq R) R
    ·refine csn (csr (rx 4 R ?_))
     obtain⟨v4,hv4,h⟩:=Aa h
     refine scI R R (Xc hv4) (rsn R (Bb (crs R (ccI h R (λh=>?_) (λh=>?_)))))
     ·refine crs R (crt ?_)
      cases SJ h
      exact dE R (Bq R) R
     ·refine csn (csr (rx 8 R ?_))
      obtain⟨v5,hv5,h⟩:=Aa h
      refine scI R R (Zq hv5) (rsn R (Bb (crs R (ccI h R (λh=>?_) (λh=>?_)))))
      ·refine crs R (crt ?_)
       cases SJ h
       exact dE R (Bq R) R
      ·refine csn (crs R (Bb (Aa2 ?_)))
       obtain⟨v6,hv6,h⟩:=Aa h
       refine Hs [14,15] [0,1,0,0,0,16,0,64,240,496,0,1024,3072,8191,0,32767] [[BE b3,.box Zba,BE v2.1,.box [SL v4.1.L Ad],BE v5.1,.box [Ii6 b3.Next,Ii6 a1,Ii6 a2,Ii6 b3.Store.Ts,.b a3,Znl],.hole],[BE b3,.box Zba,BE v2.1,.box [SL v4.1.L Ad],BE v5.1,.box [Ii6 b3.Next,Ii6 a1,Ii6 a2,Ii6 b3.Store.Ts,.b a3,Znl],.box Zba],[BE b3,.box Zba,BE v2.1,.box [SL v4.1.L Ad],BE v5.1,.box [Ii6 b3.Next,Ii6 a1,Ii6 a2,Ii6 b3.Store.Ts,.b a3,Znl],.box [SL b3.Store.Keys (eL eU8),SL b3.Store.Chains Al,Ii6 b3.Store.Ts,SL v5.1.Txs Az,SL v5.1.Reads.L Aj,SL v4.1.L Ad,SL v6 A7,Ii6 (wI (b3.Next+1))]]] (by kernel_rfl) mixed (by kernel_rfl) (by decide) R R R R ?_
       refine evs (md:=[BE b3,.box Zba,BE v2.1,.box [SL v4.1.L Ad],BE v5.1,.box [Ii6 b3.Next,Ii6 a1,Ii6 a2,Ii6 b3.Store.Ts,.b a3,Znl],.dead]) (λhS=>ev (Bp hS) R R (Ah Aq3 R) (ev (Bp hS) R R (lo At5 R R R) (ev (Bp hS) R R (lo Aj8 R R R) (ev (Bp hS) R R (lo Azc R R R) (ev (Bp hS) R R (Ah Aw2 R) (ev (Bp hS) R R (l1 A0u R R R) (ev (Bp hS) R R (lo Ao8 R R R) ?_))))))) ⟨⟨R,⟨R,⟨R,⟨R,⟨R,⟨R,⟨trivial,trivial⟩⟩⟩⟩⟩⟩⟩,⟨⟨R,⟨R,⟨R,⟨R,⟨R,⟨R,⟨trivial,trivial⟩⟩⟩⟩⟩⟩⟩,⟨⟨R,⟨R,⟨R,⟨R,⟨R,⟨R,⟨trivial,trivial⟩⟩⟩⟩⟩⟩⟩,trivial⟩⟩⟩
       refine ed (Bp (md:=[BE b3,.box Zba,BE v2.1,.box [SL v4.1.L Ad],BE v5.1,.box [Ii6 b3.Next,Ii6 a1,Ii6 a2,Ii6 b3.Store.Ts,.b a3,Znl],.dead]) ⟨⟨R,⟨R,⟨R,⟨R,⟨R,⟨R,⟨trivial,trivial⟩⟩⟩⟩⟩⟩⟩,⟨⟨R,⟨R,⟨R,⟨R,⟨R,⟨R,⟨trivial,trivial⟩⟩⟩⟩⟩⟩⟩,⟨⟨R,⟨R,⟨R,⟨R,⟨R,⟨R,⟨trivial,trivial⟩⟩⟩⟩⟩⟩⟩,trivial⟩⟩⟩) R R (Ahi (out':=([(Ax.mk b3.Next a1 a2 b3.Store.Ts a3 (Bf.mk ([]:List Ae)))]:List Ax).flatMap A7) Tryz.underlying38 Aue (Bo R Dh) (.cons _ _ _ _ _ _ _ R R (Nbl R) (.nil _)) R (by decide) R) ?_
       refine ed (Bp (md:=[BE b3,.box Zba,BE v2.1,.box [SL v4.1.L Ad],BE v5.1,.box [Ii6 b3.Next,Ii6 a1,Ii6 a2,Ii6 b3.Store.Ts,.b a3,Znl],.dead]) ⟨⟨R,⟨R,⟨R,⟨R,⟨R,⟨R,⟨trivial,trivial⟩⟩⟩⟩⟩⟩⟩,⟨⟨R,⟨R,⟨R,⟨R,⟨R,⟨R,⟨trivial,trivial⟩⟩⟩⟩⟩⟩⟩,⟨⟨R,⟨R,⟨R,⟨R,⟨R,⟨R,⟨trivial,trivial⟩⟩⟩⟩⟩⟩⟩,trivial⟩⟩⟩) R R (Z1 (out:=([b3.Open,([(Ax.mk b3.Next a1 a2 b3.Store.Ts a3 (Bf.mk ([]:List Ae)))]:List Ax)]:List (List Ax)).flatMap (eL A7)) Tryz.underlying246 Az7 (Bo R (Bo R Dh)) (.cons _ _ _ _ _ _ _ R R (Nbl R) (.cons _ _ _ _ _ _ _ R R (Nbl R) (.nil _))) R (by decide)) ?_
       refine ed (Bp (md:=[BE b3,.box Zba,BE v2.1,.box [SL v4.1.L Ad],BE v5.1,.box [Ii6 b3.Next,Ii6 a1,Ii6 a2,Ii6 b3.Store.Ts,.b a3,Znl],.dead]) ⟨⟨R,⟨R,⟨R,⟨R,⟨R,⟨R,⟨trivial,trivial⟩⟩⟩⟩⟩⟩⟩,⟨⟨R,⟨R,⟨R,⟨R,⟨R,⟨R,⟨trivial,trivial⟩⟩⟩⟩⟩⟩⟩,⟨⟨R,⟨R,⟨R,⟨R,⟨R,⟨R,⟨trivial,trivial⟩⟩⟩⟩⟩⟩⟩,trivial⟩⟩⟩) R R (Cf (fk R) (Af R A2) R (Vz hv6)) (ev (Bp (md:=[BE b3,.box Zba,BE v2.1,.box [SL v4.1.L Ad],BE v5.1,.box [Ii6 b3.Next,Ii6 a1,Ii6 a2,Ii6 b3.Store.Ts,.b a3,Znl],.dead]) ⟨⟨R,⟨R,⟨R,⟨R,⟨R,⟨R,⟨trivial,trivial⟩⟩⟩⟩⟩⟩⟩,⟨⟨R,⟨R,⟨R,⟨R,⟨R,⟨R,⟨trivial,trivial⟩⟩⟩⟩⟩⟩⟩,⟨⟨R,⟨R,⟨R,⟨R,⟨R,⟨R,⟨trivial,trivial⟩⟩⟩⟩⟩⟩⟩,trivial⟩⟩⟩) R R (Ah Avf R) (ev (Bp (md:=[BE b3,.box Zba,BE v2.1,.box [SL v4.1.L Ad],BE v5.1,.box [Ii6 b3.Next,Ii6 a1,Ii6 a2,Ii6 b3.Store.Ts,.b a3,Znl],.dead]) ⟨⟨R,⟨R,⟨R,⟨R,⟨R,⟨R,⟨trivial,trivial⟩⟩⟩⟩⟩⟩⟩,⟨⟨R,⟨R,⟨R,⟨R,⟨R,⟨R,⟨trivial,trivial⟩⟩⟩⟩⟩⟩⟩,⟨⟨R,⟨R,⟨R,⟨R,⟨R,⟨R,⟨trivial,trivial⟩⟩⟩⟩⟩⟩⟩,trivial⟩⟩⟩) R R (l1 ti3 R R R) (ev (Bp (md:=[BE b3,.box Zba,BE v2.1,.box [SL v4.1.L Ad],BE v5.1,.box [Ii6 b3.Next,Ii6 a1,Ii6 a2,Ii6 b3.Store.Ts,.b a3,Znl],.dead]) ⟨⟨R,⟨R,⟨R,⟨R,⟨R,⟨R,⟨trivial,trivial⟩⟩⟩⟩⟩⟩⟩,⟨⟨R,⟨R,⟨R,⟨R,⟨R,⟨R,⟨trivial,trivial⟩⟩⟩⟩⟩⟩⟩,⟨⟨R,⟨R,⟨R,⟨R,⟨R,⟨R,⟨trivial,trivial⟩⟩⟩⟩⟩⟩⟩,trivial⟩⟩⟩) R R (Agr R R) (ev (Bp (md:=[BE b3,.box Zba,BE v2.1,.box [SL v4.1.L Ad],BE v5.1,.box [Ii6 b3.Next,Ii6 a1,Ii6 a2,Ii6 b3.Store.Ts,.b a3,Znl],.dead]) ⟨⟨R,⟨R,⟨R,⟨R,⟨R,⟨R,⟨trivial,trivial⟩⟩⟩⟩⟩⟩⟩,⟨⟨R,⟨R,⟨R,⟨R,⟨R,⟨R,⟨trivial,trivial⟩⟩⟩⟩⟩⟩⟩,⟨⟨R,⟨R,⟨R,⟨R,⟨R,⟨R,⟨trivial,trivial⟩⟩⟩⟩⟩⟩⟩,trivial⟩⟩⟩) R R (O4 Axl Az8 (Bo R (Bo R (Bo R (Bo R (Bo R Dh))))) (Anp [SL b3.Store.Keys (eL eU8),SL b3.Store.Chains Al,Ii6 b3.Store.Ts,Znl,Znl,Znl,Znl,Ii6 0] R R (Nbl R) R (Anp [SL b3.Store.Keys (eL eU8),SL b3.Store.Chains Al,Ii6 b3.Store.Ts,SL v5.1.Txs Az,SL v5.1.Reads.L Aj,Znl,Znl,Ii6 0] R R (Nbl R) R (Anp [SL b3.Store.Keys (eL eU8),SL b3.Store.Chains Al,Ii6 b3.Store.Ts,SL v5.1.Txs Az,SL v5.1.Reads.L Aj,SL v4.1.L Ad,Znl,Ii6 0] R R (Nbl R) R (Anp [SL b3.Store.Keys (eL eU8),SL b3.Store.Chains Al,Ii6 b3.Store.Ts,SL v5.1.Txs Az,SL v5.1.Reads.L Aj,SL v4.1.L Ad,SL v6 A7,Ii6 0] R R (Nbl R) R (Anp [SL b3.Store.Keys (eL eU8),SL b3.Store.Chains Al,Ii6 b3.Store.Ts,SL v5.1.Txs Az,SL v5.1.Reads.L Aj,SL v4.1.L Ad,SL v6 A7,Ii6 (wI (b3.Next+1))] R R (Nbl R) R (.nil _))))))) (ee (x:=L7 (.lp 6 0)) 0 R R R R R (λζ=>?_) ?_)))))
       ·refine Lz 6 R Axl R ?_
        exact Tt
       refine ee0 1 R R R R (λζ=>?_) ?_
       ·refine rx 1 R (Pf [BE b3,.box Zba,BE v2.1,.box [SL v4.1.L Ad],BE v5.1,.box [Ii6 b3.Next,Ii6 a1,Ii6 a2,Ii6 b3.Store.Ts,.b a3,Znl],.box [SL b3.Store.Keys (eL eU8),SL b3.Store.Chains Al,Ii6 b3.Store.Ts,SL v5.1.Txs Az,SL v5.1.Reads.L Aj,SL v4.1.L Ad,SL v6 A7,Ii6 (wI (b3.Next+1))]] R ?_)
        exact Tt
       refine Abz (Ag (Bb ?_))
       refine Hs [3] [0,0,2,1,15,31] [[BE b3,.box Zba,BE v2.1,.box [SL v4.1.L Ad],BE v5.1,.box [Ii6 b3.Next,Ii6 a1,Ii6 a2,Ii6 b3.Store.Ts,.b a3,Znl],.box [SL b3.Store.Keys (eL eU8),SL b3.Store.Chains Al,Ii6 b3.Store.Ts,SL v5.1.Txs Az,SL v5.1.Reads.L Aj,SL v4.1.L Ad,SL v6 A7,Ii6 (wI (b3.Next+1))]],[BE b3,.box [SL b3.Store.Keys (eL eU8),SL b3.Store.Chains Al,Ii6 b3.Store.Ts,SL v5.1.Txs Az,SL v5.1.Reads.L Aj,SL v4.1.L Ad,SL v6 A7,Ii6 (wI (b3.Next+1))],BE v2.1,.box [SL v4.1.L Ad],BE v5.1,.box [Ii6 b3.Next,Ii6 a1,Ii6 a2,Ii6 b3.Store.Ts,.b a3,Znl],.box [SL b3.Store.Keys (eL eU8),SL b3.Store.Chains Al,Ii6 b3.Store.Ts,SL v5.1.Txs Az,SL v5.1.Reads.L Aj,SL v4.1.L Ad,SL v6 A7,Ii6 (wI (b3.Next+1))]]] (by kernel_rfl) mixed (by kernel_rfl) (by decide) R R R R ?_
       refine evs (md:=[BE b3,.dead,BE v2.1,.box [SL v4.1.L Ad],BE v5.1,.box [Ii6 b3.Next,Ii6 a1,Ii6 a2,Ii6 b3.Store.Ts,.b a3,Znl],.box [SL b3.Store.Keys (eL eU8),SL b3.Store.Chains Al,Ii6 b3.Store.Ts,SL v5.1.Txs Az,SL v5.1.Reads.L Aj,SL v4.1.L Ad,SL v6 A7,Ii6 (wI (b3.Next+1))]]) (λhS=>ev (Aw 0 R R) R R (lo Aii R R R) (ev (Bp hS) R R (Ah Ana R) (ev (Bp hS) R R (l1 ti3 R R R) (ee0 0 R R R R (λζ=>?_) ?_)))) ⟨⟨R,⟨trivial,⟨R,⟨R,⟨R,⟨R,⟨R,trivial⟩⟩⟩⟩⟩⟩⟩,⟨⟨R,⟨trivial,⟨R,⟨R,⟨R,⟨R,⟨R,trivial⟩⟩⟩⟩⟩⟩⟩,trivial⟩⟩
       ·refine rx 1 R (Pf [BE b3,.box [SL b3.Store.Keys (eL eU8),SL b3.Store.Chains Al,Ii6 b3.Store.Ts,SL v5.1.Txs Az,SL v5.1.Reads.L Aj,SL v4.1.L Ad,SL v6 A7,Ii6 (wI (b3.Next+1))],BE v2.1,.box [SL v4.1.L Ad],BE v5.1,.box [Ii6 b3.Next,Ii6 a1,Ii6 a2,Ii6 b3.Store.Ts,.b a3,Znl],.box [SL b3.Store.Keys (eL eU8),SL b3.Store.Chains Al,Ii6 b3.Store.Ts,SL v5.1.Txs Az,SL v5.1.Reads.L Aj,SL v4.1.L Ad,SL v6 A7,Ii6 (wI (b3.Next+1))]] R ?_)
        exact Tt
       refine ev (Aw 1 R R) R R (Hh R) (ev (Aw 1 R R) R R (Hh R) (Abz (Ag (Bn ?_))))
       cases SJ h
       exact dE R (Bq R) R
  ·refine Bg (rm 2 R (ssI 29 h R (λh=>?_) (λh=>?_)))
   ·refine rsn R (ccI h R (λh=>?_) (λh=>?_))
    ·refine Bg (rx 2 R ?_)
     obtain⟨v7,hv7,h⟩:=Aa h
     refine scI R R (Gp hv7) (rsn R ?_)
     exact⟨v7,_,h,(ml R),R⟩
    ·refine csn ?_
     exact⟨a0,_,h,(ml R),R⟩
   ·refine rsn R (B1 R (λhx=>Bool.noConfusion hx) (λ_=>?_))
    refine csn ?_
    exact⟨a0,_,h,(ml R),R⟩
def Fq (a0:Ab) (a1:Int):Option (Ax×Int) :=
 (G1 a0).bind λv1=>if (!v1) then(some (Om,1)) else((Dc a0 a1).bind λv2=>if (decide (v2<0)) then(some (Om,7)) else((idx a0.Open v2).bind λu3=>some (u3,0)))
theorem Lw {a0:Ab} {a1:Int} {r:Ax×Int} (h:Fq a0 a1=some r):A6 Qx0 55 [.agg (EL.el a0),.one (Ii6 a1)] (·=.tup [.agg (EL.el r.1),.one (Ii6 r.2)]):=by
 refine An Tryz.func55 R (nt:=22) R (Nbl R) ?_
 intro w0 S0
 refine crs R (Bb (csr (rx 1 R ?_)))
 obtain⟨v1,hv1,h⟩:=Aa h
 refine scI R R (I4 hv1) (rsn R (ccI h R (λh=>?_) (λh=>?_)))
 ·refine crs R (crt ?_)
  cases SJ h
  exact dE R (F1 R) R
 ·refine csn (csr (rx 2 R ?_))
  obtain⟨v2,hv2,h⟩:=Aa h
  refine scI R R (Qy hv2) (rsn R (Bb (crs R (ccI h R (λh=>?_) (λh=>?_)))))
  ·refine crs R (crt ?_)
   cases SJ h
   exact dE R (F1 R) R
  ·refine csn (csr (rx 3 R ?_))
   obtain⟨u3,hu3,h⟩:=Aa h
   refine sv R (Bl (f:=A7) Aih fR R R R R hu3) ?_
   refine sv R (A8 (ys:=[Ii6 u3.ID,Ii6 u3.Token,Ii6 u3.Attempt,Ii6 u3.Snap,.b u3.RO,SL u3.Buf.L Am]) Ao8 R (.cp _) R R) (rsn R (Bn ?_))
   cases SJ h
   exact dE R (Bq R) R
def Ck (a0:Ab) (a1:Int):Option Ab :=
 if (decide (a1=1)) then(some De) else(some a0)
theorem Hf {a0:Ab} {a1:Int} {r:Ab} (h:Ck a0 a1=some r):A6 Qx0 61 [.agg (EL.el a0),.one (Ii6 a1)] (·=.s (.agg (EL.el r))):=by
 refine An Tryz.func61 R (nt:=9) R (Nbl R) ?_
 intro w0 S0
 refine crs R (Bb (crs R (ccI h R (λh=>?_) (λh=>?_))))
 ·refine crs R (crt ?_)
  cases SJ h
  exact dE R (F1 R) R
 ·refine csn (crs R (Bn ?_))
  cases SJ h
  exact dnA R Aii R (.lp _ _ _ R) (Nbl R) R R
def Dz (a0:List UInt8) (a1:List UInt8):Option Bool :=
 some (a0==a1)
theorem M3 {a0:List UInt8} {a1:List UInt8} {r:Bool} (h:Dz a0 a1=some r):A6 Qx0 135 [.one (SL a0 eU8),.one (SL a1 eU8)] (·=L7 (.b r)):=by
 refine An Tryz.func135 R (nt:=10) R (Nbl R) ?_
 intro w0 S0
 refine crs R (csr (rm 1 R (sv R (Mw (l:=a0) Tryz.underlying56 Tryz.underlying5 Tryz.underlying9 R R R) (rm 1 R (sv R (Mw (l:=a1) Tryz.underlying56 Tryz.underlying5 Tryz.underlying9 R R R) (sv R (Wt R R) (rsn R (Bn ?_))))))))
 cases SJ h
 exact dnT R R R R
def R4 (b1:Unit):Option (Ae×Bool) :=
 some ((Ae.mk ([]:List UInt8) ([]:List UInt8) false),false)
def F0 (a0:Bf) (a1:List UInt8) (s2:Int):Option (LR (Int) (Unit) (Ae×Bool)) :=
 if (decide (s2<(a0.L.length:Int))) then((idx a0.L s2).bind λu3=>(Dz u3.Key a1).bind λv4=>if v4 then(some (.ret (u3,true))) else(some (.cont (wI (s2+1))))) else(some (.brk ()))
def I5 (a0:Bf) (a1:List UInt8):Option (Ae×Bool) :=
 (Gj (F0 a0 a1) fuel 0).bind λx=>match x with | .inl r=>some r | .inr e5=>R4 e5
theorem Y4 {a0:Bf} {a1:List UInt8} {r:Ae×Bool} (h:I5 a0 a1=some r):A6 Qx0 63 [.agg [SL a0.L Am],.one (SL a1 eU8)] (·=.tup [.agg (EL.el r.1),.one (.b r.2)]):=by
 refine An Tryz.func63 R (nt:=22) R (Nbl R) ?_
 intro w0 S0
 refine crs R (Bb (crs R (cj (Unit) (λb1=>[(4,L7 (.lp 1 0))]) (λb1=>[.box [SL a0.L Am],.box [Znl,Znl,.b false]]) (λb1=>R4 b1=some r) fR (λb1 h=>?_) ?_)))
 ·refine crs R (Bn ?_)
  cases SJ h
  exact dE R (F1 R) R
 ·refine Bh ?_
  obtain⟨x2,hx2,ho2⟩:=Aa h
  refine lpn (α:=Int) (λg=>[(1,L7 (SL a1 eU8)),(4,L7 (.lp 1 0)),(9,L7 (SL a0.L Am)),(10,L7 (Ii6 (a0.L.length:Int))),(11,L7 (Ii6 g.2))]) (λg=>[.box [SL a0.L Am],.box [Znl,Znl,.b false]]) (λg=>Gj (F0 a0 a1) g.1 g.2=some x2) (fuel,0) hx2 R R fR ?_
  rintro⟨n2,s2⟩ h
  obtain⟨n2,y2,rfl,h,hk2⟩:=Ct h
  refine crs R (Bb (ccI h R (λh=>?_) (λh=>?_)))
  ·refine csn (csb ?_)
   obtain⟨u3,hu3,h⟩:=Aa h
   refine sv R (Bl (f:=Am) Ag5 fR R R R R hu3) ?_
   refine sv R (A8 (ys:=[SL u3.Key eU8,SL u3.Val eU8,.b u3.Del]) Auj R (.cp _) R R) (rsn R (csr (rx 3 R ?_)))
   obtain⟨v4,hv4,h⟩:=Aa h
   refine scI R R (M3 hv4) (Oy (ccI h R (λh=>?_) (λh=>?_)))
   ·refine crs R (Bn (br5 ?_))
    cases SJ h
    obtain rfl:Sum.inl _=x2:=hk2
    obtain rfl:=zD ho2
    exact dE R (Bq R) R
   ·refine cbn (cgs R ?_)
    cases SJ h
    exact lx (n2,(wI (s2+1))) hk2 R R
  ·refine cx5 ?_
   cases SJ h
   obtain rfl:_=x2:=hk2
   exact⟨(),_,ho2,(ml R),R⟩
def Lh (a0:Int) (b1:Unit):Option (List UInt8) :=
 if (decide (0<(wI (a0-(wI (0-0)))))) then(if 0<(wI (a0-(wI (0-0))))/\(wI (a0-(wI (0-0))))*((1:Nat):Int)<=281474976710656 then(if (0:Int)<=0/\0<=((List.replicate (wI (a0-(wI (0-0)))).toNat (0:UInt8)).length:Int) then(some ((List.replicate (wI (a0-(wI (0-0)))).toNat (0:UInt8)).take (0:Int).toNat)) else none) else none) else(some ([]:List UInt8))
def K6 (a0:Int):Option (List UInt8) :=
 if (decide (a0<0)) then none else(Lh a0 ())
theorem V2 {a0:Int} {r:(List UInt8)} (h:K6 a0=some r):Cv Qx0 206 [] [.one (Znl),.one (Ii6 a0)] (λy m'=>y=L7 (.ls 0 r.length)/\m'=[.arr 5 1 0 (r.flatMap eU8)]):=by
 refine Cs Tryz.func206 R (nt:=27) R (Nbl R) ?_
 intro w0 S0 X0 H0
 refine crs R (Bb (crs R (cj (Unit) (λb1=>[(0,L7 (Znl)),(1,L7 (Ii6 a0))]) (λb1=>[]) (λb1=>Lh a0 b1=some r) fR (λb1 h=>?_) ?_)))
 ·refine Bb (csr (rm 2 R (sv R (E7 Ai5 R) (rm 1 R (sv R (Ef Ai5 R) (rsn R (crs R (ccI h R (λh=>?_) (λh=>?_)))))))))
  ·refine Bg (rm 2 R (sv R (E7 Ai5 R) (sv R (Kw Ai5 R R) (rx 1 R ?_))))
   obtain⟨hm2,h⟩:=B5 h
   refine Avo (f:=eU8) (z:=(0:UInt8)) R Tryz.underlying56 ei5 Tryz.underlying3 fR R R R hm2 (by decide) ?_
   refine rm 1 R (sv R (Ef Ai5 R) ?_)
   obtain⟨hs3,h⟩:=B5 h
   refine Ab0 (f:=eU8) R Ai5 fR R R R R R hs3 ?_
   refine rsn R (crs R (Bn ?_))
   cases SJ h
   exact⟨Or.inr R,_,[1],[.one (.ls 0 ((List.replicate (wI (a0-(wI (0-0)))).toNat (0:UInt8)).take (0:Int).toNat).length)],[.arr 5 1 0 (((List.replicate (wI (a0-(wI (0-0)))).toNat (0:UInt8)).take (0:Int).toNat).flatMap eU8)],(Au (rt R) A4),R,R,⟨by decide,R⟩,R,R,⟨R,R⟩⟩
  ·refine csn (crs R ?_)
   refine Cq 5 1 4 (by decide) R ?_
   refine Bn ?_
   cases SJ h
   exact⟨Or.inr R,_,[0],[.one (.ls 0 ([]:List UInt8).length)],[.arr 5 1 0 (([]:List UInt8).flatMap eU8)],(Au (rt R) A4),R,R,⟨by decide,R⟩,R,R,⟨R,R⟩⟩
 ·refine ccI h R (λh=>?_) (λh=>?_)
  ·cases h
  ·refine csn ?_
   exact⟨(),_,h,(ml R),R⟩
def Nt (b3:(List UInt8)):Option (List UInt8) :=
 some b3
def Ec (a0:List (List UInt8)) (s4:Int×(List UInt8)):Option (LB (Int×(List UInt8)) ((List UInt8))) :=
 if (decide (s4.1<(a0.length:Int))) then((idx a0 s4.1).bind λu5=>if (s4.2.length+u5.length)*1<=140737488355328 then(some (.cont ((wI (s4.1+1)),(s4.2++u5)))) else none) else(some (.brk s4.2))
def I8 (a0:List (List UInt8)) (b1:Int):Option (List UInt8) :=
 (K6 b1).bind λv2=>(B8 (Ec a0) fuel (0,v2)).bind λe7=>Nt e7
def D7 (a0:List (List UInt8)) (s8:Int×Int):Option (LB (Int×Int) (Int)) :=
 if (decide (s8.2<(a0.length:Int))) then((idx a0 s8.2).bind λu9=>if (decide ((wI (s8.1+(u9.length:Int)))<0)) then none else(some (.cont ((wI (s8.1+(u9.length:Int))),(wI (s8.2+1)))))) else(some (.brk s8.1))
def Ih (a0:List (List UInt8)):Option (List UInt8) :=
 (B8 (D7 a0) fuel (0,0)).bind λe10=>I8 a0 e10
theorem Um {a0:List (List UInt8)} {r:(List UInt8)} (h:Ih a0=some r):Cv Qx0 137 [] [.one (SL a0 (eL eU8))] (λy m'=>y=L7 (.ls 0 r.length)/\m'=[.arr 5 1 0 (r.flatMap eU8)]):=by
 refine Cs Tryz.func137 R (nt:=36) R (Nbl R) ?_
 intro w0 S0 X0 H0
 refine crs R (crs R (Bb (crs R (cj (Int) (λb1=>[(0,L7 (SL a0 (eL eU8))),(3,L7 (Ii6 b1))]) (λb1=>[]) (λb1=>I8 a0 b1=some r) fR (λb1 h=>?_) ?_))))
 ·refine csr (rx 1 R ?_)
  obtain⟨v2,hv2,h⟩:=Aa h
  refine Gi (x':=L7 (.ls 0 v2.length)) (M':=[.arr 5 1 0 (v2.flatMap eU8)]) [] R (fk R) (.func _) (Af R (Af R A2)) (V2 hv2) R R (by decide) R R R ?_
  refine rsn R (Bb (crs R (cj ((List UInt8)) (λb3=>[(6,L7 (.ls 0 b3.length))]) (λb3=>[.arr 5 1 0 (b3.flatMap eU8)]) (λb3=>Nt b3=some r) fR (λb3 h=>?_) ?_)))
  ·refine crs R (Bn ?_)
   obtain rfl:=SJ h
   exact⟨Or.inr R,_,[0],[.one (.ls 0 b3.length)],[.arr 5 1 0 (b3.flatMap eU8)],(Au (rt R) A4),R,R,⟨by decide,R⟩,R,R,⟨R,R⟩⟩
  ·refine Bh ?_
   obtain⟨x4,hx4,ho4⟩:=Aa h
   refine lpn (α:=Int×(List UInt8)) (λg=>[(6,L7 (.ls 0 g.2.2.length)),(25,L7 (SL a0 (eL eU8))),(26,L7 (Ii6 (a0.length:Int))),(27,L7 (Ii6 g.2.1))]) (λg=>[.arr 5 1 0 (g.2.2.flatMap eU8)]) (λg=>B8 (Ec a0) g.1 g.2=some x4) (fuel,(0,v2)) hx4 R R fR ?_
   rintro⟨n4,s4⟩ h
   obtain⟨n4,y4,rfl,h,hk4⟩:=Cb h
   refine crs R (Bb (ccI h R (λh=>?_) (λh=>?_)))
   ·refine csn (csb ?_)
    obtain⟨u5,hu5,h⟩:=Aa h
    refine sv R (Bl (f:=(eL eU8)) Ab4 fR R R R R hu5) ?_
    refine rsn R (Bg (rx 2 R ?_))
    obtain⟨hb6,h⟩:=B5 h
    refine Tp (f:=eU8) (xs:=s4.2) (us:=u5) R Tryz.underlying56 ei5 A0v fR R R (.one _ _ _ _ (.id _ R)) R R R (.sl _ _ _ (Aq (f:=eU8) fR _)) R R hb6 (by decide) ?_
    refine rm 1 R (Fi (A0 (Ag (cgs R ?_))))
    cases SJ h
    exact lx (n4,((wI (s4.1+1)),(s4.2++u5))) hk4 R R
   ·refine cx5 ?_
    cases SJ h
    obtain rfl:_=x4:=hk4
    exact⟨s4.2,_,ho4,(ml R),R⟩
 ·refine Bh ?_
  obtain⟨x8,hx8,ho8⟩:=Aa h
  refine lpn (α:=Int×Int) (λg=>[(0,L7 (SL a0 (eL eU8))),(3,L7 (Ii6 g.2.1)),(9,L7 (SL a0 (eL eU8))),(10,L7 (Ii6 (a0.length:Int))),(11,L7 (Ii6 g.2.2))]) (λg=>[]) (λg=>B8 (D7 a0) g.1 g.2=some x8) (fuel,(0,0)) hx8 R R fR ?_
  rintro⟨n8,s8⟩ h
  obtain⟨n8,y8,rfl,h,hk8⟩:=Cb h
  refine crs R (Bb (ccI h R (λh=>?_) (λh=>?_)))
  ·refine csn (csb ?_)
   obtain⟨u9,hu9,h⟩:=Aa h
   refine sv R (Bl (f:=(eL eU8)) Ab4 fR R R R R hu9) ?_
   refine rsn R (crs R (crs R (ccI h R (λh=>?_) (λh=>?_))))
   ·cases h
   ·refine cbn (cgs R ?_)
    cases SJ h
    exact lx (n8,((wI (s8.1+(u9.length:Int))),(wI (s8.2+1)))) hk8 R R
  ·refine cx5 ?_
   cases SJ h
   obtain rfl:_=x8:=hk8
   exact⟨s8.1,_,ho8,(ml R),R⟩
def Rt (a0:List UInt8):Option Ar :=
 (Ih [a0,[(UInt8.ofBitVec (0#8))]]).bind λv1=>some (Ar.mk a0 v1 false)
theorem Aa4 {a0:List UInt8} {r:Ar} (h:Rt a0=some r):A6 Qx0 65 [.one (SL a0 eU8)] (·=.s (.agg (EL.el r))):=by
 refine An Tryz.func65 R (nt:=9) R (Nbl R) ?_
 intro w0 S0
 refine crs R (csr (rx 2 R ?_))
 refine Eg R Tryz.underlying56 ei5 R R (zL.1 R) (by decide) ?_
 refine Pf [.box [Znl,Znl,.b false],.arr 5 1 0 ([(UInt8.ofBitVec (0#8))].flatMap eU8)] R ?_
 refine Ahd 5 R (by(repeat' first|exact W6.nil _|apply W6.cons|apply Xk.one|apply Xk.agg|exact Oe.nil|exact Oe.ls _ _ _ _ _ _ R (Aq (f:=eU8) fR ([(UInt8.ofBitVec (0#8))]:List UInt8)).symm|exact Oe.ls _ _ _ _ _ _ R (Aq (f:=eU8) fR _).symm|exact Oe.id _ R|exact Qe.nil _|apply Qe.cons)) ?_
 refine Agi (out:=([a0,[(UInt8.ofBitVec (0#8))]]:List (List UInt8)).flatMap (eL eU8)) R Tryz.underlying25 Ae9 (Bo R (Bo R Dh)) (.cons _ _ _ _ _ _ _ R R (Nbl R) (.cons _ _ _ _ _ _ _ R R (Nbl R) (.nil _))) R (by decide) ?_
 refine Ahd 6 R (by(repeat' first|exact W6.nil _|apply W6.cons|apply Xk.one|apply Xk.agg|exact Oe.nil|exact Oe.ls _ _ _ _ _ _ R (Aq (f:=(eL eU8)) fR ([a0,[(UInt8.ofBitVec (0#8))]]:List (List UInt8))).symm|exact Oe.ls _ _ _ _ _ _ R (Aq (f:=(eL eU8)) fR _).symm|exact Oe.ls _ _ _ _ _ _ R (Aq (f:=eU8) fR _).symm|exact Oe.id _ R|exact Qe.nil _|apply Qe.cons)) ?_
 obtain⟨v1,hv1,h⟩:=Aa h
 refine Gi (x':=L7 (.ls 3 v1.length)) (M':=[.box [Znl,Znl,.b false],.arr 5 1 ([(UInt8.ofBitVec (0#8))].flatMap eU8).length ([(UInt8.ofBitVec (0#8))].flatMap eU8),.arr 56 1 ([a0,[(UInt8.ofBitVec (0#8))]].flatMap (eL eU8)).length ([a0,[(UInt8.ofBitVec (0#8))]].flatMap (eL eU8)),.arr 5 1 0 (v1.flatMap eU8)]) [] R (fk R) (.func _) (Af R A2) (Um hv1) R R (by decide) R R R ?_
 refine rsn R (Bn ?_)
 cases SJ h
 refine⟨Or.inr R,_,_,_,(Au (ra Asq R R R) A4),pb,?_⟩
 rfl
def Lm (a0:Int) (b1:Unit):Option (List Ap) :=
 if (decide (0<(wI (a0-(wI (0-0)))))) then(if 0<(wI (a0-(wI (0-0))))/\(wI (a0-(wI (0-0))))*((64:Nat):Int)<=281474976710656 then(if (0:Int)<=0/\0<=((List.replicate (wI (a0-(wI (0-0)))).toNat Ql).length:Int) then(some ((List.replicate (wI (a0-(wI (0-0)))).toNat Ql).take (0:Int).toNat)) else none) else none) else(some ([]:List Ap))
def Kx (a0:Int):Option (List Ap) :=
 if (decide (a0<0)) then none else(Lm a0 ())
theorem Vr {a0:Int} {r:(List Ap)} (h:Kx a0=some r):Cv Qx0 268 [] [.one (Znl),.one (Ii6 a0)] (λy m'=>y=L7 (.ls 0 r.length)/\m'=[.arr 142 4 0 (r.flatMap Aj)]):=by
 refine Cs Tryz.func268 R (nt:=27) R (Nbl R) ?_
 intro w0 S0 X0 H0
 refine crs R (Bb (crs R (cj (Unit) (λb1=>[(0,L7 (Znl)),(1,L7 (Ii6 a0))]) (λb1=>[]) (λb1=>Lm a0 b1=some r) fR (λb1 h=>?_) ?_)))
 ·refine Bb (csr (rm 2 R (sv R (E7 Aie R) (rm 1 R (sv R (Ef Aie R) (rsn R (crs R (ccI h R (λh=>?_) (λh=>?_)))))))))
  ·refine Bg (rm 2 R (sv R (E7 Aie R) (sv R (Kw Aie R R) (rx 1 R ?_))))
   obtain⟨hm2,h⟩:=B5 h
   refine Ahq (f:=Aj) (z:=Ql) R Tryz.underlying30 Anf Tryz.underlying3 fR R R R hm2 (by decide) ?_
   refine rm 1 R (sv R (Ef Aie R) ?_)
   obtain⟨hs3,h⟩:=B5 h
   refine Ab0 (f:=Aj) R Aie fR R R R R R hs3 ?_
   refine rsn R (crs R (Bn ?_))
   cases SJ h
   exact⟨Or.inr R,_,[1],[.one (.ls 0 ((List.replicate (wI (a0-(wI (0-0)))).toNat Ql).take (0:Int).toNat).length)],[.arr 142 4 0 (((List.replicate (wI (a0-(wI (0-0)))).toNat Ql).take (0:Int).toNat).flatMap Aj)],(Au (rt R) A4),R,R,⟨by decide,R⟩,R,R,⟨R,R⟩⟩
  ·refine csn (crs R ?_)
   refine Cq 142 4 4 (by decide) R ?_
   refine Bn ?_
   cases SJ h
   exact⟨Or.inr R,_,[0],[.one (.ls 0 ([]:List Ap).length)],[.arr 142 4 0 (([]:List Ap).flatMap Aj)],(Au (rt R) A4),R,R,⟨by decide,R⟩,R,R,⟨R,R⟩⟩
 ·refine ccI h R (λh=>?_) (λh=>?_)
  ·cases h
  ·refine csn ?_
   exact⟨(),_,h,(ml R),R⟩
def Nu (b3:(List Ap)):Option (List Ap) :=
 some b3
def D8 (a0:List (List Ap)) (s4:Int×(List Ap)):Option (LB (Int×(List Ap)) ((List Ap))) :=
 if (decide (s4.1<(a0.length:Int))) then((idx a0 s4.1).bind λu5=>if (s4.2.length+u5.length)*64<=140737488355328 then(some (.cont ((wI (s4.1+1)),(s4.2++u5)))) else none) else(some (.brk s4.2))
def Jb (a0:List (List Ap)) (b1:Int):Option (List Ap) :=
 (Kx b1).bind λv2=>(B8 (D8 a0) fuel (0,v2)).bind λe7=>Nu e7
def Ed (a0:List (List Ap)) (s8:Int×Int):Option (LB (Int×Int) (Int)) :=
 if (decide (s8.2<(a0.length:Int))) then((idx a0 s8.2).bind λu9=>if (decide ((wI (s8.1+(u9.length:Int)))<0)) then none else(some (.cont ((wI (s8.1+(u9.length:Int))),(wI (s8.2+1)))))) else(some (.brk s8.1))
def F9 (a0:List (List Ap)):Option (List Ap) :=
 (B8 (Ed a0) fuel (0,0)).bind λe10=>Jb a0 e10
theorem Tz {a0:List (List Ap)} {r:(List Ap)} (h:F9 a0=some r):Cv Qx0 250 [] [.one (SL a0 (eL Aj))] (λy m'=>y=L7 (.ls 0 r.length)/\m'=[.arr 142 4 0 (r.flatMap Aj)]):=by
 refine Cs Tryz.func250 R (nt:=36) R (Nbl R) ?_
 intro w0 S0 X0 H0
 refine crs R (crs R (Bb (crs R (cj (Int) (λb1=>[(0,L7 (SL a0 (eL Aj))),(3,L7 (Ii6 b1))]) (λb1=>[]) (λb1=>Jb a0 b1=some r) fR (λb1 h=>?_) ?_))))
 ·refine csr (rx 1 R ?_)
  obtain⟨v2,hv2,h⟩:=Aa h
  refine Gi (x':=L7 (.ls 0 v2.length)) (M':=[.arr 142 4 0 (v2.flatMap Aj)]) [] R (fk R) (.func _) (Af R (Af R A2)) (Vr hv2) R R (by decide) R R R ?_
  refine rsn R (Bb (crs R (cj ((List Ap)) (λb3=>[(6,L7 (.ls 0 b3.length))]) (λb3=>[.arr 142 4 0 (b3.flatMap Aj)]) (λb3=>Nu b3=some r) fR (λb3 h=>?_) ?_)))
  ·refine crs R (Bn ?_)
   obtain rfl:=SJ h
   exact⟨Or.inr R,_,[0],[.one (.ls 0 b3.length)],[.arr 142 4 0 (b3.flatMap Aj)],(Au (rt R) A4),R,R,⟨by decide,R⟩,R,R,⟨R,R⟩⟩
  ·refine Bh ?_
   obtain⟨x4,hx4,ho4⟩:=Aa h
   refine lpn (α:=Int×(List Ap)) (λg=>[(6,L7 (.ls 0 g.2.2.length)),(25,L7 (SL a0 (eL Aj))),(26,L7 (Ii6 (a0.length:Int))),(27,L7 (Ii6 g.2.1))]) (λg=>[.arr 142 4 0 (g.2.2.flatMap Aj)]) (λg=>B8 (D8 a0) g.1 g.2=some x4) (fuel,(0,v2)) hx4 R R fR ?_
   rintro⟨n4,s4⟩ h
   obtain⟨n4,y4,rfl,h,hk4⟩:=Cb h
   refine crs R (Bb (ccI h R (λh=>?_) (λh=>?_)))
   ·refine csn (csb ?_)
    obtain⟨u5,hu5,h⟩:=Aa h
    refine sv R (Bl (f:=(eL Aj)) Awo fR R R R R hu5) ?_
    refine rsn R (Bg (rx 2 R ?_))
    obtain⟨hb6,h⟩:=B5 h
    refine Tp (f:=Aj) (xs:=s4.2) (us:=u5) R Tryz.underlying30 Anf Azm fR R R (.one _ _ _ _ (.id _ R)) R R R (.sl _ _ _ (Aq (f:=Aj) fR _)) R R hb6 (by decide) ?_
    refine rm 1 R (Fi (A0 (Ag (cgs R ?_))))
    cases SJ h
    exact lx (n4,((wI (s4.1+1)),(s4.2++u5))) hk4 R R
   ·refine cx5 ?_
    cases SJ h
    obtain rfl:_=x4:=hk4
    exact⟨s4.2,_,ho4,(ml R),R⟩
 ·refine Bh ?_
  obtain⟨x8,hx8,ho8⟩:=Aa h
  refine lpn (α:=Int×Int) (λg=>[(0,L7 (SL a0 (eL Aj))),(3,L7 (Ii6 g.2.1)),(9,L7 (SL a0 (eL Aj))),(10,L7 (Ii6 (a0.length:Int))),(11,L7 (Ii6 g.2.2))]) (λg=>[]) (λg=>B8 (Ed a0) g.1 g.2=some x8) (fuel,(0,0)) hx8 R R fR ?_
  rintro⟨n8,s8⟩ h
  obtain⟨n8,y8,rfl,h,hk8⟩:=Cb h
  refine crs R (Bb (ccI h R (λh=>?_) (λh=>?_)))
  ·refine csn (csb ?_)
   obtain⟨u9,hu9,h⟩:=Aa h
   refine sv R (Bl (f:=(eL Aj)) Awo fR R R R R hu9) ?_
   refine rsn R (crs R (crs R (ccI h R (λh=>?_) (λh=>?_))))
   ·cases h
   ·refine cbn (cgs R ?_)
    cases SJ h
    exact lx (n8,((wI (s8.1+(u9.length:Int))),(wI (s8.2+1)))) hk8 R R
  ·refine cx5 ?_
   cases SJ h
   obtain rfl:_=x8:=hk8
   exact⟨s8.1,_,ho8,(ml R),R⟩
def N6 (a0:Be) (a1:Int) (a2:Ar) (b1:Unit):Option (Be×Int) :=
 (Ia a0.L).bind λv2=>(Jf (Ap.mk a1 a2)).bind λv3=>if (Adr v2 v3) then(some ((Be.mk a0.L),0)) else(if (decide (128<=(a0.L.length:Int))) then(some ((Be.mk ([]:List Ap)),8)) else((F9 [a0.L,[(Ap.mk a1 a2)]]).bind λv4=>some ((Be.mk v4),0)))
def Hb (a0:Be) (a1:Int) (a2:Ar):Option (Be×Int) :=
 (Gd (Be.mk a0.L)).bind λv5=>if (!v5) then(some ((Be.mk ([]:List Ap)),1)) else((Dd (Ap.mk a1 a2)).bind λv6=>if (!v6) then(some ((Be.mk ([]:List Ap)),1)) else(N6 a0 a1 a2 ()))
theorem Y6 {a0:Be} {a1:Int} {a2:Ar} {r:Be×Int} (h:Hb a0 a1 a2=some r):A6 Qx0 199 [.agg [SL a0.L Aj],.one (Ii6 a1),.agg (EL.el a2)] (·=.tup [.agg [SL r.1.L Aj],.one (Ii6 r.2)]):=by
 refine An Tryz.func199 R (nt:=46) R (Nbl R) ?_
 intro w0 S0
 refine crs R (crs R (Bb (Bb (cj3 (Unit) (λb1=>[(3,L7 (.lp 0 0)),(6,L7 (.lp 2 0)),(8,L7 (.lp 3 0))]) (λb1=>[.box [SL a0.L Aj],BE a2,.box [Znl],.box [Ii6 a1,SL a2.Lo eU8,SL a2.Hi eU8,.b a2.Open]]) (λb1=>N6 a0 a1 a2 b1=some r) fR (λb1 h=>?_) ?_))))
 ·refine Bb (Bb (Aa2 ?_))
  obtain⟨v2,hv2,h⟩:=Aa h
  obtain⟨v3,hv3,h⟩:=Aa h
  refine Hs [2] [0,1,3,0,15,31,63,127,127,255,1023] [[.box [SL a0.L Aj],BE a2,.box [Znl],.box [Ii6 a1,SL a2.Lo eU8,SL a2.Hi eU8,.b a2.Open],.hole],[.box [SL a0.L Aj],BE a2,.box [Znl],.box [Ii6 a1,SL a2.Lo eU8,SL a2.Hi eU8,.b a2.Open],U3 C6 v2]] (by kernel_rfl) mixed (by kernel_rfl) (by decide) R R R R ?_
  refine ev (Aw 0 R R) R R (Ah Ael R) (ev (Aw 0 R R) R R (l1 Au0 R R R) (ee (x:=L7 (.mp 0 4)) 0 R R R R R (λζ=>?_) ?_))
  ·refine Aex 4 R (fk R) (.func _) (Af R A2) (Qp hv2) R R R ?_
   exact Tt
  refine ev (Bp (md:=[.box [SL a0.L Aj],BE a2,.box [Znl],.box [Ii6 a1,SL a2.Lo eU8,SL a2.Hi eU8,.b a2.Open],.dead]) ⟨⟨R,⟨R,⟨R,⟨R,⟨trivial,trivial⟩⟩⟩⟩⟩,⟨⟨R,⟨R,⟨R,⟨R,⟨trivial,trivial⟩⟩⟩⟩⟩,trivial⟩⟩) R R (lo Amz R R R) (ed (Aw 1 R R) R R (Cf (fk R) (Af R A2) R (Pl hv3)) (ev (Aw 1 R R) R R (Ajf (M:=v2) (k:=v3) Awc Tryz.underlying299 zv3 R R R) (ev (Aw 1 R R) R R (Wf R) (ev (Aw 1 R R) R R (Ei R R) (ev (Aw 1 R R) R R (Ei R R) (ev (Aw 1 R R) R R (Hh R) (ev (Aw 1 R R) R R (Hh R) (Abz (Ag (crs R (ccI h R (λh=>?_) (λh=>?_))))))))))))
  ·refine crs R (crt ?_)
   cases SJ h
   exact dE R (Bq R) R
  ·refine csn (Bb (crs R (ccI h R (λh=>?_) (λh=>?_))))
   ·refine crs R (crt ?_)
    cases SJ h
    exact dE R (F1 R) R
   ·refine csn (csr (rx 3 R ?_))
    refine Eg R Tryz.underlying30 Anf R R (zL.1 R) (by decide) ?_
    refine Pf [.box [SL a0.L Aj],BE a2,.box [Znl],.box [Ii6 a1,SL a2.Lo eU8,SL a2.Hi eU8,.b a2.Open],U3 C6 v2,.arr 142 4 0 ([(Ap.mk a1 a2)].flatMap Aj)] R ?_
    refine Ahd 42 R (by(repeat' first|exact W6.nil _|apply W6.cons|apply Xk.one|apply Xk.agg|exact Oe.nil|exact Oe.ls _ _ _ _ _ _ R (Aq (f:=Aj) fR ([(Ap.mk a1 a2)]:List Ap)).symm|exact Oe.ls _ _ _ _ _ _ R (Aq (f:=Aj) fR _).symm|exact Oe.id _ R|exact Qe.nil _|apply Qe.cons)) ?_
    refine Agi (out:=([a0.L,[(Ap.mk a1 a2)]]:List (List Ap)).flatMap (eL Aj)) R Tryz.underlying396 Azy (Bo R (Bo R Dh)) (.cons _ _ _ _ _ _ _ R R (Nbl R) (.cons _ _ _ _ _ _ _ R R (Nbl R) (.nil _))) R (by decide) ?_
    refine Ahd 43 R (by(repeat' first|exact W6.nil _|apply W6.cons|apply Xk.one|apply Xk.agg|exact Oe.nil|exact Oe.ls _ _ _ _ _ _ R (Aq (f:=(eL Aj)) fR ([a0.L,[(Ap.mk a1 a2)]]:List (List Ap))).symm|exact Oe.ls _ _ _ _ _ _ R (Aq (f:=(eL Aj)) fR _).symm|exact Oe.ls _ _ _ _ _ _ R (Aq (f:=Aj) fR _).symm|exact Oe.id _ R|exact Qe.nil _|apply Qe.cons)) ?_
    obtain⟨v4,hv4,h⟩:=Aa h
    refine Gi (x':=L7 (.ls 7 v4.length)) (M':=[.box [SL a0.L Aj],BE a2,.box [Znl],.box [Ii6 a1,SL a2.Lo eU8,SL a2.Hi eU8,.b a2.Open],U3 C6 v2,.arr 142 4 ([(Ap.mk a1 a2)].flatMap Aj).length ([(Ap.mk a1 a2)].flatMap Aj),.arr 30 1 ([a0.L,[(Ap.mk a1 a2)]].flatMap (eL Aj)).length ([a0.L,[(Ap.mk a1 a2)]].flatMap (eL Aj)),.arr 142 4 0 (v4.flatMap Aj)]) [] R (fk R) (.func _) (Af R A2) (Tz hv4) R R (by decide) R R R ?_
    refine rsn R (Bn ?_)
    cases SJ h
    refine⟨Or.inr R,_,_,_,(Au (ra Awm R R R) (Au (rt R) A4)),pb,?_⟩
    rfl
 ·refine Bg (rx 1 R ?_)
  obtain⟨v5,hv5,h⟩:=Aa h
  refine scI R R (Se hv5) (rx 2 R (ssI 17 h R (λh=>?_) (λh=>?_)))
  ·refine rsn R (B1 R (λ_=>?_) (λhx=>Bool.noConfusion hx))
   refine crs R (crt ?_)
   cases SJ h
   exact dE R (F1 R) R
  ·refine rx 1 R (son R R R ?_)
   obtain⟨v6,hv6,h⟩:=Aa h
   refine scI R R (Oq hv6) (rsn R (ccI h R (λh=>?_) (λh=>?_)))
   ·refine crs R (crt ?_)
    cases SJ h
    exact dE R (F1 R) R
   ·refine csn ?_
    exact⟨(),_,h,(ml R),R⟩
def Dk (a0:List Ao):Option (List Ao) :=
 if (([]:List Ao).length+a0.length)*64<=140737488355328 then(some (([]:List Ao)++a0)) else none
theorem Pr {a0:List Ao} {r:(List Ao)} (h:Dk a0=some r):Cv Qx0 200 [] [.one (SL a0 Az)] (λy m'=>y=L7 (.ls 0 r.length)/\m'=[.arr 139 8 0 (r.flatMap Az)]):=by
 refine Cs Tryz.func200 R (nt:=8) R (Nbl R) ?_
 intro w0 S0 X0 H0
 refine crs R (Bb (csr (rm 1 R (Ab6 R Tryz.underlying29 R (λnq hnq=>?_)))))
 cases nq
 ·refine Oy (B1 R (λhx=>Bool.noConfusion hx) (λ_=>?_))
  refine csn (csr (Sz R Tryz.underlying29 Agn (rx 1 R ?_)))
  obtain⟨hb1,h⟩:=B5 h
  refine Tp (f:=Az) (xs:=([]:List Ao)) (us:=a0) R Tryz.underlying29 Agn Ax3 fR R R (.one _ _ _ _ (.id _ R)) R R R (.sl _ _ _ (Aq (f:=Az) fR _)) R R hb1 (by decide) ?_
  refine rsn R (Bn ?_)
  cases SJ h
  exact⟨Or.inr R,_,[0],[.one (.ls 0 (([]:List Ao)++a0).length)],[.arr 139 8 0 ((([]:List Ao)++a0).flatMap Az)],(Au (rt R) A4),R,R,⟨by decide,R⟩,R,R,⟨R,R⟩⟩
 ·obtain rfl:=z7 (hnq rfl)
  replace h:(some ([]:List Ao))=some r:=by first|exact h|(rw[if_pos (by decide)] at h;exact h)
  refine Oy (B1 R (λ_=>?_) (λhx=>Bool.noConfusion hx))
  refine crs R ?_
  refine Cq 139 8 2 (by decide) R ?_
  refine crt ?_
  cases SJ h
  exact⟨Or.inr R,_,[0],[.one (.ls 0 ([]:List Ao).length)],[.arr 139 8 0 (([]:List Ao).flatMap Az)],(Au (rt R) A4),R,R,⟨by decide,R⟩,R,R,⟨R,R⟩⟩
def L2 (a0:Ao) (a1:Ao):Option Bool :=
 if (decide (a0.State=2)) then(some (decide (a0.End<=a1.Begin))) else(some false)
theorem Tg {a0:Ao} {a1:Ao} {r:Bool} (h:L2 a0 a1=some r):A6 Qx0 251 [.agg (EL.el a0),.agg (EL.el a1)] (·=L7 (.b r)):=by
 refine An Tryz.func251 R (nt:=15) R (Nbl R) ?_
 intro w0 S0
 refine crs R (csr (rx 4 R (ssI 8 h R (λh=>?_) (λh=>?_))))
 ·refine rsn R (Bn ?_)
  cases SJ h
  exact dnT R R R R
 ·refine rsn R (Bn ?_)
  cases SJ h
  exact dnT R R R R
def Ey (a0:Ao) (a1:Ao):Option Bool :=
 (L2 a0 a1).bind λv1=>if (!v1) then((L2 a1 a0).bind λv2=>some (!v2)) else(some false)
theorem Oc {a0:Ao} {a1:Ao} {r:Bool} (h:Ey a0 a1=some r):A6 Qx0 201 [.agg (EL.el a0),.agg (EL.el a1)] (·=L7 (.b r)):=by
 refine An Tryz.func201 R (nt:=15) R (Nbl R) ?_
 intro w0 S0
 refine crs R (csr (rx 2 R ?_))
 obtain⟨v1,hv1,h⟩:=Aa h
 refine scI R R (Tg hv1) (rx 2 R (ssI 9 h R (λh=>?_) (λh=>?_)))
 ·refine rx 2 R (son R R R ?_)
  obtain⟨v2,hv2,h⟩:=Aa h
  refine scI R R (Tg hv2) (rsn R (Bn ?_))
  cases SJ h
  exact dnT R R R R
 ·refine rsn R (Bn ?_)
  cases SJ h
  exact dnT R R R R
def Qt (b1:Unit):Option Bool :=
 some false
def F3 (a0:Ao) (a1:Ar) (s2:Int):Option (LR (Int) (Unit) (Bool)) :=
 if (decide (s2<(a0.Keys.length:Int))) then((idx a0.Keys s2).bind λu3=>(Gw a1 u3).bind λv4=>if v4 then(some (.ret true)) else(some (.cont (wI (s2+1))))) else(some (.brk ()))
def L6 (a0:Ao) (a1:Ar):Option Bool :=
 (Gj (F3 a0 a1) fuel 0).bind λx=>match x with | .inl r=>some r | .inr e5=>Qt e5
theorem Ws {a0:Ao} {a1:Ar} {r:Bool} (h:L6 a0 a1=some r):A6 Qx0 202 [.agg (EL.el a0),.agg (EL.el a1)] (·=L7 (.b r)):=by
 refine An Tryz.func202 R (nt:=18) R (Nbl R) ?_
 intro w0 S0
 refine crs R (Bb (crs R (cj (Unit) (λb1=>[]) (λb1=>[BE a0,BE a1]) (λb1=>Qt b1=some r) fR (λb1 h=>?_) ?_)))
 ·refine crs R (Bn ?_)
  cases SJ h
  exact dnT R R R R
 ·refine Bh ?_
  obtain⟨x2,hx2,ho2⟩:=Aa h
  refine lpn (α:=Int) (λg=>[(3,L7 (.lp 1 0)),(8,L7 (SL a0.Keys (eL eU8))),(9,L7 (Ii6 (a0.Keys.length:Int))),(10,L7 (Ii6 g.2))]) (λg=>[BE a0,BE a1]) (λg=>Gj (F3 a0 a1) g.1 g.2=some x2) (fuel,0) hx2 R R fR ?_
  rintro⟨n2,s2⟩ h
  obtain⟨n2,y2,rfl,h,hk2⟩:=Ct h
  refine crs R (Bb (ccI h R (λh=>?_) (λh=>?_)))
  ·refine csn (csb ?_)
   obtain⟨u3,hu3,h⟩:=Aa h
   refine sv R (Bl (f:=(eL eU8)) Ab4 fR R R R R hu3) ?_
   refine rsn R (csr (rx 2 R ?_))
   obtain⟨v4,hv4,h⟩:=Aa h
   refine scI R R (Kh hv4) (Oy (ccI h R (λh=>?_) (λh=>?_)))
   ·refine crs R (Bn (br5 ?_))
    cases SJ h
    obtain rfl:Sum.inl _=x2:=hk2
    obtain rfl:=zD ho2
    exact dnT R R R R
   ·refine cbn (cgs R ?_)
    cases SJ h
    exact lx (n2,(wI (s2+1))) hk2 R R
  ·refine cx5 ?_
   cases SJ h
   obtain rfl:_=x2:=hk2
   exact⟨(),_,ho2,trivial,R⟩
def Hw  : Option Unit :=
 some ()
theorem Q0  {r:Unit} (h:Hw=some r):Cv Qx0 203 [] [] (λy m'=>y=.s (.agg [.raw (.func (.func 252) #[] #[]),.raw (.func (.func 253) #[] #[])])/\m'=[]):=by
 refine Cs Tryz.func203 R (nt:=2) R (Nbl R) ?_
 intro w0 S0 X0 H0
 refine crs R (crs R (Bn ?_))
 cases SJ h
 exact⟨Or.inr R,_,[],[.agg [.raw (.func (.func 252) #[] #[]),.raw (.func (.func 253) #[] #[])]],[],(Au (ra Ay5 R R R) A4),R,R,⟨by decide,R⟩,R,R,⟨R,R⟩⟩
def Mf (a0:Ao):Option Ao :=
 some ({a0 with Out:=true})
theorem Uf {a0:Ao} {r:Ao} (h:Mf a0=some r):A6 Qx0 252 [.agg (EL.el a0)] (·=.s (.agg (EL.el r))):=by
 refine An Tryz.func252 R (nt:=5) R (Nbl R) ?_
 intro w0 S0
 refine crs R (crs R (crs R (Bn ?_)))
 cases SJ h
 exact dnA R Nz R (.lp _ _ _ R) (Nbl R) R R
def Mh (a0:Ao):Option Ao :=
 some ({a0 with In:=true})
theorem T7 {a0:Ao} {r:Ao} (h:Mh a0=some r):A6 Qx0 253 [.agg (EL.el a0)] (·=.s (.agg (EL.el r))):=by
 refine An Tryz.func253 R (nt:=5) R (Nbl R) ?_
 intro w0 S0
 refine crs R (crs R (crs R (Bn ?_)))
 cases SJ h
 exact dnA R Nz R (.lp _ _ _ R) (Nbl R) R R
end Go.Proofs.YtkblaobhhoebaaaGreat.Abs
