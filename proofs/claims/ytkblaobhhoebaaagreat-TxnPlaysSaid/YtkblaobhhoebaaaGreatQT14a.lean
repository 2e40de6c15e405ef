/-
 t
-/
import Derived.Test.YtkblaobhhoebaaaGreatQAbsC
import Derived.Test.YtkblaobhhoebaaaGreatQAbsD
import Derived.Test.YtkblaobhhoebaaaGreatProg
set_option linter.unusedVariables false
set_option linter.unusedSimpArgs false
namespace Go.Proofs.YtkblaobhhoebaaaGreat.Abs
open Go.RowKit Go.Proofs
noncomputable abbrev Qx0:=Tryz.prog
set_option maxRecDepth 100000
set_option maxHeartbeats 4000000
structure Ae where
 Key:List UInt8
 Val:List UInt8
 Del:Bool
def A0 (x:Ae):List Lf:=[SL x.Key eU8,SL x.Val eU8,.b x.Del]
structure Au where
 L:List Ae
def Agk (x:Au):List Lf:=[SL x.L A0]
structure As where
 Key:List UInt8
 Val:List UInt8
def B3 (x:As):List Lf:=[SL x.Key eU8,SL x.Val eU8]
structure Aj where
 Lo:List UInt8
 Hi:List UInt8
 Open:Bool
def Ace (x:Aj):List Lf:=[SL x.Lo eU8,SL x.Hi eU8,.b x.Open]
structure Ic where
 What:Int
 N:Int
 Token:Int
 Attempt:Int
 RO:Bool
 Del:Bool
 Key:List UInt8
 Val:List UInt8
 Rng:Aj
def Ai8 (x:Ic):List Lf:=[.i .i64 x.What,.i .i64 x.N,.i .i64 x.Token,.i .i64 x.Attempt,.b x.RO,.b x.Del,SL x.Key eU8,SL x.Val eU8,SL x.Rng.Lo eU8,SL x.Rng.Hi eU8,.b x.Rng.Open]
structure Ai where
 Ts:Int
 Val:List UInt8
 Del:Bool
def Bq (x:Ai):List Lf:=[.i .i64 x.Ts,SL x.Val eU8,.b x.Del]
structure Ab where
 L:List Ai
def Az (x:Ab):List Lf:=[SL x.L Bq]
structure Ao where
 Keys:List (List UInt8)
 Chains:List Ab
 Ts:Int
def Adj (x:Ao):List Lf:=[SL x.Keys (eL eU8),SL x.Chains Az,.i .i64 x.Ts]
structure Ag where
 ID:Int
 Begin:Int
 End:Int
 State:Int
 In:Bool
 Out:Bool
 RO:Bool
 Keys:List (List UInt8)
def A2 (x:Ag):List Lf:=[.i .i64 x.ID,.i .i64 x.Begin,.i .i64 x.End,.i .i64 x.State,.b x.In,.b x.Out,.b x.RO,SL x.Keys (eL eU8)]
structure Ac where
 Tx:Int
 Rng:Aj
def Av (x:Ac):List Lf:=[.i .i64 x.Tx,SL x.Rng.Lo eU8,SL x.Rng.Hi eU8,.b x.Rng.Open]
structure Am where
 L:List Ac
def Ado (x:Am):List Lf:=[SL x.L Av]
structure Af where
 Txs:List Ag
 Reads:Am
def Akd (x:Af):List Lf:=[SL x.Txs A2,SL x.Reads.L Av]
structure Al where
 Tok:Int
 Attempt:Int
 State:Int
 Ts:Int
def Bs (x:Al):List Lf:=[.i .i64 x.Tok,.i .i64 x.Attempt,.i .i64 x.State,.i .i64 x.Ts]
structure Ah where
 L:List Al
def Abb (x:Ah):List Lf:=[SL x.L Bs]
structure Aq where
 ID:Int
 Token:Int
 Attempt:Int
 Snap:Int
 RO:Bool
 Buf:Au
def Hj (x:Aq):List Lf:=[.i .i64 x.ID,.i .i64 x.Token,.i .i64 x.Attempt,.i .i64 x.Snap,.b x.RO,SL x.Buf.L A0]
structure Aa where
 Store:Ao
 Cert:Af
 Toks:Ah
 Open:List Aq
 Next:Int
def Afl (x:Aa):List Lf:=[SL x.Store.Keys (eL eU8),SL x.Store.Chains Az,.i .i64 x.Store.Ts,SL x.Cert.Txs A2,SL x.Cert.Reads.L Av,SL x.Toks.L Bs,SL x.Open Hj,.i .i64 x.Next]
structure Bl where
 tx_:Int
 lo_:List UInt8
 hi_:List UInt8
 open_:Bool
def Cr (x:Bl):List Lf:=[.i .i64 x.tx_,.s ⟨x.lo_.toArray⟩,.s ⟨x.hi_.toArray⟩,.b x.open_]
structure B8 where
 n_:Int
 found_:Bool
 v_:List UInt8
 l_:List As
 e_:Int
def Ake (x:B8):List Lf:=[.i .i64 x.n_,.b x.found_,SL x.v_ eU8,SL x.l_ B3,.i .i64 x.e_]
class EL (α:Type) where
 el:α->List Lf
instance:EL Ae:=⟨A0⟩
instance:EL Au:=⟨Agk⟩
instance:EL As:=⟨B3⟩
instance:EL Aj:=⟨Ace⟩
instance:EL Ic:=⟨Ai8⟩
instance:EL Ai:=⟨Bq⟩
instance:EL Ab:=⟨Az⟩
instance:EL Ao:=⟨Adj⟩
instance:EL Ag:=⟨A2⟩
instance:EL Ac:=⟨Av⟩
instance:EL Am:=⟨Ado⟩
instance:EL Af:=⟨Akd⟩
instance:EL Al:=⟨Bs⟩
instance:EL Ah:=⟨Abb⟩
instance:EL Aq:=⟨Hj⟩
instance:EL Aa:=⟨Afl⟩
instance:EL Bl:=⟨Cr⟩
instance:EL B8:=⟨Ake⟩
abbrev Ah2:Ae:=(Ae.mk ([]:List UInt8) ([]:List UInt8) false)
abbrev Ev:Ao:=(Ao.mk ([]:List (List UInt8)) ([]:List Ab) 0)
abbrev Aft:Ag:=(Ag.mk 0 0 0 0 false false false ([]:List (List UInt8)))
abbrev Aaa:Ac:=(Ac.mk 0 (Aj.mk ([]:List UInt8) ([]:List UInt8) false))
abbrev Bn:Af:=(Af.mk ([]:List Ag) (Am.mk ([]:List Ac)))
abbrev Ay:Ah:=(Ah.mk ([]:List Al))
abbrev Pg:Aq:=(Aq.mk 0 0 0 0 false (Au.mk ([]:List Ae)))
abbrev Bh:Aa:=(Aa.mk (Ao.mk ([]:List (List UInt8)) ([]:List Ab) 0) (Af.mk ([]:List Ag) (Am.mk ([]:List Ac))) (Ah.mk ([]:List Al)) ([]:List Aq) 0)
abbrev Znl:Lf:=.raw (.slice none 0 0)
abbrev Ii6 (n:Int):Lf:=.i .i64 n
theorem SJ {α:Type} {a b:α} (h:some a=some b):a=b:=zF h
abbrev Nfu:Lf:=.raw .nilFunc
abbrev Zba:List Lf:=[Znl,Znl,Ii6 0,Znl,Znl,Znl,Znl,Ii6 0]
abbrev Zbb:List Lf:=[Ii6 0,Ii6 0,Ii6 0,Ii6 0,.b false,.b false,.b false,Znl]
theorem Nbl {n m:Nat} (h:Nat.ble n m=true):n<=m:=yN h
theorem A8z:SI Qx0 84 99 3:=⟨Tryz.underlying84,by kernel_rfl,by decide⟩
theorem Bcr:TI Qx0 99 true 3:=⟨⟨_,Tryz.underlying99,rfl⟩,by kernel_rfl⟩
theorem Bfg:(Tryz.prog.info? 99).map (·.size)=some 3:=by kernel_rfl
theorem A6m:FI Qx0 99 0 0:=⟨⟨_,_,1,Tryz.underlying99,rfl,rfl,by kernel_rfl,by decide⟩⟩
theorem A8j:TI Qx0 56 false 1:=⟨⟨_,Tryz.underlying56,rfl⟩,by kernel_rfl⟩
theorem Be7:SI Qx0 56 5 1:=⟨Tryz.underlying56,by kernel_rfl,by decide⟩
theorem A79:FI Qx0 99 1 1:=⟨⟨_,_,1,Tryz.underlying99,rfl,rfl,by kernel_rfl,by decide⟩⟩
theorem A7w:FI Qx0 99 2 2:=⟨⟨_,_,1,Tryz.underlying99,rfl,rfl,by kernel_rfl,by decide⟩⟩
theorem ti4:TI Qx0 4 false 1:=⟨⟨_,Tryz.underlying4,rfl⟩,by kernel_rfl⟩
theorem Bai:TI Qx0 86 true 1:=⟨⟨_,Tryz.underlying86,rfl⟩,by kernel_rfl⟩
theorem Bcj:EI Qx0 56 1 24 [Znl]:=Abu (by kernel_rfl) (by decide)
theorem Bfx:NI Qx0 25:=⟨.inl ⟨_,Tryz.underlying25⟩⟩
theorem Ay5:SI Qx0 25 56 1:=⟨Tryz.underlying25,by kernel_rfl,by decide⟩
theorem mixed:Tryz.prog.follows .mixedOrders=true:=by kernel_rfl
theorem A7u:XI Qx0 259 Extern.BytealgCompare.compare:=⟨⟨Tryz.f259,Tryz.func259,by kernel_rfl,by kernel_rfl,by kernel_rfl,by kernel_rfl⟩⟩
theorem Bbj:SI Qx0 61 157 2:=⟨Tryz.underlying61,by kernel_rfl,by decide⟩
theorem A9l:TI Qx0 157 true 2:=⟨⟨_,Tryz.underlying157,rfl⟩,by kernel_rfl⟩
theorem Bd6:TI Qx0 58 true 3:=⟨⟨_,Tryz.underlying58,rfl⟩,by kernel_rfl⟩
theorem A4t:EI Qx0 157 2 48 [Znl,Znl]:=Abu (by kernel_rfl) (by decide)
theorem Be9:NI Qx0 61:=⟨.inl ⟨_,Tryz.underlying61⟩⟩
theorem A82:TI Qx0 40 true 8:=⟨⟨_,Tryz.underlying40,rfl⟩,by kernel_rfl⟩
theorem A81:TI Qx0 28 true 3:=⟨⟨_,Tryz.underlying28,rfl⟩,by kernel_rfl⟩
theorem A69:FI Qx0 28 2 2:=⟨⟨_,_,1,Tryz.underlying28,rfl,rfl,by kernel_rfl,by decide⟩⟩
theorem ti3:TI Qx0 3 false 1:=⟨⟨_,Tryz.underlying3,rfl⟩,by kernel_rfl⟩
theorem A46:FI Qx0 28 0 0:=⟨⟨_,_,1,Tryz.underlying28,rfl,rfl,by kernel_rfl,by decide⟩⟩
theorem Bga:TI Qx0 25 false 1:=⟨⟨_,Tryz.underlying25,rfl⟩,by kernel_rfl⟩
theorem Azl:FI Qx0 28 1 1:=⟨⟨_,_,1,Tryz.underlying28,rfl,rfl,by kernel_rfl,by decide⟩⟩
theorem Bbn:TI Qx0 26 false 1:=⟨⟨_,Tryz.underlying26,rfl⟩,by kernel_rfl⟩
theorem Bc0:SI Qx0 26 134 1:=⟨Tryz.underlying26,by kernel_rfl,by decide⟩
theorem Aw4:TI Qx0 134 true 1:=⟨⟨_,Tryz.underlying134,rfl⟩,by kernel_rfl⟩
theorem A9u:ZI Qx0 134 ([Znl]):=Avv (by kernel_rfl)
theorem A9c:(Tryz.prog.info? 134).map (·.size)=some 1:=by kernel_rfl
theorem At5:FI Qx0 134 0 0:=⟨⟨_,_,1,Tryz.underlying134,rfl,rfl,by kernel_rfl,by decide⟩⟩
theorem A6b:SI Qx0 132 136 3:=⟨Tryz.underlying132,by kernel_rfl,by decide⟩
theorem sz3:(Tryz.prog.info? 3).map (·.size)=some 1:=by kernel_rfl
theorem A9p:TI Qx0 136 true 3:=⟨⟨_,Tryz.underlying136,rfl⟩,by kernel_rfl⟩
theorem Baz:ZI Qx0 136 ([Ii6 0,Znl,.b false]):=Avv (by kernel_rfl)
theorem A8s:TI Qx0 34 true 2:=⟨⟨_,Tryz.underlying34,rfl⟩,by kernel_rfl⟩
theorem A0i:FI Qx0 34 0 0:=⟨⟨_,_,1,Tryz.underlying34,rfl,rfl,by kernel_rfl,by decide⟩⟩
theorem Bcn:TI Qx0 29 false 1:=⟨⟨_,Tryz.underlying29,rfl⟩,by kernel_rfl⟩
theorem Aj0:SI Qx0 29 139 8:=⟨Tryz.underlying29,by kernel_rfl,by decide⟩
theorem Be1:TI Qx0 32 true 1:=⟨⟨_,Tryz.underlying32,rfl⟩,by kernel_rfl⟩
theorem Alz:FI Qx0 32 0 0:=⟨⟨_,_,1,Tryz.underlying32,rfl,rfl,by kernel_rfl,by decide⟩⟩
theorem A6w:TI Qx0 30 false 1:=⟨⟨_,Tryz.underlying30,rfl⟩,by kernel_rfl⟩
theorem A01:SI Qx0 30 142 4:=⟨Tryz.underlying30,by kernel_rfl,by decide⟩
theorem Aw5:TI Qx0 142 true 4:=⟨⟨_,Tryz.underlying142,rfl⟩,by kernel_rfl⟩
instance:DecidableEq Bl:=λa b=>decidable_of_iff (a.tx_=b.tx_/\a.lo_=b.lo_/\a.hi_=b.hi_/\a.open_=b.open_) (by cases a;cases b;simp)
theorem A4x:Am4 Bl Qx0 354 Cr [0,2,2,1]:=⟨⟨by kernel_rfl,by kernel_rfl,by kernel_rfl,by kernel_rfl⟩,λ_=>rfl,by decide,λa b=>by cases a;cases b;simp [Cr,A0e,A8m,Bfo,Bdw]⟩
theorem Bbm:TI Qx0 354 true 4:=⟨⟨_,Tryz.underlying354,rfl⟩,by kernel_rfl⟩
theorem Yq:TI Qx0 139 true 8:=⟨⟨_,Tryz.underlying139,rfl⟩,by kernel_rfl⟩
theorem A6j:(Tryz.prog.info? 139).map (·.size)=some 8:=by kernel_rfl
theorem A3z:FI Qx0 139 0 0:=⟨⟨_,_,1,Tryz.underlying139,rfl,rfl,by kernel_rfl,by decide⟩⟩
theorem Aue:FI Qx0 139 3 3:=⟨⟨_,_,1,Tryz.underlying139,rfl,rfl,by kernel_rfl,by decide⟩⟩
theorem A3d:FI Qx0 139 2 2:=⟨⟨_,_,1,Tryz.underlying139,rfl,rfl,by kernel_rfl,by decide⟩⟩
theorem A4b:FI Qx0 139 7 7:=⟨⟨_,_,1,Tryz.underlying139,rfl,rfl,by kernel_rfl,by decide⟩⟩
theorem ei3:EI Qx0 3 1 8 [Ii6 0]:=Abu (by kernel_rfl) (by decide)
theorem A7h:NI Qx0 225:=⟨.inl ⟨_,Tryz.underlying225⟩⟩
theorem A9g:SI Qx0 225 3 1:=⟨Tryz.underlying225,by kernel_rfl,by decide⟩
theorem A1v:EI Qx0 142 4 64 [Ii6 0,Znl,Znl,.b false]:=Abu (by kernel_rfl) (by decide)
theorem Bep:NI Qx0 30:=⟨.inl ⟨_,Tryz.underlying30⟩⟩
theorem Bev:SI Qx0 35 145 4:=⟨Tryz.underlying35,by kernel_rfl,by decide⟩
theorem Bb3:SI Qx0 38 88 6:=⟨Tryz.underlying38,by kernel_rfl,by decide⟩
theorem Bea:TI Qx0 88 true 6:=⟨⟨_,Tryz.underlying88,rfl⟩,by kernel_rfl⟩
theorem Bf3:(Tryz.prog.info? 88).map (·.size)=some 6:=by kernel_rfl
theorem A7y:FI Qx0 88 0 0:=⟨⟨_,_,1,Tryz.underlying88,rfl,rfl,by kernel_rfl,by decide⟩⟩
theorem A9w:EI Qx0 88 6 64 [Ii6 0,Ii6 0,Ii6 0,Ii6 0,.b false,Znl]:=Abu (by kernel_rfl) (by decide)
theorem Bcq:NI Qx0 38:=⟨.inl ⟨_,Tryz.underlying38⟩⟩
theorem A3b:EI Qx0 139 8 64 Zbb:=Abu (by kernel_rfl) (by decide)
theorem Bby:NI Qx0 29:=⟨.inl ⟨_,Tryz.underlying29⟩⟩
theorem A3l:EI Qx0 145 4 32 [Ii6 0,Ii6 0,Ii6 0,Ii6 0]:=Abu (by kernel_rfl) (by decide)
theorem Bcg:NI Qx0 35:=⟨.inl ⟨_,Tryz.underlying35⟩⟩
theorem Bau:SI Qx0 312 29 1:=⟨Tryz.underlying312,by kernel_rfl,by decide⟩
theorem Bay:SI Qx0 246 38 1:=⟨Tryz.underlying246,by kernel_rfl,by decide⟩
theorem ei5:EI Qx0 5 1 1 [.i .u8 0]:=Abu (by kernel_rfl) (by decide)
theorem Ber:NI Qx0 56:=⟨.inl ⟨_,Tryz.underlying56⟩⟩
theorem zv3:(Tryz.prog.info? 3).bind (·.zero)=some (.int .i64 0):=by kernel_rfl
theorem Bfd:EI Qx0 30 1 24 [Znl]:=Abu (by kernel_rfl) (by decide)
theorem A9f:SI Qx0 396 30 1:=⟨Tryz.underlying396,by kernel_rfl,by decide⟩
theorem Baq:TI Qx0 320 true 2:=⟨⟨_,Tryz.underlying320,rfl⟩,by kernel_rfl⟩
theorem A2p:FI Qx0 320 0 0:=⟨⟨_,_,1,Tryz.underlying320,rfl,rfl,by kernel_rfl,by decide⟩⟩
theorem A6l:TI Qx0 318 false 1:=⟨⟨_,Tryz.underlying318,rfl⟩,by kernel_rfl⟩
theorem A38:FI Qx0 320 1 1:=⟨⟨_,_,1,Tryz.underlying320,rfl,rfl,by kernel_rfl,by decide⟩⟩
theorem A9n:PI Qx0 136 [(0,1),(1,1),(2,1)]:=Axp Tryz.underlying136 (by kernel_rfl) (by kernel_rfl)
theorem Bc5:EI Qx0 99 3 56 [Znl,Znl,.b false]:=Abu (by kernel_rfl) (by decide)
theorem Bdk:NI Qx0 84:=⟨.inl ⟨_,Tryz.underlying84⟩⟩
theorem Bdd:(Tryz.prog.info? 25).map (·.size)=some 1:=by kernel_rfl
theorem Bbs:ZI Qx0 28 ([Znl,Znl,Ii6 0]):=Avv (by kernel_rfl)
theorem Beu:PI Qx0 28 [(0,1),(1,1),(2,1)]:=Axp Tryz.underlying28 (by kernel_rfl) (by kernel_rfl)
theorem A5w:EI Qx0 134 1 24 [Znl]:=Abu (by kernel_rfl) (by decide)
theorem Bd4:NI Qx0 26:=⟨.inl ⟨_,Tryz.underlying26⟩⟩
theorem A1t:EI Qx0 136 3 40 [Ii6 0,Znl,.b false]:=Abu (by kernel_rfl) (by decide)
theorem A9v:SI Qx0 408 132 1:=⟨Tryz.underlying408,by kernel_rfl,by decide⟩
theorem A5o:NI Qx0 132:=⟨.inl ⟨_,Tryz.underlying132⟩⟩
theorem Ba0:SI Qx0 337 35 1:=⟨Tryz.underlying337,by kernel_rfl,by decide⟩
theorem Bfm:TI Qx0 49 true 2:=⟨⟨_,Tryz.underlying49,rfl⟩,by kernel_rfl⟩
theorem Aqi:FI Qx0 49 0 0:=⟨⟨_,_,1,Tryz.underlying49,rfl,rfl,by kernel_rfl,by decide⟩⟩
theorem A8h:TI Qx0 44 false 1:=⟨⟨_,Tryz.underlying44,rfl⟩,by kernel_rfl⟩
theorem Aov:FI Qx0 49 1 1:=⟨⟨_,_,1,Tryz.underlying49,rfl,rfl,by kernel_rfl,by decide⟩⟩
theorem A8x:TI Qx0 47 true 1:=⟨⟨_,Tryz.underlying47,rfl⟩,by kernel_rfl⟩
theorem Aze:FI Qx0 52 0 0:=⟨⟨_,_,1,Tryz.underlying52,rfl,rfl,by kernel_rfl,by decide⟩⟩
theorem Bc6:TI Qx0 50 false 1:=⟨⟨_,Tryz.underlying50,rfl⟩,by kernel_rfl⟩
theorem Bb1:SI Qx0 50 146 4:=⟨Tryz.underlying50,by kernel_rfl,by decide⟩
theorem A53:TI Qx0 146 true 4:=⟨⟨_,Tryz.underlying146,rfl⟩,by kernel_rfl⟩
theorem Bde:ZI Qx0 49 ([Znl,Znl]):=Avv (by kernel_rfl)
theorem Bf9:PI Qx0 49 [(0,1),(1,1)]:=Axp Tryz.underlying49 (by kernel_rfl) (by kernel_rfl)
theorem A49:EI Qx0 140 8 64 Zbb:=Abu (by kernel_rfl) (by decide)
theorem Bei:NI Qx0 44:=⟨.inl ⟨_,Tryz.underlying44⟩⟩
abbrev BE {α:Type} [EL α] (x:α):Blk:=.box (EL.el x)
noncomputable instance tbI:TB Qx0:=.of
 [(3,false,1),(40,true,8),(55,true,8),(56,false,1),(37,true,1),(49,true,2),(52,true,1),(4,false,1),(44,false,1),(34,true,2),(25,false,1),(139,true,8),(88,true,6),(131,true,1),(28,true,3),(99,true,3),(134,true,1),(58,true,3),(43,true,3),(64,true,5),(53,false,1),(47,true,1),(84,false,1),(32,true,1),(140,true,8),(45,false,1),(86,true,1),(29,false,1),(145,true,4),(26,false,1),(38,false,1),(129,false,1),(50,false,1),(125,true,1),(41,false,1),(146,true,4),(136,true,3),(30,false,1),(142,true,4),(127,true,6),(157,true,2),(35,false,1),(137,true,3),(132,false,1),(143,true,4),(5,false,1),(354,true,4),(320,true,2),(62,false,1),(318,false,1),(60,true,11),(61,false,1)]
 [zy 40 (Zba),zy 55 (Zba),zy 49 ([Znl,Znl]),zy 52 ([Znl]),zy 37 ([Znl]),zy 34 ([Znl,Znl]),zy 64 ([Ii6 0,.b false,Znl,Znl,Ii6 0]),zy 88 ([Ii6 0,Ii6 0,Ii6 0,Ii6 0,.b false,Znl]),zy 139 (Zbb),zy 99 ([Znl,Znl,.b false]),zy 131 ([Znl]),zy 145 ([Ii6 0,Ii6 0,Ii6 0,Ii6 0]),zy 28 ([Znl,Znl,Ii6 0]),zy 43 ([Znl,Znl,Ii6 0]),zy 134 ([Znl]),zy 146 ([Ii6 0,Ii6 0,Ii6 0,Ii6 0]),zy 157 ([Znl,Znl]),zy 32 ([Znl]),zy 127 ([Ii6 0,Ii6 0,Ii6 0,Ii6 0,.b false,Znl]),zy 47 ([Znl]),zy 136 ([Ii6 0,Znl,.b false]),zy 140 (Zbb),zy 86 ([Znl]),zy 125 ([Znl]),zy 142 ([Ii6 0,Znl,Znl,.b false]),zy 137 ([Ii6 0,Znl,.b false]),zy 58 ([Znl,Znl,.b false]),zy 3 ([Ii6 0]),zy 143 ([Ii6 0,Znl,Znl,.b false]),zy 354 ([Ii6 0,.s ByteArray.empty,.s ByteArray.empty,.b false]),zy 320 ([Nfu,Nfu]),zy 4 ([.b false])]
 [(49,0,0),(55,3,6),(99,0,0),(43,0,0),(47,0,0),(34,0,0),(55,1,3),(49,1,1),(125,0,0),(28,1,1),(131,0,0),(140,3,3),(52,0,0),(99,1,1),(58,1,1),(40,0,0),(40,1,3),(40,3,6),(55,0,0),(43,1,1),(28,0,0),(139,3,3),(88,0,0),(60,0,0),(43,2,2),(140,7,7),(55,2,5),(28,2,2),(32,0,0),(99,2,2),(58,0,0),(139,2,2),(40,2,5),(140,2,2),(34,1,1),(37,0,0),(86,0,0),(134,0,0),(55,4,7),(140,1,1),(127,5,5),(157,0,0),(58,2,2),(139,0,0),(139,7,7),(40,4,7),(88,5,5),(137,0,0),(146,2,2),(127,0,0),(136,0,0),(139,1,1),(145,2,2),(145,1,1),(140,0,0),(142,1,1),(137,1,1),(127,1,1),(145,0,0),(88,1,1),(60,2,2),(137,2,2),(143,0,0),(127,3,3),(140,5,5),(140,4,4),(142,0,0),(88,3,3),(88,2,2),(60,6,6),(140,6,6),(143,1,1),(146,1,1),(146,3,3),(127,4,4),(127,2,2),(136,1,1),(136,2,2),(139,6,6),(145,3,3),(88,4,4),(60,3,3),(146,0,0),(139,5,5),(139,4,4),(60,8,8),(60,7,7),(64,4,4),(157,1,1),(60,4,4),(60,5,5),(64,0,0),(64,1,1),(64,2,2),(64,3,3),(320,0,0),(320,1,1),(60,1,1)]
 [(25,56,1),(44,140,8),(84,99,3),(56,5,1),(29,139,8),(53,127,6),(38,88,6),(61,157,2),(30,142,4),(35,145,4),(45,143,4),(225,3,1),(129,137,3),(132,136,3),(50,146,4),(26,134,1),(41,131,1),(22,60,11),(312,29,1),(246,38,1),(396,30,1),(408,132,1),(337,35,1)]
 [(157,[(0,1),(1,1)]),(40,[(0,3),(3,2),(5,1),(6,1),(7,1)]),(354,[(0,1),(1,1),(2,1),(3,1)]),(32,[(0,1)]),(139,[(0,1),(1,1),(2,1),(3,1),(4,1),(5,1),(6,1),(7,1)]),(88,[(0,1),(1,1),(2,1),(3,1),(4,1),(5,1)]),(34,[(0,1),(1,1)]),(37,[(0,1)]),(145,[(0,1),(1,1),(2,1),(3,1)]),(99,[(0,1),(1,1),(2,1)]),(58,[(0,1),(1,1),(2,1)]),(142,[(0,1),(1,3)]),(320,[(0,1),(1,1)]),(136,[(0,1),(1,1),(2,1)]),(86,[(0,1)]),(28,[(0,1),(1,1),(2,1)]),(134,[(0,1)]),(55,[(0,3),(3,2),(5,1),(6,1),(7,1)]),(64,[(0,1),(1,1),(2,1),(3,1),(4,1)]),(140,[(0,1),(1,1),(2,1),(3,1),(4,1),(5,1),(6,1),(7,1)]),(127,[(0,1),(1,1),(2,1),(3,1),(4,1),(5,1)]),(47,[(0,1)]),(49,[(0,1),(1,1)]),(52,[(0,1)]),(146,[(0,1),(1,1),(2,1),(3,1)]),(143,[(0,1),(1,3)]),(131,[(0,1)]),(137,[(0,1),(1,1),(2,1)]),(125,[(0,1)]),(43,[(0,1),(1,1),(2,1)])] (by kernel_rfl) (by kernel_rfl) (by kernel_rfl) (by kernel_rfl)
noncomputable instance fbI:FB Qx0:=⟨[168,86,61,159,81,130,16,131,57,150,121,45,47,74,55,152,156,154,80,62,181,46,116,69,82,222,153,178,76,102,118,119,182,235,108,237,48,132,194,23,135,201,205,24,25,27,180,171,169,157,160,163,124,125,107,183,109,71,72,184,236,185,110,186,111,114,197,113,188,56,128,195,73,200,251,203,204,64,148,147,218,70,254,214,215,146,221,223,226,158,88,89,227,224,161,97,176,101,77,84,229,167,233,166,219,120,122,112,187,115,189,117,49,129,249,196,58,198,133,59,134,60,63,206,137,65,268,250,199,202,252,253,136,149,28,126,127,53,138,66,139,67,141,209,210,269,270,212,211,140,142,213,255,256,281,275,257,216,143,144,258,217,145,68,9,29,10,54,52,30,26,31,220,151,75,32,11,234,225,155,164,276,261,232,165,78,79,33,83,85,162,228,87,34,90,170,91,35,92,36,94,230,172,260,231,173,93,95,174,175,96,98,100,177,99,37,38,39,103,40,12,20,13,15,179,104,41,105,106,42,43,44,14],by kernel_rfl⟩
theorem Aqs {P:Program} {F:FuncId} {args:List SV} {E sz n:Nat} {vs:List Lf} (hn:n*sz=vs.length) (h:Dk P F [] args λy m'=>y=L7 (.ls 0 n)/\m'=[.arr E sz 0 vs]):Bc P F args (·=L7 (.sl n vs)):=by
 intro w S ws hS hv
 have nx:∀ g,¬ Aj9 [] (λ_=>undef) g:=λg ⟨p,b,h,_⟩=>by simp at h
 refine(h w S (λ_=>undef) ws hS ⟨λp b h=>by simp at h,λp b g h=>by simp at h,λp q b b' g h=>by simp at h,λp b g i h=>by simp at h⟩ ⟨hv.1,λi x v h1 h2=>SVR.mono (λ_ _=>Bf.of_rep) (hv.2 i x v h1 h2)⟩).mono ?_
 rintro _ w' ⟨v,_,_,S',H',rfl,⟨rfl,rfl⟩,hx,hI,hM,hg,_,ha⟩
 have r:Rel ⟨w,S,0,λ_=>False,[],λ_=>undef⟩ ⟨λ_=>.tup [],[.arr E sz 0 vs]⟩ { tmps:=#[],defers:=[] } w' S' H' :=
  ⟨rfl,rfl,λ_=>Hn,hM.bl,λp b g h ho=>⟨(hg p b g h ho).imp id λk=>nx g k,hM.hp p b g h ho⟩,hM.inj,hM.sb,hI,⟨hx.os,hx.tape,hx.output,hx.size,λb hb _=>hx.blk b hb (nx b),hx.sub,hx.stab,λb i hb _=>hx.back b i hb (nx b)⟩,zU _,λp g h=>absurd h (zW _),λp e sz k cs h=>absurd h (zW _),λp h=>absurd h (zW _)⟩
 obtain⟨S2,k2,g2⟩:=(Ab1.ls 0 n E sz 0 vs rfl hn).keeps r
 exact⟨v,_,S2,rfl,rfl,k2.rel.ex.toExt λ_ h=>h,k2.rel.sl,g2 v ha⟩
theorem Alo {P:Program} {fn:Func} {R':AV->List Blk->Prop} {st:AS} {p n E sz:Nat} {vs:List Lf} (hr:Aay P st fn.results.toList [.one (.ls p n)]) (hm:st.m[p]? = some (.arr E sz 0 vs)) (h:R' (L7 (.ls 0 n)) [.arr E sz 0 vs]):A5k P fn 0 R' .ret st :=
 ⟨Or.inr rfl,_,[p],[.one (.ls 0 n)],[.arr E sz 0 vs],hr,rfl,by simp [hm,Blk.ren],⟨by simp,rfl⟩,rfl,rfl,h⟩
inductive ClF:Nat->Nat->Prop
 | c126:ClF 126 84
 | c139:ClF 139 38
 | c200:ClF 200 29
 | c214:ClF 214 25
 | c215:ClF 215 26
 | c249:ClF 249 35
 | c258:ClF 258 132
def OwB (F E sz:Nat) {α β:Type} (e:α->List Lf) (g:β->List SV) (f:β->Option (List α)):Prop:=∀ a0 r,f a0=some r->Dk Qx0 F [] (g a0) (λy m'=>y=L7 (.ls 0 r.length)/\m'=[.arr E sz 0 (r.flatMap e)])
def OwA (F:Nat) {α β:Type} (e:α->List Lf) (g:β->List SV) (f:β->Option (List α)):Prop:=∀ a0 r,f a0=some r->Bc Qx0 F (g a0) (·=L7 (SL r e))
theorem OwB.A {F E sz:Nat} {α β:Type} {e:α->List Lf} {g:β->List SV} {f:β->Option (List α)} (h:OwB F E sz e g f) (hl:∀ a,(e a).length=sz):OwA F e g f:=λ_ _ h1=>Aqs (A4 (f:=e) hl _).symm (h _ _ h1)
theorem Zn {α:Type} {e:α->List Lf} {F S E sz bt:Nat} {zl:List Lf} (k:ClF F S) (hu:Tryz.prog.underlying S=some (.slice E)) (ei:EI Qx0 E sz bt zl) (ni:NI Qx0 S) (hl:∀ a,(e a).length=sz) (hb:0<bt):OwB F E sz e (λa0=>[.one (SL a0 e)]) (λa0:List α=>if (([]:List α).length+a0.length)*bt<=140737488355328 then some (([]:List α)++a0) else none):=by
 intro a0 r h
 cases k
 all_goals (
  (first|refine Bw Tryz.func126 R (nt:=8) R (Nbl R) ?_|refine Bw Tryz.func139 R (nt:=8) R (Nbl R) ?_|refine Bw Tryz.func200 R (nt:=8) R (Nbl R) ?_|refine Bw Tryz.func214 R (nt:=8) R (Nbl R) ?_|refine Bw Tryz.func215 R (nt:=8) R (Nbl R) ?_|refine Bw Tryz.func249 R (nt:=8) R (Nbl R) ?_|refine Bw Tryz.func258 R (nt:=8) R (Nbl R) ?_)
  intro w0 S0 X0 H0
  refine crs R (Fs (csr (rm 1 R (A96 R hu R (λnq hnq=>?_)))))
  cases nq
  ·refine Agg (S8 R (λhx=>Bool.noConfusion hx) (λ_=>?_))
   refine csn (csr (Atj R hu ei (rx 1 R ?_)))
   obtain⟨hb1,h⟩:=Ht h
   refine Azg (f:=e) (xs:=([]:List α)) (us:=a0) R hu ei ni hl R R (.one _ _ _ _ (.id _ R)) R R R (.sl _ _ _ (A4 (f:=e) hl _)) R R hb1 hb ?_
   refine rsn R (Pj ?_)
   cases SJ h
   exact Alo (p:=0) (A3 (rt R) Bj) R ⟨R,R⟩
  ·obtain rfl:=yE (hnq rfl)
   replace h:some ([]:List α)=some r:=(Ht h).2
   refine Agg (S8 R (λ_=>?_) (λhx=>Bool.noConfusion hx))
   refine crs R ?_
   refine X5 E sz 2 ei.2 R ?_
   refine crt ?_
   cases SJ h
   exact Alo (p:=0) (A3 (rt R) Bj) R ⟨R,R⟩)
inductive GrF:Nat->Nat->Prop
 | c134:GrF 134 38
 | c198:GrF 198 29
 | c206:GrF 206 56
 | c220:GrF 220 35
 | c268:GrF 268 30
 | c281:GrF 281 132
def A6v {α:Type} (bt:Nat) (z:α) (a0:Int) (_:Unit):Option (List α) :=
 if (decide (0<(wI (a0-(wI (0-0)))))) then(if 0<(wI (a0-(wI (0-0))))/\(wI (a0-(wI (0-0))))*((bt:Nat):Int)<=281474976710656 then(if (0:Int)<=0/\0<=((List.replicate (wI (a0-(wI (0-0)))).toNat z).length:Int) then(some ((List.replicate (wI (a0-(wI (0-0)))).toNat z).take (0:Int).toNat)) else none) else none) else(some ([]:List α))
def Bbd {α:Type} (bt:Nat) (z:α) (a0:Int):Option (List α):=if (decide (a0<0)) then none else(A6v bt z a0 ())
theorem Ahw {α:Type} {e:α->List Lf} {F S E sz bt:Nat} {zl:List Lf} {z:α} (k:GrF F S) (hu:Tryz.prog.underlying S=some (.slice E)) (ei:EI Qx0 E sz bt zl) (si:SI Qx0 S E sz) (hl:∀ a,(e a).length=sz) (hz:e z=zl.map Lf.canon) (hb:0<bt):OwB F E sz e (λa0=>[.one (Znl),.one (Ii6 a0)]) (Bbd (α:=α) bt z):=by
 intro a0 r h
 cases k
 all_goals (
  (first|refine Bw Tryz.func134 R (nt:=27) R (Nbl R) ?_|refine Bw Tryz.func198 R (nt:=27) R (Nbl R) ?_|refine Bw Tryz.func206 R (nt:=27) R (Nbl R) ?_|refine Bw Tryz.func220 R (nt:=27) R (Nbl R) ?_|refine Bw Tryz.func268 R (nt:=27) R (Nbl R) ?_|refine Bw Tryz.func281 R (nt:=27) R (Nbl R) ?_)
  intro w0 S0 X0 H0
  refine crs R (Fs (crs R (cj (Unit) (λb1=>[(0,L7 (Znl)),(1,L7 (Ii6 a0))]) (λb1=>[]) (λb1=>A6v bt z a0 b1=some r) fR (λb1 h=>?_) ?_)))
  ·refine Fs (csr (rm 2 R (sv R (Aga si R) (rm 1 R (sv R (Z7 si R) (rsn R (crs R (ccI h R (λh=>?_) (λh=>?_)))))))))
   ·refine Fc (rm 2 R (sv R (Aga si R) (sv R (Aih si R R) (rx 1 R ?_))))
    obtain⟨hm2,h⟩:=Ht h
    refine A5g (f:=e) (z:=z) R hu ei Tryz.underlying3 hl hz R R hm2 hb ?_
    refine rm 1 R (sv R (Z7 si R) ?_)
    obtain⟨hs3,h⟩:=Ht h
    refine A5h (f:=e) R si hl R R R R R hs3 ?_
    refine rsn R (crs R (Pj ?_))
    cases SJ h
    exact Alo (p:=1) (A3 (rt R) Bj) R ⟨R,R⟩
   ·refine csn (crs R ?_)
    refine X5 E sz 4 ei.2 R ?_
    refine Pj ?_
    cases SJ h
    exact Alo (p:=0) (A3 (rt R) Bj) R ⟨R,R⟩
  ·refine ccI h R (λh=>?_) (λh=>?_)
   ·cases h
   ·refine csn ?_
    exact⟨(),_,h,(ml R),R⟩)
inductive CoF:Nat->Nat->Nat->Nat->Prop
 | c60:CoF 60 134 38 246
 | c133:CoF 133 198 29 312
 | c137:CoF 137 206 56 25
 | c151:CoF 151 220 35 337
 | c250:CoF 250 268 30 396
 | c275:CoF 275 281 132 408
section
variable {α:Type} (bt:Nat) (gr:Int->Option (List α)) (a0:List (List α))
def Bcl (s8:Int×Int):Option (LB (Int×Int) Int) :=
 if (decide (s8.2<(a0.length:Int))) then((idx a0 s8.2).bind λu9=>if (decide ((wI (s8.1+(u9.length:Int)))<0)) then none else(some (.cont ((wI (s8.1+(u9.length:Int))),(wI (s8.2+1)))))) else(some (.brk s8.1))
def Bcy (s4:Int×List α):Option (LB (Int×List α) (List α)) :=
 if (decide (s4.1<(a0.length:Int))) then((idx a0 s4.1).bind λu5=>if (s4.2.length+u5.length)*bt<=140737488355328 then(some (.cont ((wI (s4.1+1)),(s4.2++u5)))) else none) else(some (.brk s4.2))
def Bc2 (b1:Int):Option (List α):=(gr b1).bind λv2=>(Be (Bcy bt a0) fuel (0,v2)).bind λe7=>some e7
def Bd2:Option (List α):=(Be (Bcl a0) fuel (0,0)).bind λe10=>Bc2 bt gr a0 e10
end
theorem X9 {α:Type} {e:α->List Lf} {F G S SS E sz bt:Nat} {zl:List Lf} {gr:Int->Option (List α)} (k:CoF F G S SS) (hg:OwB G E sz e (λa0=>[.one (Znl),.one (Ii6 a0)]) gr) (hu:Tryz.prog.underlying S=some (.slice E)) (ei:EI Qx0 E sz bt zl) (ni:NI Qx0 S) (si2:SI Qx0 SS S 1) (hl:∀ a,(e a).length=sz) (hb:0<bt):OwB F E sz e (λa0=>[.one (SL a0 (eL e))]) (Bd2 bt gr):=by
 intro a0 r h
 cases k
 all_goals (
  (first|refine Bw Tryz.func60 R (nt:=36) R (Nbl R) ?_|refine Bw Tryz.func133 R (nt:=36) R (Nbl R) ?_|refine Bw Tryz.func137 R (nt:=36) R (Nbl R) ?_|refine Bw Tryz.func151 R (nt:=36) R (Nbl R) ?_|refine Bw Tryz.func250 R (nt:=36) R (Nbl R) ?_|refine Bw Tryz.func275 R (nt:=36) R (Nbl R) ?_)
  intro w0 S0 X0 H0
  refine crs R (crs R (Fs (crs R (cj (Int) (λb1=>[(0,L7 (SL a0 (eL e))),(3,L7 (Ii6 b1))]) (λb1=>[]) (λb1=>Bc2 bt gr a0 b1=some r) fR (λb1 h=>?_) ?_))))
  ·refine csr (rx 1 R ?_)
   obtain⟨v2,hv2,h⟩:=Ap h
   refine Kv (x':=L7 (.ls 0 v2.length)) (M':=[.arr E sz 0 (v2.flatMap e)]) [] R (fk R) (.func _) (Ar R (Ar R A7)) (hg _ _ hv2) R R (by decide) R R R ?_
   refine rsn R (Fs (crs R (cj ((List α)) (λb3=>[(6,L7 (.ls 0 b3.length))]) (λb3=>[.arr E sz 0 (b3.flatMap e)]) (λb3=>some b3=some r) fR (λb3 h=>?_) ?_)))
   ·refine crs R (Pj ?_)
    obtain rfl:=SJ h
    exact Alo (p:=0) (A3 (rt R) Bj) R ⟨R,R⟩
   ·refine Jf ?_
    obtain⟨x4,hx4,ho4⟩:=Ap h
    refine lpn (α:=Int×(List α)) (λg=>[(6,L7 (.ls 0 g.2.2.length)),(25,L7 (SL a0 (eL e))),(26,L7 (Ii6 (a0.length:Int))),(27,L7 (Ii6 g.2.1))]) (λg=>[.arr E sz 0 (g.2.2.flatMap e)]) (λg=>Be (Bcy bt a0) g.1 g.2=some x4) (fuel,(0,v2)) hx4 R R fR ?_
    rintro⟨n4,s4⟩ h
    obtain⟨n4,y4,rfl,h,hk4⟩:=Qs h
    refine crs R (Fs (ccI h R (λh=>?_) (λh=>?_)))
    ·refine csn (csb ?_)
     obtain⟨u5,hu5,h⟩:=Ap h
     refine sv R (Ny (f:=(eL e)) si2 (λ_=>rfl) R R R R hu5) ?_
     refine rsn R (Fc (rx 2 R ?_))
     obtain⟨hb6,h⟩:=Ht h
     refine Azg (f:=e) (xs:=s4.2) (us:=u5) R hu ei ni hl R R (.one _ _ _ _ (.id _ R)) R R R (.sl _ _ _ (A4 (f:=e) hl _)) R R hb6 hb ?_
     refine rm 1 R (Ur (Bz (A1 (cgs R ?_))))
     cases SJ h
     exact lx (n4,((wI (s4.1+1)),(s4.2++u5))) hk4 R R
    ·refine cx5 ?_
     cases SJ h
     obtain rfl:_=x4:=hk4
     exact⟨s4.2,_,ho4,(ml R),R⟩
  ·refine Jf ?_
   obtain⟨x8,hx8,ho8⟩:=Ap h
   refine lpn (α:=Int×Int) (λg=>[(0,L7 (SL a0 (eL e))),(3,L7 (Ii6 g.2.1)),(9,L7 (SL a0 (eL e))),(10,L7 (Ii6 (a0.length:Int))),(11,L7 (Ii6 g.2.2))]) (λg=>[]) (λg=>Be (Bcl a0) g.1 g.2=some x8) (fuel,(0,0)) hx8 R R fR ?_
   rintro⟨n8,s8⟩ h
   obtain⟨n8,y8,rfl,h,hk8⟩:=Qs h
   refine crs R (Fs (ccI h R (λh=>?_) (λh=>?_)))
   ·refine csn (csb ?_)
    obtain⟨u9,hu9,h⟩:=Ap h
    refine sv R (Ny (f:=(eL e)) si2 (λ_=>rfl) R R R R hu9) ?_
    refine rsn R (crs R (crs R (ccI h R (λh=>?_) (λh=>?_))))
    ·cases h
    ·refine cbn (cgs R ?_)
     cases SJ h
     exact lx (n8,((wI (s8.1+(u9.length:Int))),(wI (s8.2+1)))) hk8 R R
   ·refine cx5 ?_
    cases SJ h
    obtain rfl:_=x8:=hk8
    exact⟨s8.1,_,ho8,(ml R),R⟩)
inductive Ar6:Nat->Nat->Nat->Nat->Nat->Nat->Value->Prop
 | k127:Ar6 127 192 84 99 3 56 (.agg #[.slice none 0 0,.slice none 0 0,.bool false])
 | k255:Ar6 255 271 25 56 1 24 (.slice none 0 0)
 | k256:Ar6 256 273 26 134 1 24 (.agg #[.slice none 0 0])
theorem A6r {F G S E sz bt:Nat} {z:Value} (kI:Ar6 F G S E sz bt z):Tryz.prog.underlying S=some (.slice E):=by cases kI <;> first|exact Tryz.underlying84|exact Tryz.underlying25|exact Tryz.underlying26
theorem Bgh {F G S E sz bt:Nat} {z:Value} (kI:Ar6 F G S E sz bt z):(Tryz.prog.info? E).map (λi=>(i.zero,i.size,i.bytes))=some (some z,sz,bt):=by cases kI <;> kernel_rfl
theorem Bdu {F G S E sz bt:Nat} {z:Value} (kI:Ar6 F G S E sz bt z) (args:Array Value) (w:World):(callFunc G args).run Tryz.prog w=((Extern.SlicesOverlaps.overlaps #[S,S] #[4] args).run Tryz.prog w).andThen λv w'=>.ok (.value v) w':=by cases kI <;> first|exact run_callFunc_extern Tryz.func192 (by kernel_rfl) (by kernel_rfl) (by kernel_rfl) (by kernel_rfl) _ _|exact run_callFunc_extern Tryz.func271 (by kernel_rfl) (by kernel_rfl) (by kernel_rfl) (by kernel_rfl) _ _|exact run_callFunc_extern Tryz.func273 (by kernel_rfl) (by kernel_rfl) (by kernel_rfl) (by kernel_rfl) _ _
theorem A2o {F G S E sz bt:Nat} {z:Value} (kI:Ar6 F G S E sz bt z) (b n c vb vc:Nat) (vs:List Value) (w:World) (i0:TypeInfo) (hi0:Tryz.prog.info? E=some i0) (hs0:i0.size=sz) (hroom:n+1<=c) (hc63:c<=9223372036854775807)
  (hvl:vs.length=sz) (hsp:∀ j,j<sz->(w.cell? ⟨b,n*sz+j,none⟩).isSome=true) (hfz:∀ j,j<sz->w.frozen? ⟨b,n*sz+j,none⟩=false)
  (hvs:∀ j v,vs[j]? = some v->w.cell? ⟨vb,j,none⟩=some v) (h1v:∀ v∈vs,v.oneCell'=true) :
  Calls Tryz.prog F #[.slice (some ⟨b,0,none⟩) n c,.int .i64 n,.slice (some ⟨vb,0,none⟩) 1 vc] w λe w' =>
   e=.returned (.slice (some ⟨b,0,none⟩) (n+1) c)/\w'=w.setCells b (n*sz) vs:=by
 have hu:=A6r kI
 have hsrc:_root_.Go.Src Tryz.prog i0.size S (.slice (some ⟨vb,0,none⟩) 1 vc) 1 vs w:=by
  rw[hs0]
  exact _root_.Go.Src.ofSlice w hu ⟨vb,0,none⟩ 1 vc vs (by cases kI <;> omega) (λj u hj=>by rw[Addr.add_lit,yT];exact hvs j u hj) h1v
 cases kI
 all_goals (
  first|(go_enter Tryz.func127,Tryz.ntmps127)|(go_enter Tryz.func255,Tryz.ntmps255)|(go_enter Tryz.func256,Tryz.ntmps256)
  go_wp2_with (at_builtin;refine wpList_append_room_src _ rfl _ _ _ _ rfl _ i0 hu hi0 b 0 n c rfl _ rfl 1 vs hsrc hroom (by rw[hvl,hs0,yT];exact hsp) (by rw[hvl,hs0,yT];exact hfz) ?_)
  go_ret
  refine⟨R,?_⟩
  first|rfl|(simp;done)|(simp [hs0];done))
theorem Auj {F G S E sz bt:Nat} {z:Value} (kI:Ar6 F G S E sz bt z) (b n c vb vc:Nat) (cs vs:List Value) (w:World) (i0:TypeInfo) (hi0:Tryz.prog.info? E=some i0) (hz0:i0.zero=some z) (hs0:i0.size=sz) (hnc:n<=c) (hroom:c<n+1) (hn63:n+1<=9223372036854775807)
  (hfit:Builtin.nextslicecap (n+1) c*i0.bytes<=281474976710656) (hcl:cs.length=n*sz) (hvl:vs.length=sz)
  (hcs:∀ j v,cs[j]? = some v->w.cell? ⟨b,j,none⟩=some v) (hvs:∀ j v,vs[j]? = some v->w.cell? ⟨vb,j,none⟩=some v) (h1v:∀ v∈vs,v.oneCell'=true) :
  Calls Tryz.prog F #[.slice (some ⟨b,0,none⟩) n c,.int .i64 n,.slice (some ⟨vb,0,none⟩) 1 vc] w λe w' =>
   e=.returned (.slice (some ⟨w.heap.size,0,none⟩) (n+1) (grownCap w (n+1) c E)) /\
   w'=w.drew.alloc (.cells ((cs++vs).toArray++Builtin.zeroCells (Value.cells z) (grownCap w (n+1) c E-(n+1))) E):=by
 have hu:=A6r kI
 have hsrc:_root_.Go.Src Tryz.prog i0.size S (.slice (some ⟨vb,0,none⟩) 1 vc) 1 vs w:=by
  rw[hs0]
  exact _root_.Go.Src.ofSlice w hu ⟨vb,0,none⟩ 1 vc vs (by cases kI <;> omega) (λj u hj=>by rw[Addr.add_lit,yT];exact hvs j u hj) h1v
 have hold:(Builtin.firstCells i0.size n (.slice (some ⟨b,0,none⟩) n c)).run Tryz.prog w.drew=.ok cs.toArray w.drew:=by
  rw[hs0]
  exact run_firstCells_some w.drew sz n ⟨b,0,none⟩ n c cs (by cases kI <;> omega) (λj v hj=>by rw[Addr.add_lit,yT];exact hcs j v hj)
 have hrun:∀ ty,(Builtin.append_ #[S,S] ty #[.slice (some ⟨b,0,none⟩) n c,.slice (some ⟨vb,0,none⟩) 1 vc]).run Tryz.prog w=.ok (.slice (some ⟨w.heap.size,0,none⟩) (n+1) (grownCap w (n+1) c E)) (w.drew.alloc (.cells ((cs++vs).toArray++Builtin.zeroCells (Value.cells z) (grownCap w (n+1) c E-(n+1))) E)):=λty =>
  run_append_grow_src w S S ty E i0 _ hu hi0 hz0 (some ⟨b,0,none⟩) n c cs hold _ 1 vs hsrc hroom (by cases kI <;> omega) hfit
 cases kI
 all_goals (
  first|(go_enter Tryz.func127,Tryz.ntmps127)|(go_enter Tryz.func255,Tryz.ntmps255)|(go_enter Tryz.func256,Tryz.ntmps256)
  go_wp2_with (at_builtin;refine Lib.wpList_append_run _ rfl _ _ _ _ rfl _ _ rfl rfl _ _ (hrun _) ?_)
  all_goals (go_ret;first|exact⟨rfl,rfl⟩|exact⟨rfl,by simp [Value.cells]⟩))
theorem Asr {F G S E sz bt:Nat} {z:Value} (kI:Ar6 F G S E sz bt z) (b n c i vb vc:Nat) (cs vs:List Value) (w:World) (hs0:(Tryz.prog.info? E).map (·.size)=some sz) (hi:i<n) (hroom:n+1<=c) (hc63:c<=9223372036854775807) (hvb:vb≠b)
  (hcl:cs.length=n*sz) (hvl:vs.length=sz)
  (hcs:∀ j v,cs[j]? = some v->w.cell? ⟨b,j,none⟩=some v) (hsp:∀ j,j<(n+1)*sz->(w.cell? ⟨b,j,none⟩).isSome=true) (hfz:∀ j,j<(n+1)*sz->w.frozen? ⟨b,j,none⟩=false)
  (hvs:∀ j v,vs[j]? = some v->w.cell? ⟨vb,j,none⟩=some v) (h1c:∀ v∈cs,v.oneCell'=true) (h1v:∀ v∈vs,v.oneCell'=true)
  (tA tB:TypeId) (kA kB:Nat) (hsa:w.shape? vb=some (tA,kA)) (hsb:w.shape? b=some (tB,kB)) (hkB:kB≠0) (hfa:w.frozen? ⟨vb,0,none⟩=false) (hfe:w.frozen? ⟨vb,kA,none⟩=false) :
  Calls Tryz.prog F #[.slice (some ⟨b,0,none⟩) n c,.int .i64 i,.slice (some ⟨vb,0,none⟩) 1 vc] w λe w' =>
   e=.returned (.slice (some ⟨b,0,none⟩) (n+1) c)/\w'=(w.drew.setCells b ((i+1)*sz) (cs.drop ((i)*sz))).setCells b ((i)*sz) vs:=by
 have hu:=A6r kI
 have hz2:¬ ((i:Int)=(n:Int)):=by cases kI <;> omega
 have hz3:¬ ((c:Int)<(n:Int)+1):=by cases kI <;> omega
 have mixed:Tryz.prog.follows .mixedOrders=true:=by kernel_rfl
 have hov:∀ lb cb,(callFunc G #[.slice (some ⟨vb,0,none⟩) 1 vc,.slice (some ⟨b,(i+1)*sz,none⟩) lb cb]).run Tryz.prog w=.ok (.value (.bool false)) w:=λlb cb=>by
  rw[Bdu kI,
   Lib.run_overlaps_apart w S 4 E hu sz (λw=>Cc hs0 w) ⟨vb,0,none⟩ ⟨b,(i+1)*sz,none⟩ 1 vc lb cb hvb tA tB kA kB hsa hsb hkB hfa hfe]
  rfl
 have hdl:(cs.drop ((i)*sz)).length=(n-i)*sz:=by rw[yF,hcl];cases kI <;> omega
 have hw1:IntKind.i64.wrap ((i:Int)+1)=(i:Int)+1:=by rw[IntKind.wrap_i64];cases kI <;> omega
 have hb1:(0:Int)<=(i:Int)+1:=by cases kI <;> omega
 have hin:i<=n:=by cases kI <;> omega
 have htn:((i:Int)+1).toNat=i+1:=by cases kI <;> omega
 have hb2:¬ (c=i+1):=by cases kI <;> omega
 have hb3:(i:Int)<=(n:Int)+1:=by cases kI <;> omega
 have hb4:¬ (c=i):=by cases kI <;> omega
 have hcp1:∀ ty dc sc,(Builtin.copy_ #[S,S] ty #[.slice (some ⟨b,(i+1)*sz,none⟩) (n-i) dc,.slice (some ⟨b,(i)*sz,none⟩) (n+1-i) sc]).run Tryz.prog w.drew=.ok (goInt (n-i:Nat)) (w.drew.setCells b ((i+1)*sz) (cs.drop ((i)*sz))):=λty dc sc =>
  Yc w.drew _ _ ty E b ((i+1)*sz) (n-i) dc ⟨b,(i)*sz,none⟩ (n+1-i) sc sz (n-i) (cs.drop ((i)*sz)) hu hs0 (by simp only[Nat.min_def];split <;> cases kI <;> omega) hdl
   (λj v hj=>by rw[Addr.add_lit];exact hcs ((i)*sz+j) v (by rwa [yP] at hj))
   (λj hj=>hsp _ (by rw[hdl] at hj;cases kI <;> omega)) (λj hj=>hfz _ (by rw[hdl] at hj;cases kI <;> omega)) (λv hv=>h1c v (zAf hv))
 obtain⟨W1,hW1⟩:∃ W1,W1=w.drew.setCells b ((i+1)*sz) (cs.drop ((i)*sz)):=⟨_,rfl⟩
 have hsp1:∀ k,k<(n+1)*sz->(W1.cell? ⟨b,k,none⟩).isSome=true:=λk hk=>by
  rw[hW1]
  exact isSome_setCells b (cs.drop ((i)*sz)) ((i+1)*sz) w.drew (λj hj=>hsp _ (by rw[hdl] at hj;cases kI <;> omega)) _ (hsp k hk)
 have hcp2:∀ (W:World),(∀ x,W.cell? x=W1.cell? x)->(∀ x,W.frozen? x=W1.frozen? x)->∀ ty dc,(Builtin.copy_ #[S,S] ty #[.slice (some ⟨b,(i)*sz,none⟩) (n+1-i) dc,.slice (some ⟨vb,0,none⟩) 1 vc]).run Tryz.prog W=.ok (goInt (1:Nat)) (W.setCells b ((i)*sz) vs):=λW hWc hWf ty dc =>
  Yc W _ _ ty E b ((i)*sz) (n+1-i) dc ⟨vb,0,none⟩ 1 vc sz 1 vs hu hs0 (by simp only[Nat.min_def];split <;> cases kI <;> omega) (by cases kI <;> omega)
   (λj v hj=>by
    rw[Addr.add_lit,hWc,hW1,yT,World.cell?_setCells_out b _ _ _ _ (λh _=>absurd h hvb)]
    exact hvs j v hj)
   (λj hj=>by rw[hWc];exact hsp1 _ (by cases kI <;> omega)) (λj hj=>by rw[hWf,hW1,World.frozen?_setCells];exact hfz _ (by cases kI <;> omega)) h1v
 rw[<- hW1] at hcp1
 cases kI
 all_goals (
  (try simp only[jH] at *)
  first|(go_enter Tryz.func127,Tryz.ntmps127)|(go_enter Tryz.func255,Tryz.ntmps255)|(go_enter Tryz.func256,Tryz.ntmps256)
  go_wp2_with (simp only[hov])
  go_region_law_o (refine step_copy_runI rfl _ _ _ _ rfl _ _ (by simp [Act.eval,Act.put]) (by simp [Act.eval,Act.put]) (hcp1 _ _ _) ?_)
  go_wp2_with (at_builtin;refine wpList_copy_runI _ rfl _ _ _ _ rfl _ _ rfl rfl (hcp2 _ (λ_=>rfl) (λ_=>rfl) _ _) ?_)
  go_ret
  first|exact⟨rfl,rfl⟩|exact⟨rfl,by rw[hW1]⟩)
theorem Aw0 {F G S E sz bt:Nat} {z:Value} (kI:Ar6 F G S E sz bt z) (b n c i vb vc:Nat) (cs vs:List Value) (w:World) (i0:TypeInfo) (hi0:Tryz.prog.info? E=some i0) (hz0:i0.zero=some z) (hs0:i0.size=sz) (hi:i<n) (hnc:n<=c) (hroom:c<n+1) (hn63:n+1<=4611686018427387904)
  (hb48:(n+1)*i0.bytes<=281474976710656) (hfit:Builtin.nextslicecap (n+1) c*i0.bytes<=281474976710656) (hcl:cs.length=n*sz) (hvl:vs.length=sz)
  (hcs:∀ j v,cs[j]? = some v->w.cell? ⟨b,j,none⟩=some v) (hvs:∀ j v,vs[j]? = some v->w.cell? ⟨vb,j,none⟩=some v) (h1c:∀ v∈cs,v.oneCell'=true) (h1v:∀ v∈vs,v.oneCell'=true) :
  Calls Tryz.prog F #[.slice (some ⟨b,0,none⟩) n c,.int .i64 i,.slice (some ⟨vb,0,none⟩) 1 vc] w λe w' =>
   e=.returned (.slice (some ⟨w.heap.size,0,none⟩) (n+1) (grownCap w (n+1) c E)) /\
   w'=(((w.alloc (.cells ((cs.take ((i)*sz)).toArray++Builtin.zeroCells (Value.cells z) (n+1-i)++Builtin.zeroCells (Value.cells z) (grownCap w (n+1) c E-(n+1))) E)).drew.setCells w.heap.size ((i)*sz) vs).drew).setCells w.heap.size ((i+1)*sz) (cs.drop ((i)*sz)):=by
 have hu:=A6r kI
 have mixed:Tryz.prog.follows .mixedOrders=true:=by kernel_rfl
 have hz2:¬ ((i:Int)=(n:Int)):=by cases kI <;> omega
 have hz3:(c:Int)<(n:Int)+1:=by cases kI <;> omega
 have hsz:(Tryz.prog.info? E).map (·.size)=some sz:=by rw[hi0];simp [hs0]
 have hbw:b<w.heap.size:=block_lt_of_cell (hcs 0 _ (zC (by cases kI <;> omega)))
 have hvw:vb<w.heap.size:=block_lt_of_cell (hvs 0 _ (zC (by cases kI <;> omega)))
 have hkk:(n:Int)+1-(i:Int)=((n+1-i:Nat):Int):=by cases kI <;> omega
 have hik:i+(n+1-i)=n+1:=by cases kI <;> omega
 have htl:(cs.take ((i)*sz)).length=i*sz:=by rw[zR];cases kI <;> omega
 have hold:(Builtin.firstCells i0.size i (.slice (some ⟨b,0,none⟩) i c)).run Tryz.prog w.drew=.ok (cs.take ((i)*sz)).toArray w.drew:=by
  rw[hs0]
  exact run_firstCells_some w.drew sz i ⟨b,0,none⟩ i c (cs.take ((i)*sz)) htl (λj v hj=>by
   rw[Addr.add_lit,yT]
   rw[yR] at hj
   split at hj
   ·exact hcs j v hj
   ·cases hj)
 have hrz:∀ ty,(Builtin.append_ #[S,3] ty #[.slice (some ⟨b,0,none⟩) i c,.int .i64 ((n:Int)+1-(i:Int))]).run Tryz.prog w =
   .ok (.slice (some ⟨w.heap.size,0,none⟩) (n+1) (grownCap w (n+1) c E)) (w.drew.alloc (.cells ((cs.take ((i)*sz)).toArray++Builtin.zeroCells (Value.cells z) (n+1-i)++Builtin.zeroCells (Value.cells z) (grownCap w (n+1) c E-(n+1))) E)):=λty=>by
  have h:=Lib.run_append_grow_zeros w S 3 ty E i0 _ .i64 .i64 hu Tryz.underlying3 hi0 hz0 (some ⟨b,0,none⟩) i c (cs.take ((i)*sz)) hold (n+1-i) (by cases kI <;> omega) (by cases kI <;> omega) (by cases kI <;> omega) (by cases kI <;> omega) (yU (xV _ (by cases kI <;> omega)) hb48) (by rw[hik];exact hfit)
  rw[hik] at h
  rw[hkk]
  exact h
 obtain⟨G,hG⟩:∃ G,G=grownCap w (n+1) c E:=⟨_,rfl⟩
 obtain⟨ROW,hROW⟩:∃ ROW:Array Value,ROW=(cs.take ((i)*sz)).toArray++Builtin.zeroCells (Value.cells z) (n+1-i)++Builtin.zeroCells (Value.cells z) (G-(n+1)):=⟨_,rfl⟩
 rw[<- hG] at hrz ⊢
 rw[<- hROW] at hrz ⊢
 have hzc:∀ k,(Builtin.zeroCells (Value.cells z) k).size=k*sz:=λk=>by cases kI <;> simp [Builtin.zeroCells,Value.cells]
 have hRl:(n+1)*sz<=ROW.size:=by
  rw[hROW,wQ,wQ,hzc,hzc,yI,htl]
  cases kI <;> omega
 obtain⟨W1,hW1⟩:∃ W1,W1=w.drew.alloc (.cells ROW E):=⟨_,rfl⟩
 rw[<- hW1] at hrz
 have hN:∀ j,j<(n+1)*sz->(W1.cell? ⟨w.heap.size,j,none⟩).isSome=true:=λj hj=>by
  rw[hW1,World.cell?_alloc_at (w:=w.drew) ROW _ w.heap.size j rfl,z9 (by cases kI <;> omega)];rfl
 have hNf:∀ j,W1.frozen? ⟨w.heap.size,j,none⟩=false:=λj=>by rw[hW1];exact World.frozen?_alloc_at (w:=w.drew) ROW _ w.heap.size j rfl
 have hOb:∀ j v,w.cell? ⟨b,j,none⟩=some v->W1.cell? ⟨b,j,none⟩=some v:=λj v h=>by rw[hW1,World.cell?_alloc_past (w:=w.drew) _ b j hbw];exact h
 have hOv:∀ j v,w.cell? ⟨vb,j,none⟩=some v->W1.cell? ⟨vb,j,none⟩=some v:=λj v h=>by rw[hW1,World.cell?_alloc_past (w:=w.drew) _ vb j hvw];exact h
 have hcpA:∀ (W:World),(∀ x,W.cell? x=W1.cell? x)->(∀ x,W.frozen? x=W1.frozen? x)->∀ ty dc,(Builtin.copy_ #[S,S] ty #[.slice (some ⟨w.heap.size,(i)*sz,none⟩) (n+1-i) dc,.slice (some ⟨vb,0,none⟩) 1 vc]).run Tryz.prog W=.ok (goInt (1:Nat)) (W.setCells w.heap.size ((i)*sz) vs):=λW hWc hWf ty dc =>
  Yc W _ _ ty E w.heap.size ((i)*sz) (n+1-i) dc ⟨vb,0,none⟩ 1 vc sz 1 vs hu hsz (by simp only[Nat.min_def];split <;> cases kI <;> omega) (by cases kI <;> omega)
   (λj v hj=>by rw[Addr.add_lit,hWc,yT];exact hOv _ v (hvs j v hj))
   (λj hj=>by rw[hWc];exact hN _ (by cases kI <;> omega)) (λj hj=>by rw[hWf];exact hNf _) h1v
 have hGn:n+1<=G:=by rw[hG];exact grownCap_ge w _ _ _
 have hG63:G<=9223372036854775807:=by
  have:=grownCap_le_maxLen w (n+1) c E (by unfold maxLen;cases kI <;> omega)
  rw[<- hG] at this
  unfold maxLen at this
  cases kI <;> omega
 have hGi:¬ (G=i):=by cases kI <;> omega
 have hGim:¬ (G=i+1):=by cases kI <;> omega
 have hci:¬ (c=i):=by cases kI <;> omega
 have hbN:b≠w.heap.size:=by cases kI <;> omega
 have hdl:(cs.drop ((i)*sz)).length=(n-i)*sz:=by rw[yF,hcl];cases kI <;> omega
 have hcpB:∀ (W:World),(∀ x,W.cell? x=(W1.setCells w.heap.size ((i)*sz) vs).cell? x)->(∀ x,W.frozen? x=(W1.setCells w.heap.size ((i)*sz) vs).frozen? x)->∀ ty dc sc,(Builtin.copy_ #[S,S] ty #[.slice (some ⟨w.heap.size,(i+1)*sz,none⟩) (n-i) dc,.slice (some ⟨b,(i)*sz,none⟩) (n-i) sc]).run Tryz.prog W=.ok (goInt (n-i:Nat)) (W.setCells w.heap.size ((i+1)*sz) (cs.drop ((i)*sz))):=λW hWc hWf ty dc sc =>
  Yc W _ _ ty E w.heap.size ((i+1)*sz) (n-i) dc ⟨b,(i)*sz,none⟩ (n-i) sc sz (n-i) (cs.drop ((i)*sz)) hu hsz (by simp only[Nat.min_def];split <;> cases kI <;> omega) hdl
   (λj v hj=>by
    rw[Addr.add_lit,hWc,World.cell?_setCells_out _ _ _ _ _ (λh _=>absurd h hbN)]
    exact hOb _ v (hcs ((i)*sz+j) v (by rwa [yP] at hj)))
   (λj hj=>by rw[hWc];exact isSome_setCells w.heap.size vs ((i)*sz) W1 (λt ht=>hN _ (by cases kI <;> omega)) _ (hN _ (by rw[hdl] at hj;cases kI <;> omega)))
   (λj hj=>by rw[hWf,World.frozen?_setCells];exact hNf _) (λv hv=>h1c v (zAf hv))
 subst hW1
 have hE1:∀ x,((w.alloc (.cells ROW E)).drew).cell? x=(w.drew.alloc (.cells ROW E)).cell? x:=λx=>rfl
 have hE2:∀ x,((w.alloc (.cells ROW E)).drew).frozen? x=(w.drew.alloc (.cells ROW E)).frozen? x:=λx=>rfl
 have hF1:∀ x,(((w.alloc (.cells ROW E)).drew.setCells w.heap.size ((i)*sz) vs).drew).cell? x=((w.drew.alloc (.cells ROW E)).setCells w.heap.size ((i)*sz) vs).cell? x:=λx=>rfl
 have hF2:∀ x,(((w.alloc (.cells ROW E)).drew.setCells w.heap.size ((i)*sz) vs).drew).frozen? x=((w.drew.alloc (.cells ROW E)).setCells w.heap.size ((i)*sz) vs).frozen? x:=λx=>rfl
 have hw1:IntKind.i64.wrap ((i:Int)+1)=(i:Int)+1:=by rw[IntKind.wrap_i64];cases kI <;> omega
 have hb1:(0:Int)<=(i:Int)+1:=by cases kI <;> omega
 have hin:i<=n:=by cases kI <;> omega
 have htn:((i:Int)+1).toNat=i+1:=by cases kI <;> omega
 have hb3:(i:Int)<=(n:Int):=by cases kI <;> omega
 clear hkk hik hold hROW hG hRl htl hzc
 cases kI
 all_goals (
  (try simp only[jH] at *)
  first|(go_enter Tryz.func127,Tryz.ntmps127)|(go_enter Tryz.func255,Tryz.ntmps255)|(go_enter Tryz.func256,Tryz.ntmps256)
  go_wp2_with (first
   | (at_builtin;refine Lib.wpList_append_run _ rfl _ _ _ _ rfl _ _ rfl rfl _ _ (hrz _) ?_)
   | (at_builtin;refine wpList_copy_runI _ rfl _ _ _ _ rfl _ _ rfl rfl (hcpA _ hE1 hE2 _ _) ?_)
   | (at_builtin;refine wpList_copy_runI _ rfl _ _ _ _ rfl _ _ rfl rfl (hcpB _ (λ_=>rfl) (λ_=>rfl) _ _ _) ?_))
  go_region_law_o (refine step_copy_runI rfl _ _ _ _ rfl (.slice (some ⟨w.heap.size,_,none⟩) (n-i) (G-(i+1))) (.slice (some ⟨b,_,none⟩) (n-i) (c-i)) (by simp [Act.eval,Act.put]) (by simp [Act.eval,Act.put]) (hcpB _ hF1 hF2 3 (G-(i+1)) (c-i)) ?_)
  go_wp2
  go_ret
  exact⟨R,R⟩)
theorem A3j {F G S E sz bt:Nat} {z:Value} (kI:Ar6 F G S E sz bt z) (vb vc:Nat) (vs:List Value) (w:World) (i0:TypeInfo) (hi0:Tryz.prog.info? E=some i0) (hz0:i0.zero=some z) (hs0:i0.size=sz)
  (hfit:Builtin.nextslicecap (0+1) 0*i0.bytes<=281474976710656) (hvl:vs.length=sz)
  (hvs:∀ j v,vs[j]? = some v->w.cell? ⟨vb,j,none⟩=some v) (h1v:∀ v∈vs,v.oneCell'=true) :
  Calls Tryz.prog F #[.slice none 0 0,.int .i64 ((0:Nat):Int),.slice (some ⟨vb,0,none⟩) 1 vc] w λe w' =>
   e=.returned (.slice (some ⟨w.heap.size,0,none⟩) (0+1) (grownCap w (0+1) 0 E)) /\
   w'=w.drew.alloc (.cells (([]++vs).toArray++Builtin.zeroCells (Value.cells z) (grownCap w (0+1) 0 E-(0+1))) E):=by
 have hu:=A6r kI
 have hsrc:_root_.Go.Src Tryz.prog i0.size S (.slice (some ⟨vb,0,none⟩) 1 vc) 1 vs w:=by
  rw[hs0]
  exact _root_.Go.Src.ofSlice w hu ⟨vb,0,none⟩ 1 vc vs (by cases kI <;> omega) (λj u hj=>by rw[Addr.add_lit,yT];exact hvs j u hj) h1v
 have hold:(Builtin.firstCells i0.size 0 (.slice none 0 0)).run Tryz.prog w.drew=.ok ([]:List Value).toArray w.drew:=by
  rw[hs0]
  exact run_firstCells_none w.drew sz 0 0 0
 have hrun:∀ ty,(Builtin.append_ #[S,S] ty #[.slice none 0 0,.slice (some ⟨vb,0,none⟩) 1 vc]).run Tryz.prog w=.ok (.slice (some ⟨w.heap.size,0,none⟩) (0+1) (grownCap w (0+1) 0 E)) (w.drew.alloc (.cells (([]++vs).toArray++Builtin.zeroCells (Value.cells z) (grownCap w (0+1) 0 E-(0+1))) E)):=λty =>
  run_append_grow_src w S S ty E i0 _ hu hi0 hz0 none 0 0 [] hold _ 1 vs hsrc (by cases kI <;> omega) (by cases kI <;> omega) hfit
 cases kI
 all_goals (
  first|(go_enter Tryz.func127,Tryz.ntmps127)|(go_enter Tryz.func255,Tryz.ntmps255)|(go_enter Tryz.func256,Tryz.ntmps256)
  go_wp2_with (at_builtin;refine Lib.wpList_append_run _ rfl _ _ _ _ rfl _ _ rfl rfl _ _ (hrun _) ?_)
  all_goals (go_ret;first|exact⟨rfl,rfl⟩|exact⟨rfl,by simp [Value.cells]⟩))
theorem A3w {F G S E sz bt:Nat} {z:Value} (kI:Ar6 F G S E sz bt z) {cs vs:List Lf} {n i:Nat} (hcl:cs.length=n*sz) (hvl:vs.length=sz) (hi:i<=n) (hn:(n+1)*bt<=140737488355328) :
  Dk Qx0 F [.arr E sz 0 cs,.arr E sz 0 vs] [.one (.ls 0 n),.one (Ii6 (i:Int)),.one (.ls 1 1)] (λy m'=>y=L7 (.ls 0 (n+1))/\m'=[.arr E sz 0 (cs.take (i*sz)++vs++cs.drop (i*sz)),.dead]):=by
 refine Arj (by cases kI <;> decide) hcl hvl (λw v1 vb vc cur2 xs ys hown hg2 hcell hyl hne hx1 hy1=>?_)
 obtain⟨i0,hi0,hz0,hs0,hb0⟩:=info_parts (Bgh kI)
 have hxl:=hown.1
 have hfitG:∀ {old},old<n+1->Builtin.nextslicecap (n+1) old*i0.bytes<=281474976710656:=λh=>growslice_fits h (by rw[hb0];exact hn)
 have hsz':(Tryz.prog.info? E).map (·.size)=some sz:=by rw[hi0];simp [hs0]
 have hzc:∀ k,(Builtin.zeroCells (Value.cells z) k).size=k*sz:=λk=>by cases kI <;> simp [Builtin.zeroCells,Value.cells]
 have hg63:∀ c,grownCap w (n+1) c E<=maxLen:=λc=>grownCap_le_maxLen w (n+1) c E (by unfold maxLen;cases kI <;> omega)
 have hgge:∀ c,n+1<=grownCap w (n+1) c E:=λc=>grownCap_ge w _ _ _
 rcases hown.2 with⟨rfl,h0⟩|⟨g,cap,cur,rfl,_,hg,hnc,hcm,hcs,hct⟩
 ·subst h0
  have hi0':i=0:=by cases kI <;> omega
  subst hi0'
  have hx0:xs=[]:=List.length_eq_zero_iff.1 (hxl.trans (wZ _))
  subst hx0
  refine(A3j kI vb vc ys w i0 hi0 hz0 hs0 (hfitG (by cases kI <;> omega)) hyl hcell hy1).mono ?_
  rintro e w' ⟨rfl,rfl⟩
  refine⟨_,w.heap.size,R,Af6 (hgge 0) (hg63 0) ?_ ?_,.inr (zT _)⟩
  ·have:=hgge 0
   rw[wQ,hzc,yI,wO,hyl];cases kI <;> omega
  ·rw[kV,xY,kT (by rw[wO,hyl,yT,wW])]
   cases kI <;> simp
 ·have hcur:cur.toList.length=cap*sz:=by rw[yL];exact hcs
  have hcell1:∀ j v,xs[j]? = some v->w.cell? ⟨g,j,none⟩=some v:=λj v hj=>by
   unfold World.cell?
   rw[hg]
   rw[<- hct,yR] at hj
   split at hj
   ·simpa using hj
   ·cases hj
  have hc63:cap<=9223372036854775807:=by unfold maxLen at hcm;exact hcm
  have hsome:∀ j,j<cap*sz->(w.cell? ⟨g,j,none⟩).isSome=true:=λj hj=>by
   unfold World.cell?
   rw[hg]
   show(cur[j]?).isSome=true
   rw[z9 (by cases kI <;> omega)];rfl
  have hfrz:∀ j,w.frozen? ⟨g,j,none⟩=false:=λj=>by
   unfold World.frozen?
   rw[hg]
   show(decide (0<=j)&&decide (j<0))=false
   rw[decide_eq_false (zW j),j3]
  have hfrz2:∀ j,w.frozen? ⟨vb,j,none⟩=false:=λj=>by
   unfold World.frozen?
   rw[hg2]
   show(decide (0<=j)&&decide (j<0))=false
   rw[decide_eq_false (zW j),j3]
  have hvb:vb≠g:=λe=>hne (by rw[e];rfl)
  rcases Nat.lt_or_eq_of_le hi with hlt|rfl
  ·rcases zQ cap (n+1) with hroom|hroom
   ·refine(Aw0 kI g n cap i vb vc xs ys w i0 hi0 hz0 hs0 hlt hnc hroom (by cases kI <;> omega) (by rw[hb0];cases kI <;> omega) (hfitG hroom) hxl hyl hcell1 hcell hx1 hy1).mono ?_
    rintro e w' ⟨rfl,rfl⟩
    have hge:=hgge cap
    have htl:(xs.take (i*sz)).length=i*sz:=by rw[zR];cases kI <;> omega
    have:=Alf (E:=E) (sz:=sz) (w:=w) (row:=(xs.take (i*sz)).toArray++Builtin.zeroCells (Value.cells z) (n+1-i)++Builtin.zeroCells (Value.cells z) (grownCap w (n+1) cap E-(n+1))) (xs:=xs.take (i*sz)) (vs:=ys) (D:=xs.drop (i*sz)) hlt hge (hg63 cap)
     (by rw[wQ,wQ,hzc,hzc,yI,htl];cases kI <;> omega) hyl (by rw[yF,hxl];cases kI <;> omega)
     (by rw[kV,kV,xY,xE,kT htl])
    refine⟨_,w.heap.size,R,?_,.inr (zT _)⟩
    first|exact this|simpa only [jH] using this
   ·refine(Asr kI g n cap i vb vc xs ys w hsz' hlt hroom hc63 hvb hxl hyl hcell1 (λj hj=>hsome j (by cases kI <;> omega)) (λj _=>hfrz j) hcell hx1 hy1 E E cur2.size cur.size (by unfold World.shape?;rw[hg2]) (by unfold World.shape?;rw[hg]) (by cases kI <;> omega) (hfrz2 _) (hfrz2 _)).mono ?_
    rintro e w' ⟨rfl,rfl⟩
    have:=Ajn (E:=E) (sz:=sz) (b:=g) (vs:=ys) hg hlt hroom hcm hcs hyl
    rw[hct] at this
    refine⟨_,g,R,?_,.inl R⟩
    first|exact this|simpa only [jH] using this
  ·have hxe:xs.take (i*sz)++ys++xs.drop (i*sz)=xs++ys:=by
    rw[yJ (by cases kI <;> omega),wN (by cases kI <;> omega),xC]
   rw[hxe]
   rcases zQ cap (i+1) with hroom|hroom
   ·refine(Auj kI g i cap vb vc xs ys w i0 hi0 hz0 hs0 hnc hroom (by cases kI <;> omega) (hfitG hroom) hxl hyl hcell1 hcell hy1).mono ?_
    rintro e w' ⟨rfl,rfl⟩
    have hge:=hgge cap
    refine⟨_,w.heap.size,R,Af6 hge (hg63 cap) ?_ ?_,.inr (zT _)⟩
    ·rw[wQ,hzc,yI,zI,hxl,hyl];cases kI <;> omega
    ·rw[kV,xY,kT (by rw[zI,hxl,hyl];cases kI <;> omega)]
   ·refine(A2o kI g i cap vb vc ys w i0 hi0 hs0 hroom hc63 hyl (λj hj=>hsome _ (by cases kI <;> omega)) (λj _=>hfrz _) hcell hy1).mono ?_
    rintro e w' ⟨rfl,rfl⟩
    have:=An8 (E:=E) (sz:=sz) (n:=i) (b:=g) (vs:=ys) hg hroom hcm hcs hyl
    rw[hct] at this
    exact⟨_,g,R,this,.inl R⟩
def TDs:Nat->Type
  | 0=>Ae
  | 1=>Au
  | 2=>As
  | 3=>Aj
  | 4=>Ai
  | 5=>Ab
  | 6=>Ao
  | 7=>Ac
  | 8=>Am
  | 9=>Ag
  | 10=>Af
  | 11=>Al
  | 12=>Ah
  | 13=>Aq
  | 14=>Aa
  | 15=>Ic
  | 16=>B8
  | _+17=>Unit
def TEs:(n:Nat)->TDs n->List Lf
  | 0,v=>A0 v
  | 1,v=>Agk v
  | 2,v=>B3 v
  | 3,v=>Ace v
  | 4,v=>Bq v
  | 5,v=>Az v
  | 6,v=>Adj v
  | 7,v=>Av v
  | 8,v=>Ado v
  | 9,v=>A2 v
  | 10,v=>Akd v
  | 11,v=>Bs v
  | 12,v=>Abb v
  | 13,v=>Hj v
  | 14,v=>Afl v
  | 15,v=>Ai8 v
  | 16,v=>Ake v
  | _+17,_=>[]
def TSs:Nat->Nat
  | 0=>3
  | 1=>1
  | 2=>2
  | 3=>3
  | 4=>3
  | 5=>1
  | 6=>3
  | 7=>4
  | 8=>1
  | 9=>8
  | 10=>2
  | 11=>4
  | 12=>1
  | 13=>6
  | 14=>8
  | 15=>11
  | 16=>5
  | _+17=>0
def TTs:TT:=⟨TDs,TEs,TSs,λn v=>match n,v with
  | 0,_=>rfl
  | 1,_=>rfl
  | 2,_=>rfl
  | 3,_=>rfl
  | 4,_=>rfl
  | 5,_=>rfl
  | 6,_=>rfl
  | 7,_=>rfl
  | 8,_=>rfl
  | 9,_=>rfl
  | 10,_=>rfl
  | 11,_=>rfl
  | 12,_=>rfl
  | 13,_=>rfl
  | 14,_=>rfl
  | 15,_=>rfl
  | 16,_=>rfl
  | _+17,_=>rfl⟩
def TLs:Nat->List Tc
  | 0=>[.sl .u8,.sl .u8,.bool]
  | 1=>[.sl (.st 0)]
  | 2=>[.sl .u8,.sl .u8]
  | 3=>[.sl .u8,.sl .u8,.bool]
  | 4=>[.int .i64,.sl .u8,.bool]
  | 5=>[.sl (.st 4)]
  | 6=>[.sl (.sl .u8),.sl (.st 5),.int .i64]
  | 7=>[.int .i64,.sl .u8,.sl .u8,.bool]
  | 8=>[.sl (.st 7)]
  | 9=>[.int .i64,.int .i64,.int .i64,.int .i64,.bool,.bool,.bool,.sl (.sl .u8)]
  | 10=>[.sl (.st 9),.sl (.st 7)]
  | 11=>[.int .i64,.int .i64,.int .i64,.int .i64]
  | 12=>[.sl (.st 11)]
  | 13=>[.int .i64,.int .i64,.int .i64,.int .i64,.bool,.sl (.st 0)]
  | 14=>[.sl (.sl .u8),.sl (.st 5),.int .i64,.sl (.st 9),.sl (.st 7),.sl (.st 11),.sl (.st 13),.int .i64]
  | 15=>[.int .i64,.int .i64,.int .i64,.int .i64,.bool,.bool,.sl .u8,.sl .u8,.sl .u8,.sl .u8,.bool]
  | 16=>[.int .i64,.bool,.sl .u8,.sl (.st 2),.int .i64]
  | _+17=>[]
def TTo:(n:Nat)->TDs n->Vv TTs (TLs n)
  | 0,v=>(v.Key,(v.Val,(v.Del,())))
  | 1,v=>(v.L,())
  | 2,v=>(v.Key,(v.Val,()))
  | 3,v=>(v.Lo,(v.Hi,(v.Open,())))
  | 4,v=>(v.Ts,(v.Val,(v.Del,())))
  | 5,v=>(v.L,())
  | 6,v=>(v.Keys,(v.Chains,(v.Ts,())))
  | 7,v=>(v.Tx,(v.Rng.Lo,(v.Rng.Hi,(v.Rng.Open,()))))
  | 8,v=>(v.L,())
  | 9,v=>(v.ID,(v.Begin,(v.End,(v.State,(v.In,(v.Out,(v.RO,(v.Keys,()))))))))
  | 10,v=>(v.Txs,(v.Reads.L,()))
  | 11,v=>(v.Tok,(v.Attempt,(v.State,(v.Ts,()))))
  | 12,v=>(v.L,())
  | 13,v=>(v.ID,(v.Token,(v.Attempt,(v.Snap,(v.RO,(v.Buf.L,()))))))
  | 14,v=>(v.Store.Keys,(v.Store.Chains,(v.Store.Ts,(v.Cert.Txs,(v.Cert.Reads.L,(v.Toks.L,(v.Open,(v.Next,()))))))))
  | 15,v=>(v.What,(v.N,(v.Token,(v.Attempt,(v.RO,(v.Del,(v.Key,(v.Val,(v.Rng.Lo,(v.Rng.Hi,(v.Rng.Open,())))))))))))
  | 16,v=>(v.n_,(v.found_,(v.v_,(v.l_,(v.e_,())))))
  | _+17,_=>()
def TOf:(n:Nat)->Vv TTs (TLs n)->TDs n
  | 0,v=>((Ae.mk v.1 v.2.1 v.2.2.1):Ae)
  | 1,v=>((Au.mk v.1):Au)
  | 2,v=>((As.mk v.1 v.2.1):As)
  | 3,v=>((Aj.mk v.1 v.2.1 v.2.2.1):Aj)
  | 4,v=>((Ai.mk v.1 v.2.1 v.2.2.1):Ai)
  | 5,v=>((Ab.mk v.1):Ab)
  | 6,v=>((Ao.mk v.1 v.2.1 v.2.2.1):Ao)
  | 7,v=>((Ac.mk v.1 (Aj.mk v.2.1 v.2.2.1 v.2.2.2.1)):Ac)
  | 8,v=>((Am.mk v.1):Am)
  | 9,v=>((Ag.mk v.1 v.2.1 v.2.2.1 v.2.2.2.1 v.2.2.2.2.1 v.2.2.2.2.2.1 v.2.2.2.2.2.2.1 v.2.2.2.2.2.2.2.1):Ag)
  | 10,v=>((Af.mk v.1 (Am.mk v.2.1)):Af)
  | 11,v=>((Al.mk v.1 v.2.1 v.2.2.1 v.2.2.2.1):Al)
  | 12,v=>((Ah.mk v.1):Ah)
  | 13,v=>((Aq.mk v.1 v.2.1 v.2.2.1 v.2.2.2.1 v.2.2.2.2.1 (Au.mk v.2.2.2.2.2.1)):Aq)
  | 14,v=>((Aa.mk (Ao.mk v.1 v.2.1 v.2.2.1) (Af.mk v.2.2.2.1 (Am.mk v.2.2.2.2.1)) (Ah.mk v.2.2.2.2.2.1) v.2.2.2.2.2.2.1 v.2.2.2.2.2.2.2.1):Aa)
  | 15,v=>((Ic.mk v.1 v.2.1 v.2.2.1 v.2.2.2.1 v.2.2.2.2.1 v.2.2.2.2.2.1 v.2.2.2.2.2.2.1 v.2.2.2.2.2.2.2.1 (Aj.mk v.2.2.2.2.2.2.2.2.1 v.2.2.2.2.2.2.2.2.2.1 v.2.2.2.2.2.2.2.2.2.2.1)):Ic)
  | 16,v=>((B8.mk v.1 v.2.1 v.2.2.1 v.2.2.2.1 v.2.2.2.2.1):B8)
  | _+17,_=>()
instance:TX TTs:=TX.of TLs TTo TOf (λn v _=>match n,v with
  | 0,_=>rfl
  | 1,_=>rfl
  | 2,_=>rfl
  | 3,_=>rfl
  | 4,_=>rfl
  | 5,_=>rfl
  | 6,_=>rfl
  | 7,_=>rfl
  | 8,_=>rfl
  | 9,_=>rfl
  | 10,_=>rfl
  | 11,_=>rfl
  | 12,_=>rfl
  | 13,_=>rfl
  | 14,_=>rfl
  | 15,_=>rfl
  | 16,_=>rfl
  | _+17,_=>rfl) (λn v=>match n,v with
  | 0,_=>rfl
  | 1,_=>rfl
  | 2,_=>rfl
  | 3,_=>rfl
  | 4,_=>rfl
  | 5,_=>rfl
  | 6,_=>rfl
  | 7,_=>rfl
  | 8,_=>rfl
  | 9,_=>rfl
  | 10,_=>rfl
  | 11,_=>rfl
  | 12,_=>rfl
  | 13,_=>rfl
  | 14,_=>rfl
  | 15,_=>rfl
  | 16,_=>rfl
  | _+17,_=>rfl) (λn=>match n with
  | 0=>rfl
  | 1=>rfl
  | 2=>rfl
  | 3=>rfl
  | 4=>rfl
  | 5=>rfl
  | 6=>rfl
  | 7=>rfl
  | 8=>rfl
  | 9=>rfl
  | 10=>rfl
  | 11=>rfl
  | 12=>rfl
  | 13=>rfl
  | 14=>rfl
  | 15=>rfl
  | 16=>rfl
  | _+17=>rfl)
noncomputable instance:El TTs Qx0:=elT [ey 25 56 24 (.sl .u8) [.raw (.slice none 0 0)],ey 61 157 48 (.st 2) [.raw (.slice none 0 0),.raw (.slice none 0 0)],ey 225 3 8 (.int .i64) [.i .i64 0],ey 30 142 64 (.st 7) [.i .i64 0,.raw (.slice none 0 0),.raw (.slice none 0 0),.b false],ey 38 88 64 (.st 13) [.i .i64 0,.i .i64 0,.i .i64 0,.i .i64 0,.b false,.raw (.slice none 0 0)],ey 29 139 64 (.st 9) [.i .i64 0,.i .i64 0,.i .i64 0,.i .i64 0,.b false,.b false,.b false,.raw (.slice none 0 0)],ey 35 145 32 (.st 11) [.i .i64 0,.i .i64 0,.i .i64 0,.i .i64 0],ey 312 29 24 (.sl (.st 9)) [.raw (.slice none 0 0)],ey 246 38 24 (.sl (.st 13)) [.raw (.slice none 0 0)],ey 56 5 1 .u8 [.i .u8 0],ey 262 5 1 .u8 [.i .u8 0],ey 396 30 24 (.sl (.st 7)) [.raw (.slice none 0 0)],ey 84 99 56 (.st 0) [.raw (.slice none 0 0),.raw (.slice none 0 0),.b false],ey 26 134 24 (.st 5) [.raw (.slice none 0 0)],ey 132 136 40 (.st 4) [.i .i64 0,.raw (.slice none 0 0),.b false],ey 408 132 24 (.sl (.st 4)) [.raw (.slice none 0 0)],ey 337 35 24 (.sl (.st 11)) [.raw (.slice none 0 0)],ey 53 127 64 (.st 13) [.i .i64 0,.i .i64 0,.i .i64 0,.i .i64 0,.b false,.raw (.slice none 0 0)],ey 45 143 64 (.st 7) [.i .i64 0,.raw (.slice none 0 0),.raw (.slice none 0 0),.b false],ey 44 140 64 (.st 9) [.i .i64 0,.i .i64 0,.i .i64 0,.i .i64 0,.b false,.b false,.b false,.raw (.slice none 0 0)],ey 50 146 32 (.st 11) [.i .i64 0,.i .i64 0,.i .i64 0,.i .i64 0],ey 129 137 40 (.st 4) [.i .i64 0,.raw (.slice none 0 0),.b false],ey 41 131 24 (.st 5) [.raw (.slice none 0 0)]]
def anN:An TTs:=⟨λ_=>none,λ_=>[]⟩
abbrev CT:=Am3 TTs Qx0
theorem Bae:EqT Qx0 146 [0,0,0,0]:=⟨by kernel_rfl,by kernel_rfl,by kernel_rfl,by kernel_rfl⟩
def Co (a0:List UInt8):Option Bool :=
 if (decide (1<=(a0.length:Int))) then(some (decide ((a0.length:Int)<=16))) else(some false)
noncomputable def c62:CT:=vK1 62 [.sl .u8] .bool ⟨[],[]⟩ anN Tryz.func62 (λa=>Co a.1)
def Bt (a0:Ae):Option Bool :=
 (Co a0.Key).bind λv1=>if v1 then(if (decide ((a0.Val.length:Int)<=32)) then(if a0.Del then(some (!(decide (0<(a0.Val.length:Int))))) else(some true)) else(some false)) else(some false)
noncomputable def Bcp:CT:=vK1 124 [.st 0] .bool ⟨[c62],[]⟩ anN Tryz.func124 (λa=>Bt a.1)
theorem Uy {a0:Ae} {r:Bool} (h:Bt a0=some r):Bc Qx0 124 [.agg (EL.el a0)] (·=L7 (.b r)):=Bcp.ok (a0,()) r h
def W9 (b1:(List (List UInt8))):Option (List (List UInt8)) :=
 some b1
def J8 (a0:Au) (s2:Int×(List (List UInt8))):Option (LB (Int×(List (List UInt8))) ((List (List UInt8)))) :=
 if (decide (s2.1<(a0.L.length:Int))) then((idx a0.L s2.1).bind λu3=>if (s2.2.length+[u3.Key].length)*24<=140737488355328 then(some (.cont ((wI (s2.1+1)),(s2.2++[u3.Key])))) else none) else(some (.brk s2.2))
def Cs (a0:Au):Option (List (List UInt8)) :=
 (Be (J8 a0) fuel (0,([]:List (List UInt8)))).bind λe5=>W9 e5
noncomputable def Bb6:CT:=vK1 125 [.st 1] (.sl (.sl .u8)) ⟨[],[]⟩ (⟨λn=>match n with
  | 3=>some (lF ⟨[(3,.own 1),(9,.v (.int .i64))],[.keep,.arr 56 1 0 ((.sl .u8))]⟩ 0 ⟨[(3,.own 1)],[.keep,.arr 56 1 0 ((.sl .u8))]⟩ false)
  | _=>none,λn=>match n with
  | 3=>[.t 3 56 1 (.sl .u8)]
  | _=>[]⟩) Tryz.func125 (λa=>Cs a.1)
theorem Y9 {a0:Au} {r:(List (List UInt8))} (h:Cs a0=some r):Bc Qx0 125 [.agg [SL a0.L A0]] (·=L7 (SL r (eL eU8))):=Bb6.ok (a0,()) r h
def Mz (a0:List UInt8) (a1:List UInt8):Option Int :=
 some (Ce a0 a1)
theorem Yz {a0:List UInt8} {a1:List UInt8} {r:Int} (h:Mz a0 a1=some r):Bc Qx0 219 [.one (SL a0 eU8),.one (SL a1 eU8)] (·=L7 (Ii6 r)):=by
 refine Cg Tryz.func219 R (nt:=8) R (Nbl R) ?_
 intro w0 S0
 refine crs R (csr (rm 2 R (sv R (Axa (a:=a0) (b:=a1) A7u R R R R R R) (rsn R (Pj ?_)))))
 cases SJ h
 exact dnT R R R R
noncomputable def Bec:CT:=⟨219,[.sl .u8,.sl .u8],[.int .i64],Int,λr=>(r,()),λa=>Mz a.1 a.2.1,λ_ _ h=>Yz h⟩
def F3 (a0:List UInt8) (a1:List UInt8):Option Int :=
 (Mz a0 a1).bind λv1=>some v1
noncomputable def A8t:CT:=vK1 150 [.sl .u8,.sl .u8] (.int .i64) ⟨[Bec],[]⟩ anN Tryz.func150 (λa=>F3 a.1 a.2.1)
theorem Agq {a0:List UInt8} {a1:List UInt8} {r:Int} (h:F3 a0 a1=some r):Bc Qx0 150 [.one (SL a0 eU8),.one (SL a1 eU8)] (·=L7 (Ii6 r)):=A8t.ok (a0,a1,()) r h
def Aag (b1:Unit):Option Bool :=
 some true
def Bm (a0:List (List UInt8)) (s2:Int):Option (LR (Int) (Unit) (Bool)) :=
 if (decide (s2<(a0.length:Int))) then((idx a0 (wI (s2-1))).bind λu3=>(idx a0 s2).bind λu4=>(F3 u3 u4).bind λv5=>if (decide (0<=v5)) then(some (.ret false)) else(some (.cont (wI (s2+1))))) else(some (.brk ()))
def Bi (a0:List (List UInt8)):Option Bool :=
 (B7 (Bm a0) fuel 1).bind λx=>match x with | .inl r=>some r | .inr e6=>Aag e6
noncomputable def A8f:CT:=vK1 181 [.sl (.sl .u8)] .bool ⟨[A8t],[]⟩ (⟨λn=>match n with
  | 2=>some (lF ⟨[(3,.v (.int .i64))],[]⟩ 0 ⟨[],[]⟩ true)
  | _=>none,λ_=>[]⟩) Tryz.func181 (λa=>Bi a.1)
def L3 (a0:Au) (b1:Unit):Option Bool :=
 if (decide ((a0.L.length:Int)<=16)) then((Cs a0).bind λv2=>(Bi v2).bind λv3=>some v3) else(some false)
def Ik (a0:Au) (s4:Int):Option (LR (Int) (Unit) (Bool)) :=
 if (decide (s4<(a0.L.length:Int))) then((idx a0.L s4).bind λu5=>(Bt u5).bind λv6=>if (!v6) then(some (.ret false)) else(some (.cont (wI (s4+1))))) else(some (.brk ()))
def Df (a0:Au):Option Bool :=
 (B7 (Ik a0) fuel 0).bind λx=>match x with | .inl r=>some r | .inr e7=>L3 a0 e7
noncomputable def Bbo:CT:=vK1 119 [.st 1] .bool ⟨[Bcp,Bb6,A8f],[]⟩ (⟨λn=>match n with
  | 2=>some (lF ⟨[(8,.v (.int .i64))],[.keep]⟩ 0 ⟨[],[.keep]⟩ true)
  | _=>none,λ_=>[]⟩) Tryz.func119 (λa=>Df a.1)
theorem Ry {a0:Au} {r:Bool} (h:Df a0=some r):Bc Qx0 119 [.agg [SL a0.L A0]] (·=L7 (.b r)):=Bbo.ok (a0,()) r h
def Em (b1:(List (List UInt8))):Option Bool :=
 (Bi b1).bind λv2=>some v2
def Ei (a0:List As) (s3:Int×(List (List UInt8))):Option (LB (Int×(List (List UInt8))) ((List (List UInt8)))) :=
 if (decide (s3.1<(a0.length:Int))) then((idx a0 s3.1).bind λu4=>if (s3.2.length+[u4.Key].length)*24<=140737488355328 then(some (.cont ((wI (s3.1+1)),(s3.2++[u4.Key])))) else none) else(some (.brk s3.2))
def Dq (a0:List As):Option Bool :=
 (Be (Ei a0) fuel (0,([]:List (List UInt8)))).bind λe6=>Em e6
noncomputable def Be2:CT:=vK1 120 [.sl (.st 2)] .bool ⟨[A8f],[]⟩ (⟨λn=>match n with
  | 3=>some (lF ⟨[(3,.own 0),(8,.v (.int .i64))],[.arr 56 1 0 ((.sl .u8))]⟩ 0 ⟨[(3,.own 0)],[.arr 56 1 0 ((.sl .u8))]⟩ false)
  | _=>none,λn=>match n with
  | 3=>[.t 3 56 1 (.sl .u8)]
  | _=>[]⟩) Tryz.func120 (λa=>Dq a.1)
theorem Zt {a0:List As} {r:Bool} (h:Dq a0=some r):Bc Qx0 120 [.one (SL a0 B3)] (·=L7 (.b r)):=Be2.ok (a0,()) r h
def Er (a0:Aj) (a1:List UInt8):Option Bool :=
 (F3 a1 a0.Lo).bind λv1=>if (decide (0<=v1)) then(if a0.Open then(some true) else((F3 a1 a0.Hi).bind λv2=>some (decide (v2<0)))) else(some false)
noncomputable def A9m:CT:=vK1 121 [.st 3,.sl .u8] .bool ⟨[A8t],[]⟩ anN Tryz.func121 (λa=>Er a.1 a.2.1)
theorem Rn {a0:Aj} {a1:List UInt8} {r:Bool} (h:Er a0 a1=some r):Bc Qx0 121 [.agg (EL.el a0),.one (SL a1 eU8)] (·=L7 (.b r)):=A9m.ok (a0,a1,()) r h
def kvk (x:As):List UInt8:=x.Key
def kB (x:As):ByteArray:=⟨x.Key.toArray⟩
theorem Alb {t:List As} {j:Nat} {k:List UInt8} (h:(t.map kB)[j]? = some ⟨k.toArray⟩):(t.map kvk)[j]? = some k:=by
 rw[zK] at h ⊢
 cases ht:t[j]? with
 | none=>rw[ht] at h;cases h
 | some x =>
  rw[ht] at h
  have h1:(⟨x.Key.toArray⟩:ByteArray)=⟨k.toArray⟩:=zF h
  have h2:x.Key.toArray=k.toArray:=congrArg ByteArray.data h1
  have h3:x.Key=k:=by have:=congrArg Array.toList h2;simpa using this
  rw[xM];exact congrArg some h3
theorem Aub {t:List As} {k:List UInt8} (h:(⟨k.toArray⟩:ByteArray)∉t.map kB):k∉t.map kvk:=λhk=>by
 obtain⟨x,hx,rfl⟩:=yA.1 hk
 exact h (yA.2 ⟨x,hx,R⟩)
theorem A0o {t:List As} {j:Nat} {x:As} (h:(t.map kvk)[j]? = some (kvk x)):(t.set j x).map kB=t.map kB:=by
 rw[x9]
 apply wA
 intro i
 rw[kG]
 by_cases hij:j=i
 ·subst hij
  rw[zK] at h ⊢
  cases ht:t[j]? with
  | none=>rw[ht] at h;cases h
  | some y =>
   rw[ht] at h
   have h2:y.Key=x.Key:=zF h
   have hlt:j<t.length:=(zB.1 ht).1
   rw[if_pos rfl,if_pos (by simpa using hlt),xM]
   show some (ByteArray.mk x.Key.toArray)=some (ByteArray.mk y.Key.toArray)
   rw[h2]
 ·rw[if_neg hij]
theorem A42 {W:World} {S:Dx} {a b:List UInt8} {va vb:Value} (h1:Rep W S (.sl a.length (a.flatMap eU8)) va) (h2:Rep W S (.sl b.length (b.flatMap eU8)) vb):(callFunc 259 #[va,vb]).run Tryz.prog W=.ok (.value (.int .i64 (Ce a b))) W:=by
 rw[<- Asi] at h1 h2
 obtain⟨fn,q1,q2,q3,q4,q5⟩:=A7u.h
 have hrun:(Extern.BytealgCompare.compare #[va,vb]).run Tryz.prog W=.ok (.int .i64 (Ce a b)) W:=by
  change Sem.run Tryz.prog (do
   let p <- Extern.Bytes.bytesOf va
   let q <- Extern.Bytes.bytesOf vb
   pure (goInt (Extern.BytealgCompare.cmp p q))) W=_
  simp only[Sem.run_bind,Us h1,Us h2,Result.andThen_ok,A0p,Sem.run_pure]
  rfl
 have hcall:=run_callFunc_extern (P:=Tryz.prog) q1 q2 q3 q4 q5 #[va,vb] W
 rw[hrun] at hcall
 simpa using hcall
theorem A2w {W:World} {S:Dx} {a b:List UInt8} {va vb:Value} (h1:Rep W S (.sl a.length (a.flatMap eU8)) va) (h2:Rep W S (.sl b.length (b.flatMap eU8)) vb):Calls Tryz.prog 219 #[va,vb] W λe w'=>e=.returned (.int .i64 (Ce a b))/\w'=W:=by
 have hx:=A42 h1 h2
 generalize Ce a b=r at hx ⊢
 clear h1 h2
 go_enter Tryz.func219,Tryz.ntmps219
 go_wp2
 go_ret
 exact⟨R,R⟩
theorem A06 {W:World} {S:Dx} {a b:List UInt8} {va vb:Value} (h1:Rep W S (.sl a.length (a.flatMap eU8)) va) (h2:Rep W S (.sl b.length (b.flatMap eU8)) vb):Calls Tryz.prog 150 #[va,vb] W λe w'=>e=.returned (.int .i64 (Ce a b))/\w'=W:=by
 have hcon:=A2w h1 h2
 generalize Ce a b=r at hcon ⊢
 clear h1 h2
 go_enter Tryz.func150,Tryz.ntmps150
 go_wp2_with (go_at_call 219;refine hcon.mono ?_;rintro e w' ⟨rfl,rfl⟩)
 go_ret
 exact⟨R,R⟩
theorem A7e {W:World} {S:Dx} {a b:List UInt8} {va vb ua ub:Value} (hS:∀ b i,S b i->b<W.heap.size) (h1:Rep W S (.sl a.length (a.flatMap eU8)) va) (h2:Rep W S (.sl b.length (b.flatMap eU8)) vb) (oc:ua.oneCell'=true) (od:ub.oneCell'=true) :
  Calls Tryz.prog 123 #[.agg #[va,ua],.agg #[vb,ub]] W λe w'=>e=.returned (.int .i64 (Ce a b))/\∃ q os',w'=Go.Sort.grow (W.drewN q) os':=by
 have oa:=h1.oneCell
 have ob:=h2.oneCell
 have hcon:∀ o1 o2:Obj,Calls Tryz.prog 150 #[va,vb] ((W.alloc o1).alloc o2) λe w'=>e=.returned (.int .i64 (Ce a b))/\w'=(W.alloc o1).alloc o2:=λo1 o2=>by
  have k1:∀ b i,S b i->S b i/\((W.alloc o1).alloc o2).cell? ⟨b,i,none⟩=W.cell? ⟨b,i,none⟩:=λb i hs =>
   ⟨hs,World.cell?_of_block (w:=W) ((Below.heap_alloc _ o2 b (by have:=hS b i hs;simp;omega)).trans (Below.heap_alloc W o1 b (hS b i hs)))⟩
  exact A06 (h1.mono k1) (h2.mono k1)
 generalize Ce a b=r at hcon ⊢
 clear h1 h2
 go_enter Tryz.func123,Tryz.ntmps123
 go_wp2_with (go_at_call 150;refine(hcon _ _).mono ?_;rintro e w' ⟨rfl,rfl⟩)
 go_ret
 exact⟨rfl,0,_,by rw[Go.Sort.alloc_eq_grow,Go.Sort.alloc_eq_grow,Go.Sort.grow_grow];rfl⟩
def Ahj:Go.Shelf.Ren:=⟨λ| 6=>122|15=>191|14=>190|28=>246|29=>247|20=>238|21=>239|22=>240|23=>241|24=>242|25=>243|26=>244|27=>245|46=>262|47=>263|48=>264|49=>265|50=>266|57=>277|n=>n,λ| 22=>61|24=>157|25=>235|3=>3|39=>307|0=>0|53=>365|55=>367|4=>4|46=>359|45=>358|50=>177|5=>5|9=>9|66=>389|70=>393|76=>404|77=>405|n=>n,λ| n=>n⟩
theorem ftr {n:Nat} {a b:Func} (h:Tryz.prog.funcs[n]? = some a) (e:a=b):Tryz.prog.funcs[n]? = some b:=h.trans (congrArg some e)
theorem A55 : Go.Proofs.SlLaysF0.n6 Tryz.prog Ahj := ⟨by kernel_rfl, ⟨ "slices.SortFunc[[]godwit/api.KV,godwit/api.KV]", by decide, ftr Tryz.func122 (by kernel_rfl)⟩, ⟨ "slices.pdqsortCmpFunc[godwit/api.KV]", by decide, ftr Tryz.func190 (by kernel_rfl)⟩, ftr Tryz.func191 (by kernel_rfl), ⟨ "slices.insertionSortCmpFunc[godwit/api.KV]", by decide, ftr Tryz.func238 (by kernel_rfl)⟩, ⟨ "slices.heapSortCmpFunc[godwit/api.KV]", by decide, ftr Tryz.func239 (by kernel_rfl)⟩, ⟨ "slices.breakPatternsCmpFunc[godwit/api.KV]", by decide, ftr Tryz.func240 (by kernel_rfl)⟩, ⟨ "slices.choosePivotCmpFunc[godwit/api.KV]", by decide, ftr Tryz.func241 (by kernel_rfl)⟩, ⟨ "slices.reverseRangeCmpFunc[godwit/api.KV]", by decide, ftr Tryz.func242 (by kernel_rfl)⟩, ⟨ "slices.partialInsertionSortCmpFunc[godwit/api.KV]", by decide, ftr Tryz.func243 (by kernel_rfl)⟩, ⟨ "slices.partitionEqualCmpFunc[godwit/api.KV]", by decide, ftr Tryz.func244 (by kernel_rfl)⟩, ⟨ "slices.partitionCmpFunc[godwit/api.KV]", by decide, ftr Tryz.func245 (by kernel_rfl)⟩, ftr Tryz.func246 (by kernel_rfl), ftr Tryz.func247 (by kernel_rfl), ⟨ "slices.siftDownCmpFunc[godwit/api.KV]", by decide, ftr Tryz.func262 (by kernel_rfl)⟩, ftr Tryz.func263 (by kernel_rfl), ftr Tryz.func264 (by kernel_rfl), ⟨ "slices.medianAdjacentCmpFunc[godwit/api.KV]", by decide, ftr Tryz.func265 (by kernel_rfl)⟩, ⟨ "slices.medianCmpFunc[godwit/api.KV]", by decide, ftr Tryz.func266 (by kernel_rfl)⟩, ⟨ "slices.order2CmpFunc[godwit/api.KV]", by decide, ftr Tryz.func277 (by kernel_rfl)⟩, Tryz.underlying0, Tryz.isAgg0, Tryz.sizeOf0, Tryz.zeroValue0, Tryz.underlying3, Tryz.isAgg3, Tryz.sizeOf3, Tryz.zeroValue3, Tryz.underlying4, Tryz.isAgg4, Tryz.sizeOf4, Tryz.zeroValue4, Tryz.underlying5, Tryz.isAgg5, Tryz.sizeOf5, Tryz.zeroValue5, Tryz.underlying9, Tryz.isAgg9, Tryz.sizeOf9, Tryz.zeroValue9, Tryz.underlying61, Tryz.isAgg61, Tryz.sizeOf61, Tryz.zeroValue61, Tryz.underlying235, Tryz.isAgg235, Tryz.sizeOf235, Tryz.zeroValue235, Tryz.underlying307, Tryz.isAgg307, Tryz.sizeOf307, Tryz.zeroValue307, Tryz.underlying358, Tryz.isAgg358, Tryz.sizeOf358, Tryz.zeroValue358, Tryz.underlying359, Tryz.isAgg359, Tryz.sizeOf359, Tryz.zeroValue359, Tryz.underlying177, Tryz.isAgg177, Tryz.sizeOf177, Tryz.zeroValue177, Tryz.underlying365, Tryz.isAgg365, Tryz.sizeOf365, Tryz.zeroValue365, Tryz.underlying367, Tryz.isAgg367, Tryz.sizeOf367, Tryz.zeroValue367, Tryz.underlying389, Tryz.isAgg389, Tryz.sizeOf389, Tryz.zeroValue389, Tryz.underlying393, Tryz.isAgg393, Tryz.sizeOf393, Tryz.zeroValue393, Tryz.underlying404, Tryz.isAgg404, Tryz.sizeOf404, Tryz.zeroValue404, Tryz.underlying405, Tryz.isAgg405, Tryz.sizeOf405, Tryz.zeroValue405⟩
theorem Au7 {xs:List As} (hn:xs.length<=1000000000000000000) (hd:Ib kvk xs):Dk Qx0 122 [.arr 157 2 0 (xs.flatMap B3)] [.one (.ls 0 xs.length),.one (.raw (.func (.func 123) #[] #[]))] (λy m'=>y=.tup []/\m'=[.arr 157 2 0 ((Ajw kvk xs).flatMap B3)]) :=
 A6i (ρ:=Ahj) (f:=B3) (g:=123) A55 (λa b=>Ce (kvk a) (kvk b)) (λ_=>rfl) (by decide) Tryz.isAgg157 Tryz.sizeOf157 Bgd (enters_of Tryz.func123 (by kernel_rfl) rfl) (λW S x y vx vy hS hx hy=>by
  obtain⟨v0,u0,rfl⟩:∃ v0 u0,vx=[v0,u0]:=by
   match vx,hx.1 with
   | [a,b],_=>exact⟨a,b,rfl⟩
  obtain⟨v1,u1,rfl⟩:∃ v1 u1,vy=[v1,u1]:=by
   match vy,hy.1 with
   | [a,b],_=>exact⟨a,b,rfl⟩
  exact A7e hS (hx.2 0 _ _ R R) (hy.2 0 _ _ R R) (hx.2 1 _ _ R R).oneCell (hy.2 1 _ _ R R).oneCell) hn (Arx hd)
def Agd (a1:List As) (a2:Aj) (s:Int×List As):Option (LB (Int×List As) (List As)) :=
 if decide (s.1<(a1.length:Int)) then((idx a1 s.1).bind λu=>(Er a2 u.Key).bind λv=>some (.cont (wI (s.1+1),if v then Tj kvk s.2 u else s.2))) else some (.brk s.2)
def Ae7 (a0:Au) (a2:Aj) (s:Int×List As):Option (LB (Int×List As) (List As)) :=
 if decide (s.1<(a0.L.length:Int)) then((idx a0.L s.1).bind λu=>if u.Del then some (.cont (wI (s.1+1),Ad5 kvk s.2 u.Key)) else(Er a2 u.Key).bind λv=>some (.cont (wI (s.1+1),if v then Tj kvk s.2 ⟨u.Key,u.Val⟩ else s.2))) else some (.brk s.2)
def Aqk (a3:Int) (t:List As):Option (List As) :=
 if t.length*48<=140737488355328 then cut (Ajw kvk t) 0 (if a3<((Ajw kvk t).length:Int) then a3 else((Ajw kvk t).length:Int)) else none
def Ap6 (a0:Au) (a2:Aj) (a3:Int) (t:List As):Option (List As):=(Be (Ae7 a0 a2) fuel (0,t)).bind λt2=>Aqk a3 t2
def C5 (a0:Au) (a1:List As) (a2:Aj) (a3:Int):Option (List As) :=
 (Df a0).bind λv1=>if !v1 then some [] else(Dq a1).bind λv2=>if !v2 then some [] else if decide (a3<1) then some [] else(Be (Agd a1 a2) fuel (0,[])).bind λt1=>Ap6 a0 a2 a3 t1
theorem Acc {a0:Au} {a1:List As} {a2:Aj} {a3:Int} {r:List As} (h:C5 a0 a1 a2 a3=some r) :
  Bc Qx0 52 [.agg [SL a0.L A0],.one (SL a1 B3),.agg (EL.el a2),.one (Ii6 a3)] (·=L7 (SL r B3)):=by
 refine Cg Tryz.func52 R (nt:=91) R (Nbl R) ?_
 intro w0 S0
 refine crs R (Fs (csr (rx 1 R ?_)))
 obtain⟨v1,hv1,h⟩:=Ap h
 refine scI R R (Ry hv1) (rx 2 R (Atg 20 R (λhc=>?_) (λhc=>?_)))
 ·replace h:=Adq hc h
  clear hc
  refine rsn R (S8 R (λhc=>?_) (λhc=>nomatch hc))
  refine crs R (crt ?_)
  cases SJ h
  exact dE R (Ac7 R) R
 replace h:=Adw hc h
 clear hc
 refine rm 1 R (son R R R ?_)
 obtain⟨v2,hv2,h⟩:=Ap h
 refine scI R R (Zt hv2) (rx 3 R (Atg 25 R (λhc=>?_) (λhc=>?_)))
 ·replace h:=Adq hc h
  clear hc
  refine rsn R (S8 R (λhc=>?_) (λhc=>nomatch hc))
  refine crs R (crt ?_)
  cases SJ h
  exact dE R (Ac7 R) R
 replace h:=Adw hc h
 clear hc
 refine rsn R (S8 R (λhc=>?_) (λhc=>?_))
 ·replace h:=Adq hc h
  refine crs R (crt ?_)
  cases SJ h
  exact dE R (Ac7 R) R
 replace h:=Adw hc h
 clear hc
 refine csn (csr (Ay8 Zj R (λg=>?_)))
 refine rsn R (Fs (crs R (cj (List As×List As) (λ_=>[(4,L7 (.lp 0 0)),(6,L7 (.lp 1 0)),(3,L7 (Ii6 a3)),(9,L7 (.raw (.map (some g))))]) (λb=>[.box [SL a0.L A0],BE a2,.obj g (J0 Zj ((b.2.map kB).map .string)) (b.2.map B3)]) (λb=>b.2.Perm b.1/\Ib kvk b.2/\Ap6 a0 a2 a3 b.1=some r) fR (λb h=>?_) ?_)))
 ·obtain⟨t1,t1'⟩:=b
  obtain⟨hp1,hd1,h⟩:=h
  dsimp only at hp1 hd1 h
  unfold Ap6 at h
  refine Fs (crs R (cj (List As×List As) (λ_=>[(3,L7 (Ii6 a3)),(9,L7 (.raw (.map (some g))))]) (λb=>[.box [SL a0.L A0],BE a2,.obj g (J0 Zj ((b.2.map kB).map .string)) (b.2.map B3)]) (λb=>b.2.Perm b.1/\Ib kvk b.2/\Aqk a3 b.1=some r) fR (λb h=>?_) ?_))
  ·obtain⟨t2,t2'⟩:=b
   obtain⟨hp2,hd2,h⟩:=h
   dsimp only at hp2 hd2 h
   unfold Aqk at h
   obtain⟨hb2,h⟩:=Ht h
   have hb2':t2'.length*48<=140737488355328:=by rw[hp2.length_eq];exact hb2
   refine crs R (Fs (csr (rm 1 R (Atn (p:=2) R Tryz.underlying233 R R (λes clock q hst hks hsz=>?_)))))
   refine Agg ?_
   refine X5 157 2 14 (by decide) R ?_
   have hes:es.size=t2'.length:=by rw[hsz,zP]
   obtain⟨hs1,hs2,_⟩:=(Go.MapKept.stamped_iff es clock).1 hst
   refine cj (Array Nat×List As) (λb=>[(3,L7 (Ii6 a3)),(14,L7 (.ls 4 b.2.length))]) (λb=>[.box [SL a0.L A0],BE a2,.obj g (Aml Zj es clock) (t2'.map B3),.obj q (Ar7 g clock b.1 clock) [],.arr 157 2 0 (b.2.flatMap B3)]) (λb=>b.2.Perm t2') fR (λb hpo=>?_) ?_
   ·obtain⟨seen,out⟩:=b
    dsimp only at hpo
    have hol:out.length=t2'.length:=hpo.length_eq
    have hdo:Ib kvk out:=(Ib.perm hpo).2 hd2
    have he:Ajw kvk out=Ajw kvk t2:=Arq (hpo.trans hp2) hdo
    have hlen:(Ajw kvk out).length=out.length:=(Jo out).length_eq
    have hlen2:out.length*2=((Ajw kvk out).flatMap B3).length:=by rw[<- hlen];exact(A4 (f:=B3) (λ_=>rfl) _).symm
    rw[<- he,hlen] at h
    refine csr (rx 1 R ?_)
    refine Kv (x':=.tup []) (M':=[.box [SL a0.L A0],BE a2,.obj g (Aml Zj es clock) (t2'.map B3),.obj q (Ar7 g clock seen clock) [],.arr 157 2 0 ((Ajw kvk out).flatMap B3)]) [4] R (fk R) (.func _) (Ar R (Ar R A7)) (Au7 (xs:=out) (by omega) hdo) R R (by decide) R R R ?_
    refine Agg (csr (rm 2 R (sv R (L9 Bbj R R hlen2) (rm 1 R (sv R (As0 R R) (A4l 85 R (Aif.one _ _ _ _ (Ab1.ls _ _ _ _ _ _ R hlen2)) (sv R (Ar9 (f:=B3) (lo:=0) (hi:=(if a3<(out.length:Int) then a3 else(out.length:Int))) Bbj fR R R hlen.symm Ah7 (Ahq R (Int.le_trans (Al3 h).1.1 (Al3 h).1.2.1)) h) ?_)))))))
    refine rsn R (Pj (⟨Or.inr R,_,_,_,(A3 (rt R) Bj),(G5 R),?_⟩))
    rfl
   ·refine Jf ?_
    refine lpo (G:=Array Nat×List Nat) (λb=>[(3,L7 (Ii6 a3)),(14,L7 (.ls 4 (b.2.filterMap (t2'[·]?)).length)),(74,L7 (.raw (.pointer (some ⟨q,0,none⟩))))]) (λb=>[.box [SL a0.L A0],BE a2,.obj g (Aml Zj es clock) (t2'.map B3),.obj q (Ar7 g clock b.1 clock) [],.arr 157 2 0 ((b.2.filterMap (t2'[·]?)).flatMap B3)]) (λb=>b.2.Nodup/\(∀ j∈b.2,j<t2'.length)/\(∀ (j:Nat) e,es[j]? = some e->(b.1.contains e.born=true↔j∈b.2))/\b.2.length+(leftOf es b.1).size<=es.size) (λb=>(leftOf es b.1).size) (#[],[]) ⟨kM,λj hj=>by simp at hj,λj e _=>⟨λh=>by simp at h,λh=>by simp at h⟩,by show 0+(leftOf es #[]).size<=es.size;rw[yT];exact Array.size_filter_le ..⟩ (ml R) [] R fR ?_
    rintro⟨seen,picks⟩ ⟨hnd,hlt,hsn,hmu⟩
    dsimp only at hnd hlt hsn hmu
    refine csr (Axn (p:=2) (pi:=3) (ss:=t2'.map kB) R R R R hs1 (zT _) hks (λh0=>?_) (λj e s cs hj he hs hcs=>?_))
    ·refine rsn R (Fs (S8 R (λhc=>nomatch hc) (λ_=>?_)))
     refine cx5 (⟨(seen,picks.filterMap (t2'[·]?)),_,?_,(ml R),R⟩)
     refine Ard hnd hlt λj hj=>?_
     have hj':j<es.size:=by rw[hes];exact hj
     exact(hsn j es[j] (z9 hj')).1 (all_seen es seen h0 _ (by simp))
    ·obtain⟨x,hx,rfl⟩:∃ x,t2'[j]? = some x/\cs=B3 x:=by
      rw[zK] at hcs
      cases hx:t2'[j]? with
      | none=>rw[hx] at hcs;cases hcs
      | some x=>rw[hx] at hcs;exact⟨x,rfl,(zF hcs).symm⟩
     have hns:=(mem_left he).2
     have hjn:j∉picks:=λh=>by rw[(hsn j e hj).2 h] at hns;cases hns
     have hsh:=left_shrinks es seen e he
     have hpl:(picks.filterMap (t2'[·]?)).length<=picks.length:=List.length_filterMap_le ..
     refine rsn R (Fs (S8 R (λ_=>?_) (λhc=>nomatch hc)))
     refine csn (Jf (Fs (Fc ?_)))
     refine Aul (p:=2) (pi:=3) (j:=j) rfl rfl rfl rfl hs2 hks hj hs (by rw[zK,hx];rfl) ?_
     refine rsn R (Fc (rx 2 R ?_))
     refine S7 R Tryz.underlying61 A4t R R (zJ.1 R) (by decide) ?_
     refine Agw [.box [SL a0.L A0],BE a2,.obj g (Aml Zj es clock) (t2'.map B3),.obj q (Ar7 g clock (seen.push e.born) clock) [],.arr 157 2 0 ((picks.filterMap (t2'[·]?)).flatMap B3),BE x,.arr 157 2 0 ([x].flatMap B3)] R ?_
     refine Azg (f:=B3) (xs:=picks.filterMap (t2'[·]?)) (us:=[x]) R Tryz.underlying61 A4t Be9 fR R R (.one _ _ _ _ (.ls _ _ _ _ _ _ R (A4 (f:=B3) fR [x]).symm)) R R R (.sl _ _ _ (A4 (f:=B3) fR _)) R R (by rw[yD];omega) (by decide) ?_
     refine rm 1 R (Ur (Bz ?_))
     have hfm:(picks++[j]).filterMap (t2'[·]?)=picks.filterMap (t2'[·]?)++[x]:=by
      rw[List.filterMap_append]
      simp [hx]
     refine⟨(seen.push e.born,picks++[j]),_,⟨?_,?_,?_,?_⟩,⟨rfl,by show _=AV.s (.one (.ls 4 ((picks++[j]).filterMap (t2'[·]?)).length));rw[hfm];rfl,rfl,trivial⟩,by show _=[_,_,_,_,Blk.arr 157 2 0 (((picks++[j]).filterMap (t2'[·]?)).flatMap B3)]++_;rw[hfm];rfl,hsh⟩
     ·rw[j4]
      exact⟨hnd,by simp,λa ha b hb=>by rw[z8.1 hb];exact λe=>hjn (e ▸ ha)⟩
     ·intro k hk
      rcases yG.1 hk with hk|hk
      ·exact hlt k hk
      ·rw[z8.1 hk];exact(zB.1 hx).1
     ·intro k e' hk
      rw[yG,z8,<- A1x hs2 hk hj,<- hsn k e' hk];simp [or_comm]
     ·rw[zI,yD]
      have:(leftOf es (seen.push e.born)).size+1<=(leftOf es seen).size:=hsh
      dsimp only
      omega
  ·refine Jf ?_
   obtain⟨x2,hx2,ho2⟩:=Ap h
   refine lpo (G:=Nat×(Int×List As)×List As) (λq=>[(6,L7 (.lp 1 0)),(3,L7 (Ii6 a3)),(9,L7 (.raw (.map (some g)))),(47,L7 (SL a0.L A0)),(48,L7 (Ii6 (a0.L.length:Int))),(49,L7 (Ii6 q.2.1.1))]) (λq=>[.box [SL a0.L A0],BE a2,.obj g (J0 Zj ((q.2.2.map kB).map .string)) (q.2.2.map B3)]) (λq=>Be (Ae7 a0 a2) q.1 q.2.1=some x2/\q.2.2.Perm q.2.1.2/\Ib kvk q.2.2) (λq=>q.1) (fuel,(0,t1),t1') ⟨hx2,hp1,hd1⟩ (ml R) [] R fR ?_
   clear hx2 h hp1 hd1
   rintro⟨n,⟨i,t⟩,t'⟩ ⟨h,hp,hd⟩
   dsimp only at hp hd
   obtain⟨n,y,rfl,h,hk⟩:=Qs h
   unfold Ae7 at h
   dsimp only at h
   refine crs R (Fs (ccI h R (λh=>?_) (λh=>?_)))
   ·refine csn (csb ?_)
    obtain⟨u,hu,h⟩:=Ap h
    refine sv R (Ny (f:=A0) A8z fR R R R R hu) ?_
    refine sv R (D9 (ys:=[SL u.Key eU8,SL u.Val eU8,.b u.Del]) Bcr R (.cp _) R R) (rsn R (crs R (ccI h R (λh=>?_) (λh=>?_))))
    ·obtain rfl:=SJ h
     clear h
     refine Fc (rx 3 R (sv R (Aho (l:=u.Key) Tryz.underlying56 Tryz.underlying5 Tryz.underlying9 R R R) (A20 (ss:=t'.map kB) (css:=t'.map B3) (s:=⟨u.Key.toArray⟩) (p:=2) Tryz.underlying233 Tryz.underlying9 R R R (λj hj=>?_) (λhn=>?_) R)))
     ·obtain⟨e1,e3⟩:=A3e hp hd (Alb hj)
      refine Agw [.box [SL a0.L A0],BE a2,.obj g (J0 Zj (((t'.eraseIdx j).map kB).map .string)) ((t'.eraseIdx j).map B3),BE u] (by rw[<- Go.ChangeMaps.map_eraseIdx,<- Go.ChangeMaps.map_eraseIdx];rfl) ?_
      refine Ur (Bz (A1 (cgs R ?_)))
      exact⟨(n,(wI (i+1),Ad5 kvk t u.Key),t'.eraseIdx j),_,⟨hk,e1,e3⟩,(ml R),R,xR _⟩
     ·have e1:=At0 (kf:=kvk) hp (Aub hn)
      refine Agw [.box [SL a0.L A0],BE a2,.obj g (J0 Zj ((t'.map kB).map .string)) (t'.map B3),BE u] R (Ur (Bz (A1 (cgs R ?_))))
      exact⟨(n,(wI (i+1),Ad5 kvk t u.Key),t'),_,⟨hk,e1,hd⟩,(ml R),R,xR _⟩
    ·obtain⟨v,hv,h⟩:=Ap h
     cases SJ h
     clear h
     refine csr (rx 3 R (scI R R (Rn hv) (Agg (S8 R (λhc=>?_) (λhc=>?_)))))
     ·subst hc
      refine Fc (rx 3 R (sv R (Aho (l:=u.Key) Tryz.underlying56 Tryz.underlying5 Tryz.underlying9 R R R) (rx 5 R (As6 (ss:=t'.map kB) (css:=t'.map B3) (s:=kB ⟨u.Key,u.Val⟩) (p:=2) Tryz.underlying233 Tryz.underlying9 R R R R R (λj hj=>?_) (λhn=>?_)))))
      ·obtain⟨e1,e2,e3⟩:=Ajf hp hd (x:=⟨u.Key,u.Val⟩) (Alb hj)
       refine Agw [.box [SL a0.L A0],BE a2,.obj g (J0 Zj (((t'.set j ⟨u.Key,u.Val⟩).map kB).map .string)) ((t'.set j ⟨u.Key,u.Val⟩).map B3),BE u] (by rw[A0o (Alb hj),x9];rfl) ?_
       refine Ur (Bz (A1 (cgs R ?_)))
       exact⟨(n,(wI (i+1),Tj kvk t ⟨u.Key,u.Val⟩),t'.set j ⟨u.Key,u.Val⟩),_,⟨hk,e1,e3⟩,(ml R),R,xR _⟩
      ·obtain⟨e1,e3⟩:=Aqc hp hd (x:=⟨u.Key,u.Val⟩) (Aub hn)
       refine Agw [.box [SL a0.L A0],BE a2,.obj g (J0 Zj (((t'++[(⟨u.Key,u.Val⟩:As)]).map kB).map .string)) ((t'++[(⟨u.Key,u.Val⟩:As)]).map B3),BE u] (by simp only[xJ];rfl) ?_
       refine Ur (Bz (A1 (cgs R ?_)))
       exact⟨(n,(wI (i+1),Tj kvk t ⟨u.Key,u.Val⟩),t'++[(⟨u.Key,u.Val⟩:As)]),_,⟨hk,e1,e3⟩,(ml R),R,xR _⟩
     ·subst hc
      refine cbn (cgs R ?_)
      exact⟨(n,(wI (i+1),t),t'),_,⟨hk,hp,hd⟩,(ml R),R,xR _⟩
   ·refine cx5 ?_
    cases SJ h
    obtain rfl:_=x2:=hk
    exact⟨(t,t'),_,⟨hp,hd,ho2⟩,(ml R),R⟩
 ·refine Jf ?_
  obtain⟨x1,hx1,ho1⟩:=Ap h
  refine lpo (G:=Nat×(Int×List As)×List As) (λq=>[(4,L7 (.lp 0 0)),(6,L7 (.lp 1 0)),(3,L7 (Ii6 a3)),(9,L7 (.raw (.map (some g)))),(30,L7 (SL a1 B3)),(31,L7 (Ii6 (a1.length:Int))),(32,L7 (Ii6 q.2.1.1))]) (λq=>[.box [SL a0.L A0],BE a2,.obj g (J0 Zj ((q.2.2.map kB).map .string)) (q.2.2.map B3)]) (λq=>Be (Agd a1 a2) q.1 q.2.1=some x1/\q.2.2.Perm q.2.1.2/\Ib kvk q.2.2) (λq=>q.1) (fuel,(0,[]),[]) ⟨hx1,List.Perm.refl _,List.Pairwise.nil⟩ (ml R) [] R fR ?_
  rintro⟨n,⟨i,t⟩,t'⟩ ⟨h,hp,hd⟩
  dsimp only at hp hd
  obtain⟨n,y,rfl,h,hk⟩:=Qs h
  unfold Agd at h
  dsimp only at h
  refine crs R (Fs (ccI h R (λh=>?_) (λh=>?_)))
  ·refine csn (csb ?_)
   obtain⟨u,hu,h⟩:=Ap h
   refine sv R (Ny (f:=B3) Bbj fR R R R R hu) ?_
   refine sv R (D9 (ys:=[SL u.Key eU8,SL u.Val eU8]) A9l R (.cp _) R R) (rsn R (csr (rx 3 R ?_)))
   obtain⟨v,hv,h⟩:=Ap h
   refine scI R R (Rn hv) (Agg ?_)
   cases SJ h
   clear h
   refine S8 R (λhc=>?_) (λhc=>?_)
   ·subst hc
    refine Fc (rx 3 R (sv R (Aho (l:=u.Key) Tryz.underlying56 Tryz.underlying5 Tryz.underlying9 R R R) (rx 1 R (As6 (ss:=t'.map kB) (css:=t'.map B3) (s:=kB u) (p:=2) Tryz.underlying233 Tryz.underlying9 R R R R R (λj hj=>?_) (λhn=>?_)))))
    ·obtain⟨e1,e2,e3⟩:=Ajf hp hd (x:=u) (Alb hj)
     refine Agw [.box [SL a0.L A0],BE a2,.obj g (J0 Zj (((t'.set j u).map kB).map .string)) ((t'.set j u).map B3),BE u] (by rw[A0o (Alb hj),x9];rfl) ?_
     refine Ur (Bz (A1 (cgs R ?_)))
     exact⟨(n,(wI (i+1),Tj kvk t u),t'.set j u),_,⟨hk,e1,e3⟩,(ml R),R,xR _⟩
    ·obtain⟨e1,e3⟩:=Aqc hp hd (x:=u) (Aub hn)
     refine Agw [.box [SL a0.L A0],BE a2,.obj g (J0 Zj (((t'++[u]).map kB).map .string)) ((t'++[u]).map B3),BE u] (by simp only[xJ];rfl) ?_
     refine Ur (Bz (A1 (cgs R ?_)))
     exact⟨(n,(wI (i+1),Tj kvk t u),t'++[u]),_,⟨hk,e1,e3⟩,(ml R),R,xR _⟩
   ·subst hc
    refine cbn (cgs R ?_)
    exact⟨(n,(wI (i+1),t),t'),_,⟨hk,hp,hd⟩,(ml R),R,xR _⟩
  ·refine cx5 ?_
   cases SJ h
   obtain rfl:_=x1:=hk
   exact⟨(t,t'),_,⟨hp,hd,ho1⟩,(ml R),R⟩
noncomputable def c52:CT:=⟨52,[.st 1,.sl (.st 2),.st 3,.int .i64],[.sl (.st 2)],List As,λr=>(r,()),λa=>C5 a.1 a.2.1 a.2.2.1 a.2.2.2.1,λ_ _ h=>Acc h⟩
section
open Go.Extern.Stop Go.Stop Go.Extern
theorem At9 (v:Value) (w:World):(Extern.ReflectliteType.typeOf #[.iface 62 v]).run Qx0 w=.ok (.iface 371 (.agg #[.pointer (some ⟨1,62,none⟩)])) w:=by kernel_rfl
theorem Aix (w : World) : ((Extern.ReflectliteType.method fun t => do Extern.Rtype.noPackHeld "Comparable" t; (fun a => Value.bool a.comparable) <$> typeInfo t) #[.agg #[.pointer (some ⟨1, 62, none⟩)]]).run Tryz.prog w = .ok (.bool true) w := by kernel_rfl
theorem Ase (v : Value) (w : World) : (Go.method 553 371 v "Comparable").run Tryz.prog w = .ok (317, v) w := by kernel_rfl
theorem Atw:(Tryz.prog.info? 62).map (·.comparable)=some true:=by kernel_rfl
theorem A11 (v:Value) (xT:TypeId) (w:World):(Instr.typeAssert (.iface 62 v) xT 373 true).run Qx0 w=.ok (.tuple #[.nilIface,.bool false]) w:=run_typeAssert_lacksB Tryz.underlying373 (by kernel_rfl) (by kernel_rfl) v xT w
theorem Anc (v:Value) (xT:TypeId) (w:World):(Instr.typeAssert (.iface 62 v) xT 376 true).run Qx0 w=.ok (.tuple #[.nilIface,.bool false]) w:=run_typeAssert_lacksB Tryz.underlying376 (by kernel_rfl) (by kernel_rfl) v xT w
theorem Al7 (v:Value) (xT:TypeId) (w:World):(Instr.typeAssert (.iface 62 v) xT 378 true).run Qx0 w=.ok (.tuple #[.nilIface,.bool false]) w:=run_typeAssert_lacksB Tryz.underlying378 (by kernel_rfl) (by kernel_rfl) v xT w
theorem Awi (a b:Int) (w:World):Calls Tryz.prog 138 #[.iface 62 (.int .i64 a),.iface 62 (.int .i64 b)] w λe w'=>e=.returned (.bool (a==b))/\w'=w:=by
 have h8:=@run_callFunc_extern Tryz.prog 207 _ Extern.ReflectliteType.typeOf Tryz.func207 (by kernel_rfl) (by kernel_rfl) (by kernel_rfl) (by kernel_rfl)
 have h32 := @run_callFunc_extern Tryz.prog 317 _ (Extern.ReflectliteType.method fun t => do Extern.Rtype.noPackHeld "Comparable" t; pure (.bool (← typeInfo t).comparable)) Tryz.func317 (by kernel_rfl) (by kernel_rfl) (by kernel_rfl) (by kernel_rfl)
 have tT:=At9
 have cT:=Aix
 have mR:=Ase
 have nE:=A11
 have uE:=Anc
 have vE:=Al7
 have hn1:=λv:Value=>run_eql_iface_nil_left (P:=Tryz.prog) w 62 v Tryz.underlying252
 have hnr:=λv:Value=>run_eql_iface_nil (P:=Tryz.prog) (w:=w) 252 (by kernel_rfl) 62 v
 cases hab:(a==b) with
 | true =>
  have heq:=Go.Lib.run_eql_iface_int (P:=Tryz.prog) w (k:=.i64) a b Tryz.underlying252 Atw Tryz.underlying62
  rw[hab] at heq
  go_enter Tryz.func138,Tryz.ntmps138
  go_wp2
  refine wp_loop_rounds 1 ?_
  rw[rounds_succ]
  go_wp2
  go_ret
  exact⟨R,R⟩
 | false =>
  have heq:=Go.Lib.run_eql_iface_int (P:=Tryz.prog) w (k:=.i64) a b Tryz.underlying252 Atw Tryz.underlying62
  rw[hab] at heq
  go_enter Tryz.func138,Tryz.ntmps138
  go_wp2
  refine wp_loop_rounds 1 ?_
  rw[rounds_succ]
  go_wp2
  go_ret
  exact⟨R,R⟩
def Ol (a b:Int):Option Bool:=some (a==b)
theorem Aef {a b:Int} {r:Bool} (h:Ol a b=some r):Bc Qx0 138 [.one (.raw (.iface 62 (.int .i64 a))),.one (.raw (.iface 62 (.int .i64 b)))] (·=L7 (.b r)):=by
 cases SJ h
 exact An0 (λ_ _=>.b _) (λw=>Awi a b w)
end
def Nw (a0:List (List UInt8)) (b1:Unit):Option Bool :=
 (Bi a0).bind λv2=>some v2
def Fq (a0:List (List UInt8)) (s3:Int):Option (LR (Int) (Unit) (Bool)) :=
 if (decide (s3<(a0.length:Int))) then((idx a0 s3).bind λu4=>(Co u4).bind λv5=>if (!v5) then(some (.ret false)) else(some (.cont (wI (s3+1))))) else(some (.brk ()))
def Cx (a0:List (List UInt8)):Option Bool :=
 (B7 (Fq a0) fuel 0).bind λx=>match x with | .inl r=>some r | .inr e6=>Nw a0 e6
noncomputable def Bc1:CT:=vK1 107 [.sl (.sl .u8)] .bool ⟨[c62,A8f],[]⟩ (⟨λn=>match n with
  | 2=>some (lF ⟨[(7,.v (.int .i64))],[]⟩ 0 ⟨[],[]⟩ true)
  | _=>none,λ_=>[]⟩) Tryz.func107 (λa=>Cx a.1)
theorem Jy {a0:Ab}:Bc Qx0 182 [.agg [SL a0.L Bq]] (·=L7 (.fn 235 [] [.cp [SL a0.L Bq]])):=by
 refine Cg Tryz.func182 R (nt:=4) R (Nbl R) ?_
 intro w0 S0
 refine csr (Ate R R R (rsn R (csr (sv R (Wh Qx (Z8 R R Qx)) (rsn R (Pj (⟨Or.inr R,_,_,_,(A3 (rt R) Bj),(G5 R),?_⟩)))))))
 rfl
def Rv (l:List Ai):Nat->List (Int×Ai)
 | 0=>[]
 | n+1=>match l[n]? with
  | some v=>((n:Int),v)::Rv l n
  | none=>[]
def Ark (c:Ab):Option (List (Int×Ai)) :=
 if c.L.length<=1000000000000000000 then some (Rv c.L c.L.length) else none
theorem Rs {l:List Ai} {n:Nat} (h:n<l.length):Rv l (n+1)=((n:Int),l[n])::Rv l n:=by
 simp [Rv,zC h]
theorem Abn {l:List Ai}:∀ n,n<=l.length->(Rv l n).length=n
 | 0,_=>rfl
 | n+1,h=>by
  rw[Rs (by omega),yZ,Abn n (by omega)]
theorem An4 {c:Ab} {L:List (Int×Ai)} (h:Ark c=some L):Aw2 Qx0 235 [.cp [SL c.L Bq]] (L.map λx=>(.one (Ii6 x.1),.agg (EL.el x.2))):=by
 unfold Ark at h
 obtain⟨hlen,h⟩:=Ht h
 cases SJ h
 refine Axy Tryz.func235 R R (nt:=21) R (Nbl R) ?_
 intro l J Jx hJ hJx hs
 refine A78 ?_
 refine Aui (hJ 0) (by rfl) (λw0 S0=>?_)
 refine sv R (Pn At5 R) (rx 4 R (Ur ⟨R,R,Akw (An3 ?_)⟩))
 refine A0n ?_
 have hw0:wI ((c.L.length:Int)-1)=(c.L.length:Int)-1:=by
  show IntKind.i64.wrap _=_
  exact wrap_i64 (by omega) (by omega)
 refine A94 (G:=Nat×Int) (λg=>[(0,L7 (.raw (.func (.yield l) #[] #[]))),(1,L7 (.cp [SL c.L Bq])),(3,L7 (Ii6 g.2))])
  (λg=>J g.1) (λg=>g.1<=c.L.length/\g.2=((c.L.length-g.1:Nat):Int)-1/\(Rv c.L c.L.length).drop g.1=Rv c.L (c.L.length-g.1))
  (λg=>c.L.length-g.1) (0,wI ((c.L.length:Int)-1)) ⟨zU _,by simp only[Nat.sub_zero];exact hw0,rfl⟩ ⟨rfl,rfl,rfl,trivial⟩ rfl (λ_ _=>An6 rfl) ?_
 rintro⟨k,i⟩ ⟨g1,g2,g3⟩
 simp only at g1 g2 g3
 refine A78 (A78 ?_)
 refine Aui (hJ k) (by rfl) (λw0 S0=>?_)
 refine rx 2 R (Ur ⟨R,R,Akw (An3 ?_)⟩)
 refine A2t R (λhc=>?_) (λhc=>?_)
 rotate_left
 ·have hc':¬ 0<=i:=by simpa using hc
  refine Bak (And.intro (Or.inl R) (Or.inl ?_))
  show J k=J _
  rw[zP,Abn _ (zT _)]
  congr 1
  omega
 have hge:0<=i:=by simpa using hc
 refine A6p (An3 ?_)
 obtain⟨n,hn⟩:∃ n,c.L.length-k=n+1:=⟨c.L.length-k-1,by omega⟩
 have hi:i=(n:Int):=by omega
 subst hi
 have hnl:n<c.L.length:=by omega
 rw[hn,Rs hnl] at g3
 have hget:(Rv c.L c.L.length)[k]? = some ((n:Int),c.L[n]):=by
  have:=congrArg (λl=>l[0]?) g3
  simpa using this
 have hdrop:(Rv c.L c.L.length).drop (k+1)=Rv c.L n:=by
  have:=congrArg (λl=>l.drop 1) g3
  simpa [zAe] using this
 have hu:idx c.L (n:Int)=some c.L[n]:=by
  unfold idx
  rw[if_pos (xZ n),z6,zC hnl]
 generalize c.L[n]=v at hget hu
 refine A78 (A0n (A78 (Atv ?_)))
 refine Aw1 (l1:=[_,_,_,_,_,_,_]) (hJ k) (by rfl) (λw0 S0=>?_)
 refine rm 2 R (sv R (Pn At5 R) (rx 2 R (sv R (Ny (f:=Bq) A6b fR R R R R hu) ?_)))
 refine sv R (D9 (ys:=[Ii6 v.Ts,SL v.Val eU8,.b v.Del]) A9p R (.cp _) R R) (Ur ⟨R,R,?_⟩)
 refine Awj rfl rfl (λ_ _ _ _ _=>rfl) hs rfl rfl rfl rfl (x:=.one (Ii6 (n:Int))) (y:=.agg (EL.el v)) (by rw[zK,hget];rfl) ?_ ?_
 rotate_left
 ·
  refine Aw1 (l1:=[_]) (l2:=[]) hJx (by rfl) (λw0 S0=>?_)
  refine rx 1 R (Ur ⟨R,R,Akw (An3 ?_)⟩)
  refine A2t R (λ_=>?_) (λhx=>Bool.noConfusion hx)
  exact Bd9 (And.intro (Or.inr R) (Or.inr R))
 refine Aw1 (l1:=[_]) (l2:=[]) (hJ (k+1)) (by rfl) (λw0 S0=>?_)
 refine rx 1 R (Ur ⟨R,R,Akw (An3 ?_)⟩)
 refine A2t R (λhx=>Bool.noConfusion hx) (λ_=>?_)
 refine A6p (Bd8 (An3 ?_))
 refine Aui (hJ (k+1)) (by rfl) (λw0 S0=>?_)
 refine rx 3 R (Ur ⟨R,R,Akw (An3 ?_)⟩)
 have hw:wI ((n:Int)-1)=(n:Int)-1:=by
  show IntKind.i64.wrap _=_
  exact wrap_i64 (by omega) (by omega)
 refine⟨(k+1,wI ((n:Int)-1)),⟨?_,?_,?_⟩,(ml R),R,?_⟩
 ·show k+1<=c.L.length
  omega
 ·show wI ((n:Int)-1)=((c.L.length-(k+1):Nat):Int)-1
  rw[hw];omega
 ·show List.drop (k+1) _=Rv c.L (c.L.length-(k+1))
  rw[hdrop]
  congr 1
  omega
 ·show c.L.length-(k+1)<c.L.length-k
  omega
def Ec (a0:Ai):Option Bool :=
 if (decide (1<=a0.Ts)) then(if (decide (a0.Ts<=1099511627776)) then(if (decide ((a0.Val.length:Int)<=32)) then(if a0.Del then(some (!(decide (0<(a0.Val.length:Int))))) else(some true)) else(some false)) else(some false)) else(some false)
noncomputable def Bc8:CT:=vK1 183 [.st 4] .bool ⟨[],[]⟩ anN Tryz.func183 (λa=>Ec a.1)
theorem Yy {a0:Ai} {r:Bool} (h:Ec a0=some r):Bc Qx0 183 [.agg (EL.el a0)] (·=L7 (.b r)):=Bc8.ok (a0,()) r h
def I0 (s1:Int) (x1:Int×Ai):Option ((Int) ⊕ (Nat×(Int))) :=
 (Ec x1.2).bind λv2=>if (!v2) then(some (.inr (0,s1))) else(if (decide (s1<=x1.2.Ts)) then(some (.inr (0,s1))) else(some (.inl x1.2.Ts)))
def M0 (s3:Int):Option Bool :=
 some true
def Mg (s4:Int):Option Bool :=
 some false
def Ct (a0:Ab):Option Bool :=
 (Ark a0).bind λL1=>(R1 I0 L1 1099511627777).bind λe=>Amc M0 Mg (λ_ _=>none) e
theorem Ac6 {a0:Ab} {r:Bool} (h:Ct a0=some r):Bc Qx0 108 [.agg [SL a0.L Bq]] (·=L7 (.b r)):=by
 refine Acn Tryz.func108 R (nt:=21) R (Nbl R) ?_
 intro w0 S0
 refine Ag9 (Gw R (λw0 S0 X0 m0 H0=>?_))
 refine Ate R R R (rsn R (Ag9 (Gw R (λw0 S0 X0 m0 H0=>?_))))
 refine rsn R (Ag9 (Ag9 (Gw R (λw0 S0 X0 m0 H0=>?_))))
 refine sv R (D9 (ys:=[SL a0.L Bq]) Aw4 R (.cp _) R R) (scI R R Jy (Agg (Ahl ?_)))
 obtain⟨L1,hL1,h⟩:=Ap h
 obtain⟨e1,he1,h⟩:=Ap h
 refine Aof I0 L1 (λx1=>.one (Ii6 x1.1)) (λx1=>.agg (EL.el x1.2)) (λs1=>[.box [.b false],.box [Ii6 s1]]) 1099511627777 he1 R (fk R) R (An4 hL1) R R R fR (λ_=>Aa8 R) ?_ ?_ ?_ ?_
 ·clear h
  intro x1 s1 y1 l h w0 S0 X0 H0
  refine Gw R (λw0 S0 X0 m0 H0=>?_)
  refine rsn R (λw0 S0 X0 H0=>?_)
  refine Ahl (Ag9 (Ag9 (Gw R (λw0 S0 X0 m0 H0=>?_))))
  refine rx 1 R ?_
  obtain⟨v2,hv2,h⟩:=Ap h
  refine scI R R (Yy hv2) (rx 2 R (ssI 13 h R (λh=>?_) (λh=>?_)))
  ·refine rsn R (A2u R (λ_=>?_) (λhx=>Bool.noConfusion hx))
   refine Ag9 (Gw R (λw0 S0 X0 m0 H0=>?_))
   refine rsn R (A2q (Up (Q6 ?_)))
   cases SJ h
   exact⟨s1,_,R,R⟩
  ·refine rsn R (A2u R (λhc=>?_) (λhc=>?_))
   ·replace h:=Adq hc h
    clear hc
    refine Ag9 (Gw R (λw0 S0 X0 m0 H0=>?_))
    refine rsn R (A2q (Up (Q6 ?_)))
    cases SJ h
    exact⟨s1,_,R,R⟩
   ·replace h:=Adw hc h
    clear hc
    refine A75 (A1 (Gw R (λw0 S0 X0 m0 H0=>?_)))
    refine rx 3 R (Ur (Bz ?_))
    cases SJ h
    exact⟨x1.2.Ts,_,R,R⟩
 ·intro s3 hs
  obtain rfl:=hs
  replace h:M0 s3=some r:=h
  refine Bz (A1 (Ag9 (Gw R (λw0 S0 X0 m0 H0=>?_))))
  refine rsn R (A2q ?_)
  cases SJ h
  exact dE R (G5 R) R
 ·intro s4 hs
  obtain rfl:=hs
  replace h:Mg s4=some r:=h
  refine br2 ?_
  cases SJ h
  exact dE R (G5 R) R
 ·intro id s hs
  obtain rfl:=hs
  replace h:none=some r:=h
  cases h
noncomputable def A9d:CT:=⟨108,[.st 5],[.bool],Bool,λr=>(r,()),λa=>Ct a.1,λ_ _ h=>Ac6 h⟩
def Sb (s1:Int) (x1:Int×Ai):Option ((Int) ⊕ (Nat×(Int))) :=
 some (.inr (0,x1.2.Ts))
def Sx (s2:Int):Option Int :=
 some 0
def R0 (s3:Int):Option Int :=
 some s3
def Hb (a0:Ab):Option Int :=
 (Ark a0).bind λL1=>(R1 Sb L1 0).bind λe=>Amc Sx R0 (λ_ _=>none) e
theorem Acg {a0:Ab} {r:Int} (h:Hb a0=some r):Bc Qx0 109 [.agg [SL a0.L Bq]] (·=L7 (Ii6 r)):=by
 refine Acn Tryz.func109 R (nt:=11) R (Nbl R) ?_
 intro w0 S0
 refine Ag9 (Gw R (λw0 S0 X0 m0 H0=>?_))
 refine Ate R R R (rsn R (Ag9 (Ag9 (Gw R (λw0 S0 X0 m0 H0=>?_)))))
 refine sv R (D9 (ys:=[SL a0.L Bq]) Aw4 R (.cp _) R R) (scI R R Jy (Agg (Ahl ?_)))
 obtain⟨L1,hL1,h⟩:=Ap h
 obtain⟨e1,he1,h⟩:=Ap h
 refine Aof Sb L1 (λx1=>.one (Ii6 x1.1)) (λx1=>.agg (EL.el x1.2)) (λs1=>[.box [Ii6 s1]]) 0 he1 R (fk R) R (An4 hL1) R R R fR (λ_=>Aa8 R) ?_ ?_ ?_ ?_
 ·clear h
  intro x1 s1 y1 l h w0 S0 X0 H0
  refine Gw R (λw0 S0 X0 m0 H0=>?_)
  refine rsn R (λw0 S0 X0 H0=>?_)
  refine Ahl (Ag9 (Gw R (λw0 S0 X0 m0 H0=>?_)))
  refine rsn R (A2q (Q6 ?_))
  cases SJ h
  exact⟨x1.2.Ts,_,R,R⟩
 ·intro s2 hs
  obtain rfl:=hs
  replace h:Sx s2=some r:=h
  refine Bz (A1 (Ag9 (Gw R (λw0 S0 X0 m0 H0=>?_))))
  refine rsn R (A2q ?_)
  cases SJ h
  exact dE R (G5 R) R
 ·intro s3 hs
  obtain rfl:=hs
  replace h:R0 s3=some r:=h
  refine br2 ?_
  cases SJ h
  exact dE R (G5 R) R
 ·intro id s hs
  obtain rfl:=hs
  replace h:none=some r:=h
  cases h
noncomputable def Bbw:CT:=⟨109,[.st 5],[.int .i64],Int,λr=>(r,()),λa=>Hb a.1,λ_ _ h=>Acg h⟩
def Ab5 (b2:Unit):Option Bool :=
 some true
def Ke (a0:Ao) (s3:Int):Option (LR (Int) (Unit) (Bool)) :=
 if (decide (s3<(a0.Chains.length:Int))) then((idx a0.Chains s3).bind λu4=>if (decide ((u4.L.length:Int)=0)) then(some (.ret false)) else((Ct u4).bind λv5=>if (!v5) then(some (.ret false)) else((Hb u4).bind λv6=>if (decide (a0.Ts<v6)) then(some (.ret false)) else(some (.cont (wI (s3+1))))))) else(some (.brk ()))
def Tr (a0:Ao) (b1:Unit):Option Bool :=
 (B7 (Ke a0) fuel 0).bind λx=>match x with | .inl r=>some r | .inr e7=>Ab5 e7
def Ca (a0:Ao):Option Bool :=
 if (decide (a0.Ts<0)) then(some false) else(if (decide (1099511627776<a0.Ts)) then(some false) else(if (decide (128<(a0.Keys.length:Int))) then(some false) else(if (!decide ((a0.Chains.length:Int)=(a0.Keys.length:Int))) then(some false) else((Cx a0.Keys).bind λv8=>if (!v8) then(some false) else(Tr a0 ())))))
noncomputable def c45:CT:=vK1 45 [.st 6] .bool ⟨[Bc1,A9d,Bbw],[]⟩ (⟨λn=>match n with
  | 4=>some (lF ⟨[(37,.v (.int .i64))],[.keep]⟩ 0 ⟨[],[.keep]⟩ true)
  | _=>none,λ_=>[]⟩) Tryz.func45 (λa=>Ca a.1)
theorem Adu {a0:Ao} {r:Bool} (h:Ca a0=some r):Bc Qx0 45 [.agg (EL.el a0)] (·=L7 (.b r)):=c45.ok (a0,()) r h
def Br (a0:Aj):Option Bool :=
 if (decide ((a0.Lo.length:Int)<=17)) then(if (decide ((a0.Hi.length:Int)<=17)) then(if a0.Open then(some (!(decide (0<(a0.Hi.length:Int))))) else(some true)) else(some false)) else(some false)
noncomputable def c71:CT:=vK1 71 [.st 3] .bool ⟨[],[]⟩ anN Tryz.func71 (λa=>Br a.1)
def E2 (a0:Aj) (b1:Bool):Option Bool :=
 if b1 then(some true) else((F3 a0.Hi a0.Lo).bind λv2=>some (decide (v2<=0)))
def Ex (a0:Aj):Option Bool :=
 if a0.Open then(some false) else(if (decide ((a0.Lo.length:Int)=0)) then(if (decide ((a0.Hi.length:Int)=1)) then((idx a0.Hi 0).bind λu3=>E2 a0 (decide ((u3.toBitVec.toNat:Int)=(0:Int)))) else(E2 a0 false)) else(E2 a0 false))
noncomputable def c72:CT:=vK1 72 [.st 3] .bool ⟨[A8t],[]⟩ anN Tryz.func72 (λa=>Ex a.1)
def B6 (a0:Ac):Option Bool :=
 if (decide (0<=a0.Tx)) then((Br a0.Rng).bind λv1=>if v1 then((Ex a0.Rng).bind λv2=>some (!v2)) else(some false)) else(some false)
noncomputable def Bee:CT:=vK1 184 [.st 7] .bool ⟨[c71,c72],[]⟩ anN Tryz.func184 (λa=>B6 a.1)
theorem O7 {a0:Ac} {r:Bool} (h:B6 a0=some r):Bc Qx0 184 [.agg (EL.el a0)] (·=L7 (.b r)):=Bee.ok (a0,()) r h
def Iy (a0:Ac):Option Bl :=
 some (Bl.mk a0.Tx a0.Rng.Lo a0.Rng.Hi a0.Rng.Open)
theorem P0 {a0:Ac} {r:Bl} (h:Iy a0=some r):Bc Qx0 236 [.agg (EL.el a0)] (·=.s (.agg (EL.el r))):=by
 refine Cg Tryz.func236 R (nt:=17) R (Nbl R) ?_
 intro w0 S0
 refine crs R (csr (rx 5 R (sv R (Aho (l:=a0.Rng.Lo) Tryz.underlying56 Tryz.underlying5 Tryz.underlying9 R R R) (rx 3 R (sv R (Aho (l:=a0.Rng.Hi) Tryz.underlying56 Tryz.underlying5 Tryz.underlying9 R R R) (rsn R (Pj ?_)))))))
 cases SJ h
 exact dnA R Bbm R (.lp _ _ _ R) (Nbl R) R R
def Qc (b1:(List (Bl×Int))):Option (List (Bl×Int)) :=
 some b1
def Ek (a0:List Ac) (s2:Int×(List (Bl×Int))):Option (LB (Int×(List (Bl×Int))) ((List (Bl×Int)))) :=
 if (decide (s2.1<(a0.length:Int))) then((idx a0 s2.1).bind λu3=>(Iy u3).bind λv4=>some (.cont ((wI (s2.1+1)),(Aac s2.2 v4 s2.1)))) else(some (.brk s2.2))
def G4 (a0:List Ac):Option (List (Bl×Int)) :=
 (Be (Ek a0) fuel (0,([]:List (Bl×Int)))).bind λe5=>Qc e5
theorem Re {a0:List Ac} {r:(List (Bl×Int))} (h:G4 a0=some r):Dk Qx0 185 [] [.one (SL a0 Av)] (λy m'=>y=L7 (.mp 0 0)/\m'=[Ze Cr r]):=by
 refine Bw Tryz.func185 R (nt:=20) R (Nbl R) ?_
 intro w0 S0 X0 H0
 refine crs R (csr (Ax6 Cr R (rsn R (Fs (crs R (cj ((List (Bl×Int))) (λb1=>[(3,L7 (.mp 0 0))]) (λb1=>[Ze Cr b1]) (λb1=>Qc b1=some r) fR (λb1 h=>?_) ?_))))))
 ·refine crs R (Pj ?_)
  obtain rfl:=SJ h
  exact⟨Or.inr R,_,[0],[.one (.mp 0 0)],[Ze Cr b1],(A3 (rt R) Bj),R,R,⟨by decide,R⟩,R,R,⟨R,R⟩⟩
 ·refine Jf ?_
  obtain⟨x2,hx2,ho2⟩:=Ap h
  refine lpn (α:=Int×(List (Bl×Int))) (λg=>[(3,L7 (.mp 0 0)),(7,L7 (SL a0 Av)),(8,L7 (Ii6 (a0.length:Int))),(9,L7 (Ii6 g.2.1))]) (λg=>[Ze Cr g.2.2]) (λg=>Be (Ek a0) g.1 g.2=some x2) (fuel,(0,([]:List (Bl×Int)))) hx2 R R fR ?_
  rintro⟨n2,s2⟩ h
  obtain⟨n2,y2,rfl,h,hk2⟩:=Qs h
  refine crs R (Fs (ccI h R (λh=>?_) (λh=>?_)))
  ·refine csn (Fs (Jf (csr (rx 1 R ?_))))
   obtain⟨u3,hu3,h⟩:=Ap h
   refine sv R (Ny (f:=Av) A01 fR R R R R hu3) ?_
   refine sv R (D9 (ys:=[Ii6 u3.Tx,SL u3.Rng.Lo eU8,SL u3.Rng.Hi eU8,.b u3.Rng.Open]) Aw5 R (.cp _) R R) (rsn R (Fc (rx 2 R ?_)))
   obtain⟨v4,hv4,h⟩:=Ap h
   refine scI R R (P0 hv4) (rm 1 R (A1j (M:=s2.2) (k:=v4) (i:=s2.1) A4x Tryz.underlying299 R R R R (Agw [Ze Cr (Aac s2.2 v4 s2.1),BE u3] R (Ur (Bz (A1 (cgs R ?_)))))))
   cases SJ h
   exact lx (n2,((wI (s2.1+1)),(Aac s2.2 v4 s2.1))) hk2 R R
  ·refine cx5 ?_
   cases SJ h
   obtain rfl:_=x2:=hk2
   exact⟨s2.2,_,ho2,(ml R),R⟩
def Je (a0:Am) (b1:Unit):Option Bool :=
 if (decide ((a0.L.length:Int)<=128)) then((G4 a0.L).bind λv3=>some (decide ((v3.length:Int)=(a0.L.length:Int)))) else(some false)
def F9 (a0:Am) (s4:Int):Option (LR (Int) (Unit) (Bool)) :=
 if (decide (s4<(a0.L.length:Int))) then((idx a0.L s4).bind λu5=>(B6 u5).bind λv6=>if (!v6) then(some (.ret false)) else(some (.cont (wI (s4+1))))) else(some (.brk ()))
def D3 (a0:Am):Option Bool :=
 (B7 (F9 a0) fuel 0).bind λx=>match x with | .inl r=>some r | .inr e7=>Je a0 e7
theorem Ue {a0:Am} {r:Bool} (h:D3 a0=some r):Bc Qx0 110 [.agg [SL a0.L Av]] (·=L7 (.b r)):=by
 refine Cg Tryz.func110 R (nt:=30) R (Nbl R) ?_
 intro w0 S0
 refine crs R (Fs (crs R (cj (Unit) (λb1=>[(1,L7 (.lp 0 0))]) (λb1=>[.box [SL a0.L Av]]) (λb1=>Je a0 b1=some r) fR (λb1 h=>?_) ?_)))
 ·refine Fs (Ald ?_)
  rcases Bool.eq_false_or_eq_true (decide ((a0.L.length:Int)<=128)) with hg2|hg2
  ·replace h:=Adq hg2 h
   obtain⟨v3,hv3,h⟩:=Ap h
   refine Ui [7] [0,1,3,7,15,31,63,127,255,31,543,1567,4095,8191,16383] [[.box [SL a0.L Av],.hole],[.box [SL a0.L Av],Ze Cr v3]] (by kernel_rfl) mixed (by kernel_rfl) (by decide) R R R R ?_
   refine ev (A6 0 R R) R R (Aw Alz R) (ev (A6 0 R R) R R (l1 A6w R R R) (ev (A6 0 R R) R R (Qv A01 R) (ev (A6 0 R R) R R (Aiu R R) (ev (A6 0 R R) R R (Du R) (A0c 20 R (λ_=>?_) (λhx=>Bool.noConfusion (hg2.symm.trans hx)))))))
   refine evg (A6 0 R R) R R R R (Aw Alz R) (evg (A6 0 R R) R R R R (l1 A6w R R R) (eeg (x:=L7 (.mp 0 1)) 0 R R R R R R R (λζ=>?_) ?_))
   ·refine Alv 1 R (fk R) (.func _) (Ar R A7) (Re hv3) R R R ?_
    exact Aij
   refine evg (A6 1 R R) R R R R (Art (e:=Cr) (M:=v3) Tryz.underlying299 R R) (evg (Fi (md:=[.box [SL a0.L Av],.dead]) ⟨⟨R,⟨trivial,trivial⟩⟩,⟨⟨R,⟨trivial,trivial⟩⟩,trivial⟩⟩) R R R R (Aw Alz R) (evg (Fi (md:=[.box [SL a0.L Av],.dead]) ⟨⟨R,⟨trivial,trivial⟩⟩,⟨⟨R,⟨trivial,trivial⟩⟩,trivial⟩⟩) R R R R (l1 A6w R R R) (evg (Fi (md:=[.box [SL a0.L Av],.dead]) ⟨⟨R,⟨trivial,trivial⟩⟩,⟨⟨R,⟨trivial,trivial⟩⟩,trivial⟩⟩) R R R R (Qv A01 R) (evg (A6 1 R R) R R R R (Aem R R) (ev (A6 1 R R) R R (Iv R R) (ev (A6 1 R R) R R (Vk R) (Ax7 (A1 (Pj ?_)))))))))
   cases SJ h
   exact dnT R R R R
  ·replace h:=Adw hg2 h
   refine Ui [] [0,1,3,7,15,31,63,127,255,31,543,1567,4095,8191,16383] [[.box [SL a0.L Av],.hole]] (by kernel_rfl) mixed (by kernel_rfl) (by decide) R R R R ?_
   refine ev (A6 0 R R) R R (Aw Alz R) (ev (A6 0 R R) R R (l1 A6w R R R) (ev (A6 0 R R) R R (Qv A01 R) (ev (A6 0 R R) R R (Aiu R R) (ev (A6 0 R R) R R (Du R) (A0c 20 R (λhx=>Bool.noConfusion (hg2.symm.trans hx)) (λ_=>?_))))))
   refine Als R R R R R (Als R R R R R (Als R R R R R (Als R R R R R (Als R R R R R (Als R R R R R (Als R R R R R (Als R R R R R (ev (A6 0 R R) R R (Ma R R) (ev (A6 0 R R) R R (Vk R) (Ax7 (A1 (Pj ?_))))))))))))
   cases SJ h
   exact dnT R R R R
 ·refine Jf ?_
  obtain⟨x4,hx4,ho4⟩:=Ap h
  refine lpn (α:=Int) (λg=>[(1,L7 (.lp 0 0)),(6,L7 (SL a0.L Av)),(7,L7 (Ii6 (a0.L.length:Int))),(8,L7 (Ii6 g.2))]) (λg=>[.box [SL a0.L Av]]) (λg=>B7 (F9 a0) g.1 g.2=some x4) (fuel,0) hx4 R R fR ?_
  rintro⟨n4,s4⟩ h
  obtain⟨n4,y4,rfl,h,hk4⟩:=Aae h
  refine crs R (Fs (ccI h R (λh=>?_) (λh=>?_)))
  ·refine csn (csb ?_)
   obtain⟨u5,hu5,h⟩:=Ap h
   refine sv R (Ny (f:=Av) A01 fR R R R R hu5) ?_
   refine sv R (D9 (ys:=[Ii6 u5.Tx,SL u5.Rng.Lo eU8,SL u5.Rng.Hi eU8,.b u5.Rng.Open]) Aw5 R (.cp _) R R) (rsn R (csr (rx 1 R ?_)))
   obtain⟨v6,hv6,h⟩:=Ap h
   refine scI R R (O7 hv6) (rsn R (ccI h R (λh=>?_) (λh=>?_)))
   ·refine crs R (Pj (br5 ?_))
    cases SJ h
    obtain rfl:Sum.inl _=x4:=hk4
    obtain rfl:=zF ho4
    exact dnT R R R R
   ·refine cbn (cgs R ?_)
    cases SJ h
    exact lx (n4,(wI (s4+1))) hk4 R R
  ·refine cx5 ?_
   cases SJ h
   obtain rfl:_=x4:=hk4
   exact⟨(),_,ho4,(ml R),R⟩
noncomputable def Bd0:CT:=⟨110,[.st 8],[.bool],Bool,λr=>(r,()),λa=>D3 a.1,λ_ _ h=>Ue h⟩
def K4 (a0:List (List UInt8)) (b1:Unit):Option Bool :=
 (Bi a0).bind λv2=>some v2
def G1 (a0:List (List UInt8)) (s3:Int):Option (LR (Int) (Unit) (Bool)) :=
 if (decide (s3<(a0.length:Int))) then((idx a0 s3).bind λu4=>(Co u4).bind λv5=>if (!v5) then(some (.ret false)) else(some (.cont (wI (s3+1))))) else(some (.brk ()))
def Hf (a0:List (List UInt8)):Option Bool :=
 (B7 (G1 a0) fuel 0).bind λx=>match x with | .inl r=>some r | .inr e6=>K4 a0 e6
noncomputable def Bcb:CT:=vK1 186 [.sl (.sl .u8)] .bool ⟨[c62,A8f],[]⟩ (⟨λn=>match n with
  | 2=>some (lF ⟨[(7,.v (.int .i64))],[]⟩ 0 ⟨[],[]⟩ true)
  | _=>none,λ_=>[]⟩) Tryz.func186 (λa=>Hf a.1)
def Sz (a0:Ag) (b1:Unit):Option Bool :=
 if (decide (a0.State=1)) then(if (decide (a0.End=0)) then(some (decide ((a0.Keys.length:Int)=0))) else(some false)) else(if (decide (a0.State=2)) then(if (decide (a0.Begin<a0.End)) then(if (decide (a0.End<=1099511627776)) then((Hf a0.Keys).bind λv2=>if v2 then(if a0.RO then(some (!(decide (0<(a0.Keys.length:Int))))) else(some true)) else(some false)) else(some false)) else(some false)) else(some false))
def Jv (a0:Ag):Option Bool :=
 if (decide (a0.ID<0)) then(some false) else(if (decide (a0.Begin<0)) then(some false) else(if (decide (1099511627776<a0.Begin)) then(some false) else(Sz a0 ())))
noncomputable def Bb0:CT:=vK1 111 [.st 9] .bool ⟨[Bcb],[]⟩ anN Tryz.func111 (λa=>Jv a.1)
def Kf (a0:Ag) (a1:Ag) (b1:Bool):Option Bool :=
 if (decide (a0.ID=a1.ID)) then(some true) else(if (decide (a0.State=2)) then(if (decide (a1.State=2)) then(if (decide (a0.End=a1.End)) then(some b1) else(some false)) else(some false)) else(some false))
def Oe (a0:Ag) (a1:Ag):Option Bool :=
 if (decide (0<(a0.Keys.length:Int))) then(Kf a0 a1 true) else(Kf a0 a1 (decide (0<(a1.Keys.length:Int))))
noncomputable def Bf0:CT:=vK1 112 [.st 9,.st 9] .bool ⟨[],[]⟩ anN Tryz.func112 (λa=>Oe a.1 a.2.1)
def Afz (b1:(List Int)):Option (List Int) :=
 some b1
def Ng (a0:List Ag) (s2:Int×(List Int)):Option (LB (Int×(List Int)) ((List Int))) :=
 if (decide (s2.1<(a0.length:Int))) then((idx a0 s2.1).bind λu3=>if (s2.2.length+[u3.ID].length)*8<=140737488355328 then(some (.cont ((wI (s2.1+1)),(s2.2++[u3.ID])))) else none) else(some (.brk s2.2))
def O1 (a0:List Ag):Option (List Int) :=
 (Be (Ng a0) fuel (0,([]:List Int))).bind λe5=>Afz e5
noncomputable def Bck:CT:=vK1 114 [.sl (.st 9)] (.sl (.int .i64)) ⟨[],[]⟩ (⟨λn=>match n with
  | 3=>some (lF ⟨[(3,.own 0),(8,.v (.int .i64))],[.arr 3 1 0 ((.int .i64))]⟩ 0 ⟨[(3,.own 0)],[.arr 3 1 0 ((.int .i64))]⟩ false)
  | _=>none,λn=>match n with
  | 3=>[.t 3 3 1 (.int .i64)]
  | _=>[]⟩) Tryz.func114 (λa=>O1 a.1)
def Zd (b1:Unit):Option Int :=
 some (-1)
def Ej (a0:List Int) (a1:Int) (s2:Int):Option (LR (Int) (Unit) (Int)) :=
 if (decide (s2<(a0.length:Int))) then((idx a0 s2).bind λu3=>if (decide (a1=u3)) then(some (.ret s2)) else(some (.cont (wI (s2+1))))) else(some (.brk ()))
def Dr (a0:List Int) (a1:Int):Option Int :=
 (B7 (Ej a0 a1) fuel 0).bind λx=>match x with | .inl r=>some r | .inr e4=>Zd e4
noncomputable def Bbr:CT:=vK1 197 [.sl (.int .i64),.int .i64] (.int .i64) ⟨[],[]⟩ (⟨λn=>match n with
  | 2=>some (lF ⟨[(8,.v (.int .i64))],[]⟩ 0 ⟨[],[]⟩ true)
  | _=>none,λ_=>[]⟩) Tryz.func197 (λa=>Dr a.1 a.2.1)
def Cp (a0:List Int) (a1:Int):Option Bool :=
 (Dr a0 a1).bind λv1=>some (decide (0<=v1))
noncomputable def Bam:CT:=vK1 237 [.sl (.int .i64),.int .i64] .bool ⟨[Bbr],[]⟩ anN Tryz.func237 (λa=>Cp a.1 a.2.1)
theorem Vs {a0:List Int} {a1:Int} {r:Bool} (h:Cp a0 a1=some r):Bc Qx0 237 [.one (SL a0 eI),.one (Ii6 a1)] (·=L7 (.b r)):=Bam.ok (a0,a1,()) r h
def Abt (b1:(List Ac)):Option Am :=
 some (Am.mk b1)
def Ji (a0:Am) (a1:List Int) (a2:Bool) (s2:Int×(List Ac)):Option (LB (Int×(List Ac)) ((List Ac))) :=
 if (decide (s2.1<(a0.L.length:Int))) then((idx a0.L s2.1).bind λu3=>(Cp a1 u3.Tx).bind λv4=>if (v4==a2) then(if (s2.2.length+[u3].length)*64<=140737488355328 then(some (.cont ((wI (s2.1+1)),(s2.2++[u3])))) else none) else(some (.cont ((wI (s2.1+1)),s2.2)))) else(some (.brk s2.2))
def M9 (a0:Am) (a1:List Int) (a2:Bool):Option Am :=
 (Be (Ji a0 a1 a2) fuel (0,([]:List Ac))).bind λe6=>Abt e6
noncomputable def Bfz:CT:=vK1 187 [.st 8,.sl (.int .i64),.bool] (.st 8) ⟨[Bam],[]⟩ (⟨λn=>match n with
  | 3=>some (lF ⟨[(7,.own 2),(13,.v (.int .i64))],[.keep,.keep,.arr 142 4 0 ((.st 7))]⟩ 0 ⟨[(7,.own 2)],[.keep,.keep,.arr 142 4 0 ((.st 7))]⟩ false)
  | _=>none,λn=>match n with
  | 3=>[.t 7 142 4 (.st 7)]
  | _=>[]⟩) Tryz.func187 (λa=>M9 a.1 a.2.1 a.2.2.1)
def J7 (a0:Am) (a1:List Int):Option Am :=
 (M9 a0 a1 false).bind λv1=>some v1
noncomputable def Bco:CT:=vK1 113 [.st 8,.sl (.int .i64)] (.st 8) ⟨[Bfz],[]⟩ anN Tryz.func113 (λa=>J7 a.1 a.2.1)
def Q8 (a0:Af) (b2:Unit):Option Bool :=
 (O1 a0.Txs).bind λv3=>(J7 a0.Reads v3).bind λv4=>some (decide ((v4.L.length:Int)=0))
def Ra (s5:Int) (b9:Unit):Option (LR (Int) (Unit) (Bool)) :=
 some (.cont (wI (s5+1)))
def Lj (u6:Ag) (c8:List Ag) (s10:Int):Option (LR (Int) (Unit) (Bool)) :=
 if (decide (s10<(c8.length:Int))) then((idx c8 s10).bind λu11=>(Oe u6 u11).bind λv12=>if v12 then(some (.ret false)) else(some (.cont (wI (s10+1))))) else(some (.brk ()))
def Me (a0:Af) (s5:Int):Option (LR (Int) (Unit) (Bool)) :=
 if (decide (s5<(a0.Txs.length:Int))) then((idx a0.Txs s5).bind λu6=>(Jv u6).bind λv7=>if (!v7) then(some (.ret false)) else((cut a0.Txs 0 s5).bind λc8=>(B7 (Lj u6 c8) fuel 0).bind λx=>match x with | .inl r=>some (.ret r) | .inr e13=>Ra s5 e13)) else(some (.brk ()))
def Xg (a0:Af) (b1:Unit):Option Bool :=
 (B7 (Me a0) fuel 0).bind λx=>match x with | .inl r=>some r | .inr e14=>Q8 a0 e14
def Hv (a0:Af):Option Bool :=
 if (decide (64<(a0.Txs.length:Int))) then(some false) else((D3 a0.Reads).bind λv15=>if (!v15) then(some false) else(Xg a0 ()))
noncomputable def c46:CT:=vK1 46 [.st 10] .bool ⟨[Bd0,Bb0,Bf0,Bco,Bck],[]⟩ (⟨λn=>match n with
  | 4=>some (lF ⟨[(20,.v (.int .i64))],[.keep]⟩ 0 ⟨[],[.keep]⟩ true)
  | 9=>some (lF ⟨[(33,.v (.int .i64))],[.keep,.keep]⟩ 2 ⟨[],[.keep,.keep]⟩ true)
  | _=>none,λ_=>[]⟩) Tryz.func46 (λa=>Hv a.1)
theorem Zl {a0:Af} {r:Bool} (h:Hv a0=some r):Bc Qx0 46 [.agg (EL.el a0)] (·=L7 (.b r)):=c46.ok (a0,()) r h
def B1 (a0:Int) (a1:Int):Option Bool :=
 if (decide (0<=a0)) then(if (decide (a0<=1099511627776)) then(if (decide (0<=a1)) then(some (decide (a1<=65535))) else(some false)) else(some false)) else(some false)
noncomputable def A5e:CT:=vK1 130 [.int .i64,.int .i64] .bool ⟨[],[]⟩ anN Tryz.func130 (λa=>B1 a.1 a.2.1)
def F7 (a0:Int):Option Bool :=
 if (decide (1<=a0)) then(some (decide (a0<=1099511627776))) else(some false)
noncomputable def Bcc:CT:=vK1 188 [.int .i64] .bool ⟨[],[]⟩ anN Tryz.func188 (λa=>F7 a.1)
def Hh (a0:Al) (b1:Bool):Option Bool :=
 if b1 then((B1 a0.Tok a0.Attempt).bind λv2=>if v2 then(some (decide (a0.Ts=0))) else(some false)) else(if (decide (a0.State=2)) then((B1 a0.Tok a0.Attempt).bind λv3=>if v3 then((F7 a0.Ts).bind λv4=>some v4) else(some false)) else(some false))
def Gf (a0:Al):Option Bool :=
 if (decide (a0.State=1)) then(Hh a0 (decide (a0.State=1))) else(Hh a0 (decide (a0.State=3)))
noncomputable def Bdo:CT:=vK1 115 [.st 11] .bool ⟨[A5e,Bcc],[]⟩ anN Tryz.func115 (λa=>Gf a.1)
def Y5 (a0:Ah) (b1:Unit):Option Int :=
 some (a0.L.length:Int)
def K7 (a0:Ah) (a1:Int) (s2:Int):Option (LR (Int) (Unit) (Int)) :=
 if (decide (s2<(a0.L.length:Int))) then((idx a0.L s2).bind λu3=>if (decide (u3.Tok=a1)) then(some (.ret s2)) else(some (.cont (wI (s2+1))))) else(some (.brk ()))
def Dm (a0:Ah) (a1:Int):Option Int :=
 (B7 (K7 a0 a1) fuel 0).bind λx=>match x with | .inl r=>some r | .inr e4=>Y5 a0 e4
noncomputable def A8i:CT:=vK1 116 [.st 12,.int .i64] (.int .i64) ⟨[],[]⟩ (⟨λn=>match n with
  | 2=>some (lF ⟨[(10,.v (.int .i64))],[.keep]⟩ 0 ⟨[],[.keep]⟩ true)
  | _=>none,λ_=>[]⟩) Tryz.func116 (λa=>Dm a.1 a.2.1)
def Abd (a0:Ah) (b1:Unit):Option Bool :=
 some (decide ((a0.L.length:Int)<=32))
def Mm (a0:Ah) (s2:Int):Option (LR (Int) (Unit) (Bool)) :=
 if (decide (s2<(a0.L.length:Int))) then((idx a0.L s2).bind λu3=>(Gf u3).bind λv4=>if (!v4) then(some (.ret false)) else((Dm a0 u3.Tok).bind λv5=>if (!decide (v5=s2)) then(some (.ret false)) else(some (.cont (wI (s2+1)))))) else(some (.brk ()))
def Ci (a0:Ah):Option Bool :=
 (B7 (Mm a0) fuel 0).bind λx=>match x with | .inl r=>some r | .inr e6=>Abd a0 e6
noncomputable def c47:CT:=vK1 47 [.st 12] .bool ⟨[Bdo,A8i],[]⟩ (⟨λn=>match n with
  | 2=>some (lF ⟨[(8,.v (.int .i64))],[.keep]⟩ 0 ⟨[],[.keep]⟩ true)
  | _=>none,λ_=>[]⟩) Tryz.func47 (λa=>Ci a.1)
def Aea (b1:Unit):Option Int :=
 some (-1)
def Ip (a0:Aa) (a1:Int) (s2:Int):Option (LR (Int) (Unit) (Int)) :=
 if (decide (s2<(a0.Open.length:Int))) then((idx a0.Open s2).bind λu3=>if (decide (u3.ID=a1)) then(some (.ret s2)) else(some (.cont (wI (s2+1))))) else(some (.brk ()))
def B0 (a0:Aa) (a1:Int):Option Int :=
 (B7 (Ip a0 a1) fuel 0).bind λx=>match x with | .inl r=>some r | .inr e4=>Aea e4
noncomputable def c48:CT:=vK1 48 [.st 14,.int .i64] (.int .i64) ⟨[],[]⟩ (⟨λn=>match n with
  | 2=>some (lF ⟨[(10,.v (.int .i64))],[.keep]⟩ 0 ⟨[],[.keep]⟩ true)
  | _=>none,λ_=>[]⟩) Tryz.func48 (λa=>B0 a.1 a.2.1)
theorem Af1 {a0:Aa} {a1:Int} {r:Int} (h:B0 a0 a1=some r):Bc Qx0 48 [.agg (EL.el a0),.one (Ii6 a1)] (·=L7 (Ii6 r)):=c48.ok (a0,a1,()) r h
def Ew (a0:Af) (a1:Int):Option Int :=
 (O1 a0.Txs).bind λv1=>(Dr v1 a1).bind λv2=>some v2
noncomputable def Ba6:CT:=vK1 132 [.st 10,.int .i64] (.int .i64) ⟨[Bck,Bbr],[]⟩ anN Tryz.func132 (λa=>Ew a.1 a.2.1)
def F6 (a0:Af) (a1:Int):Option (Ag×Bool) :=
 (Ew a0 a1).bind λv1=>if (decide (v1<0)) then(some (Aft,false)) else((idx a0.Txs v1).bind λu2=>some (u2,true))
noncomputable def Bf2:CT:=vK2 189 [.st 10,.int .i64] (.st 9) .bool ⟨[Ba6],[]⟩ anN Tryz.func189 (λa=>F6 a.1 a.2.1)
def Kg (a0:Aa) (a1:Aq):Option Bool :=
 (F6 a0.Cert a1.ID).bind λv1=>if (decide (v1.1.State=1)) then(if (decide (v1.1.Begin=a1.Snap)) then(if (v1.1.RO==a1.RO) then(if (decide (a1.Snap<=a0.Store.Ts)) then((Df a1.Buf).bind λv2=>if v2 then(if a1.RO then(some (!(decide (0<(a1.Buf.L.length:Int))))) else(some true)) else(some false)) else(some false)) else(some false)) else(some false)) else(some false)
noncomputable def Bfn:CT:=vK1 117 [.st 14,.st 13] .bool ⟨[Bbo,Bf2],[]⟩ anN Tryz.func117 (λa=>Kg a.1 a.2.1)
def Kx (a0:Aa) (b1:Unit):Option Bool :=
 some (decide ((a0.Open.length:Int)<=16))
def K0 (s2:Int×Int) (u3:Aq) (b6:Unit):Option (LR (Int×Int) (Unit) (Bool)) :=
 some (.cont (u3.ID,(wI (s2.2+1))))
def K5 (u3:Aq) (c5:List Aq) (s7:Int):Option (LR (Int) (Unit) (Bool)) :=
 if (decide (s7<(c5.length:Int))) then((idx c5 s7).bind λu8=>if (decide (u8.Token=u3.Token)) then(some (.ret false)) else(some (.cont (wI (s7+1))))) else(some (.brk ()))
def P9 (a0:Aa) (s2:Int×Int) (u3:Aq) (b4:Unit):Option (LR (Int×Int) (Unit) (Bool)) :=
 (cut a0.Open 0 s2.2).bind λc5=>(B7 (K5 u3 c5) fuel 0).bind λx=>match x with | .inl r=>some (.ret r) | .inr e9=>K0 s2 u3 e9
def Ky (a0:Aa) (s2:Int×Int):Option (LR (Int×Int) (Unit) (Bool)) :=
 if (decide (s2.2<(a0.Open.length:Int))) then((idx a0.Open s2.2).bind λu3=>if (decide (u3.ID<=s2.1)) then(some (.ret false)) else(if (decide (a0.Next<=u3.ID)) then(some (.ret false)) else((Kg a0 u3).bind λv10=>if (!v10) then(some (.ret false)) else(P9 a0 s2 u3 ())))) else(some (.brk ()))
def Kt (a0:Aa):Option Bool :=
 (B7 (Ky a0) fuel ((-1),0)).bind λx=>match x with | .inl r=>some r | .inr e11=>Kx a0 e11
noncomputable def c49:CT:=vK1 49 [.st 14] .bool ⟨[Bfn],[]⟩ (⟨λn=>match n with
  | 3=>some (lF ⟨[(3,.v (.int .i64)),(11,.v (.int .i64))],[.keep]⟩ 0 ⟨[],[.keep]⟩ true)
  | 8=>some (lF ⟨[(38,.v (.int .i64))],[.keep,.keep]⟩ 2 ⟨[],[.keep,.keep]⟩ true)
  | _=>none,λ_=>[]⟩) Tryz.func49 (λa=>Kt a.1)
def Rm (a0:Aa) (b2:Unit):Option Bool :=
 (Kt a0).bind λv3=>some v3
def Q3 (a0:Aa) (s4:Int):Option (LR (Int) (Unit) (Bool)) :=
 if (decide (s4<(a0.Cert.Txs.length:Int))) then((idx a0.Cert.Txs s4).bind λu5=>if (decide (a0.Store.Ts<u5.End)) then(some (.ret false)) else(if (decide (u5.State=1)) then((B0 a0 u5.ID).bind λv6=>if (decide (v6<0)) then(some (.ret false)) else(some (.cont (wI (s4+1))))) else(some (.cont (wI (s4+1)))))) else(some (.brk ()))
def V6 (a0:Aa) (b1:Unit):Option Bool :=
 (B7 (Q3 a0) fuel 0).bind λx=>match x with | .inl r=>some r | .inr e7=>Rm a0 e7
def Ez (a0:Aa):Option Bool :=
 (Ca a0.Store).bind λv8=>if (!v8) then(some false) else((Hv a0.Cert).bind λv9=>if (!v9) then(some false) else((Ci a0.Toks).bind λv10=>if (!v10) then(some false) else(if (decide (a0.Next<0)) then(some false) else(if (decide (1099511627776<a0.Next)) then(some false) else(V6 a0 ())))))
noncomputable def c16:CT:=vK1 16 [.st 14] .bool ⟨[c45,c46,c47,c48,c49],[]⟩ (⟨λn=>match n with
  | 4=>some (lF ⟨[(35,.v (.int .i64))],[.keep]⟩ 0 ⟨[],[.keep]⟩ true)
  | _=>none,λ_=>[]⟩) Tryz.func16 (λa=>Ez a.1)
theorem Ag4 {a0:Aa} {r:Bool} (h:Ez a0=some r):Bc Qx0 16 [.agg (EL.el a0)] (·=L7 (.b r)):=c16.ok (a0,()) r h
def Aao (b1:Unit):Option (Aq×Bool) :=
 some (Pg,false)
def M7 (a0:Aa) (a1:Int) (s2:Int):Option (LR (Int) (Unit) (Aq×Bool)) :=
 if (decide (s2<(a0.Open.length:Int))) then((idx a0.Open s2).bind λu3=>if (decide (u3.Token=a1)) then(some (.ret (u3,true))) else(some (.cont (wI (s2+1))))) else(some (.brk ()))
def Hg (a0:Aa) (a1:Int):Option (Aq×Bool) :=
 (B7 (M7 a0 a1) fuel 0).bind λx=>match x with | .inl r=>some r | .inr e4=>Aao e4
noncomputable def c56:CT:=vK2 56 [.st 14,.int .i64] (.st 13) .bool ⟨[],[]⟩ (⟨λn=>match n with
  | 2=>some (lF ⟨[(11,.v (.int .i64))],[.keep,.keep]⟩ 0 ⟨[],[.keep,.keep]⟩ true)
  | _=>none,λ_=>[]⟩) Tryz.func56 (λa=>Hg a.1 a.2.1)
def Aba (a0:Aa) (b1:(List Aq)):Option Aa :=
 some ({a0 with Open:=b1})
def Gd (a0:Aa) (a1:Int) (s2:Int×(List Aq)):Option (LB (Int×(List Aq)) ((List Aq))) :=
 if (decide (s2.1<(a0.Open.length:Int))) then((idx a0.Open s2.1).bind λu3=>if (!decide (u3.ID=a1)) then(if (s2.2.length+[u3].length)*64<=140737488355328 then(some (.cont ((wI (s2.1+1)),(s2.2++[u3])))) else none) else(some (.cont ((wI (s2.1+1)),s2.2)))) else(some (.brk s2.2))
def E9 (a0:Aa) (a1:Int):Option Aa :=
 (Be (Gd a0 a1) fuel (0,([]:List Aq))).bind λe5=>Aba a0 e5
noncomputable def Bct:CT:=vK1 128 [.st 14,.int .i64] (.st 14) ⟨[],[]⟩ (⟨λn=>match n with
  | 3=>some (lF ⟨[(5,.own 2),(11,.v (.int .i64))],[.keep,.keep,.arr 88 6 0 ((.st 13))]⟩ 0 ⟨[(5,.own 2)],[.keep,.keep,.arr 88 6 0 ((.st 13))]⟩ false)
  | _=>none,λn=>match n with
  | 3=>[.t 5 88 6 (.st 13)]
  | _=>[]⟩) Tryz.func128 (λa=>E9 a.1 a.2.1)
def Cm (a0:Af) (a1:Int):Option Int :=
 (Ew a0 a1).bind λv1=>if (decide (v1<0)) then(some (-1)) else((idx a0.Txs v1).bind λu2=>if (!decide (u2.State=1)) then(some (-1)) else(some v1))
noncomputable def Bch:CT:=vK1 194 [.st 10,.int .i64] (.int .i64) ⟨[Ba6],[]⟩ anN Tryz.func194 (λa=>Cm a.1 a.2.1)
theorem Tm {a0:Af} {a1:Int} {r:Int} (h:Cm a0 a1=some r):Bc Qx0 194 [.agg (EL.el a0),.one (Ii6 a1)] (·=L7 (Ii6 r)):=Bch.ok (a0,a1,()) r h
def Q7 (a0:Af) (a1:List Int) (b1:(List Ag)):Option Af :=
 (J7 a0.Reads a1).bind λv2=>some (Af.mk b1 v2)
def Ih (a0:Af) (a1:List Int) (s3:Int×(List Ag)):Option (LB (Int×(List Ag)) ((List Ag))) :=
 if (decide (s3.1<(a0.Txs.length:Int))) then((idx a0.Txs s3.1).bind λu4=>(Cp a1 u4.ID).bind λv5=>if (!v5) then(if (s3.2.length+[u4].length)*64<=140737488355328 then(some (.cont ((wI (s3.1+1)),(s3.2++[u4])))) else none) else(some (.cont ((wI (s3.1+1)),s3.2)))) else(some (.brk s3.2))
def Fu (a0:Af) (a1:List Int):Option Af :=
 (Be (Ih a0 a1) fuel (0,([]:List Ag))).bind λe7=>Q7 a0 a1 e7
noncomputable def Bc3:CT:=vK1 195 [.st 10,.sl (.int .i64)] (.st 10) ⟨[Bco,Bam],[]⟩ (⟨λn=>match n with
  | 3=>some (lF ⟨[(5,.own 2),(11,.v (.int .i64))],[.keep,.keep,.arr 139 8 0 ((.st 9))]⟩ 0 ⟨[(5,.own 2)],[.keep,.keep,.arr 139 8 0 ((.st 9))]⟩ false)
  | _=>none,λn=>match n with
  | 3=>[.t 5 139 8 (.st 9)]
  | _=>[]⟩) Tryz.func195 (λa=>Fu a.1 a.2.1)
def Cb (a0:Af) (a1:Int):Option Af :=
 (Cm a0 a1).bind λv1=>if (decide (v1<0)) then(some a0) else((Fu a0 [a1]).bind λv2=>some v2)
noncomputable def Bdc:CT:=vK1 129 [.st 10,.int .i64] (.st 10) ⟨[Bch,Bc3],[]⟩ anN Tryz.func129 (λa=>Cb a.1 a.2.1)
def Dc (a0:Ah) (a1:Int):Option (Al×Bool) :=
 (Dm a0 a1).bind λv1=>if (decide (v1=(a0.L.length:Int))) then(some ((Al.mk 0 0 0 0),false)) else((idx a0.L v1).bind λu2=>some (u2,true))
noncomputable def c74:CT:=vK2 74 [.st 12,.int .i64] (.st 11) .bool ⟨[A8i],[]⟩ anN Tryz.func74 (λa=>Dc a.1 a.2.1)
def F0 (a0:List Al):Option (List Al) :=
 if (([]:List Al).length+a0.length)*32<=140737488355328 then(some (([]:List Al)++a0)) else none
theorem Za:OwB 249 145 4 Bs (λa0=>[.one (SL a0 Bs)]) F0:=Zn .c249 Tryz.underlying35 A3l Bcg fR (by decide)
noncomputable def Zv:Aei TTs Qx0:=Aw7 249 [.sl (.st 11)] 145 (.st 11) (λa=>F0 a.1) (λ_ _ h=>Za _ _ h)
def Mo (a0:List Al) (a1:Int) (a2:Al):Option (List Al) :=
 (F0 a0).bind λv1=>if (decide ((v1.length:Int)<=a1)) then(if (v1.length+[a2].length)*32<=140737488355328 then(some (v1++[a2])) else none) else((idx v1 a1).bind λu3=>some (v1.set a1.toNat a2))
noncomputable def Beq:CT:=vK1 196 [.sl (.st 11),.int .i64,.st 11] (.sl (.st 11)) ⟨[],[(9,Zv)]⟩ anN Tryz.func196 (λa=>Mo a.1 a.2.1 a.2.2.1)
def B4 (a0:Ah) (a1:Al):Option (Ah×Int) :=
 (Dm a0 a1.Tok).bind λv1=>if (decide (32<=v1)) then(some (Ay,8)) else((Mo a0.L v1 a1).bind λv2=>some ((Ah.mk v2),0))
noncomputable def Baw:CT:=vK2 131 [.st 12,.st 11] (.st 12) (.int .i64) ⟨[A8i,Beq],[]⟩ anN Tryz.func131 (λa=>B4 a.1 a.2.1)
def L6 (a0:Ah) (a1:Int) (a2:Int) (b1:Unit):Option (Ah×Int×Int) :=
 (Dc a0 a1).bind λv2=>if (decide (v2.1.State=2)) then(some (a0,v2.1.Ts,0)) else((B4 a0 (Al.mk a1 (if a2 > v2.1.Attempt then a2 else v2.1.Attempt) 3 0)).bind λv3=>some (v3.1,0,v3.2))
def Bp (a0:Ah) (a1:Int) (a2:Int):Option (Ah×Int×Int) :=
 (Ci a0).bind λv4=>if (!v4) then(some (Ay,0,1)) else((B1 a1 a2).bind λv5=>if (!v5) then(some (Ay,0,1)) else(L6 a0 a1 a2 ()))
noncomputable def c73:CT:=vK 73 [.st 12,.int .i64,.int .i64] [.st 12,.int .i64,.int .i64] (λr=>(r.1,(r.2.1,(r.2.2,())))) (λv=>(v.1,v.2.1,v.2.2.1)) ⟨[c47,c74,A5e,Baw],[]⟩ anN Tryz.func73 (λa=>Bp a.1 a.2.1 a.2.2.1)
def A5 (a0:Aa) (a1:Aq):Option Aa :=
 (E9 a0 a1.ID).bind λv1=>(Cb v1.Cert a1.ID).bind λv2=>(Bp v1.Toks a1.Token a1.Attempt).bind λv3=>if (decide (v3.2.2=0)) then(some ({v1 with Cert:=v2,Toks:=v3.1})) else(some ({v1 with Cert:=v2}))
noncomputable def c57:CT:=vK1 57 [.st 14,.st 13] (.st 14) ⟨[c73,Bct,Bdc],[]⟩ anN Tryz.func57 (λa=>A5 a.1 a.2.1)
theorem Adp {a0:Aa} {a1:Aq} {r:Aa} (h:A5 a0 a1=some r):Bc Qx0 57 [.agg (EL.el a0),.agg (EL.el a1)] (·=.s (.agg (EL.el r))):=c57.ok (a0,a1,()) r h
def L5 (a0:Ah) (a1:Int) (a2:Int) (b1:Unit):Option (Ah×Int) :=
 (Dc a0 a1).bind λv2=>if v2.2 then(if (decide (v2.1.State=2)) then(some (Ay,7)) else(if v2.2 then(if (decide (a2<=v2.1.Attempt)) then(some (Ay,14)) else((B4 a0 (Al.mk a1 a2 1 0)).bind λv3=>some (v3.1,v3.2))) else((B4 a0 (Al.mk a1 a2 1 0)).bind λv4=>some (v4.1,v4.2)))) else(if v2.2 then(if (decide (a2<=v2.1.Attempt)) then(some (Ay,14)) else((B4 a0 (Al.mk a1 a2 1 0)).bind λv5=>some (v5.1,v5.2))) else((B4 a0 (Al.mk a1 a2 1 0)).bind λv6=>some (v6.1,v6.2)))
def Ee (a0:Ah) (a1:Int) (a2:Int):Option (Ah×Int) :=
 (Ci a0).bind λv7=>if (!v7) then(some (Ay,1)) else((B1 a1 a2).bind λv8=>if (!v8) then(some (Ay,1)) else(L5 a0 a1 a2 ()))
noncomputable def c58:CT:=vK2 58 [.st 12,.int .i64,.int .i64] (.st 12) (.int .i64) ⟨[c47,c74,A5e,Baw],[]⟩ anN Tryz.func58 (λa=>Ee a.1 a.2.1 a.2.2.1)
def Pz (a0:Int) (b1:Unit):Option (List Ag) :=
 if (decide (0<(wI (a0-(wI (0-0)))))) then(if 0<(wI (a0-(wI (0-0))))/\(wI (a0-(wI (0-0))))*((64:Nat):Int)<=281474976710656 then(if (0:Int)<=0/\0<=((List.replicate (wI (a0-(wI (0-0)))).toNat Aft).length:Int) then(some ((List.replicate (wI (a0-(wI (0-0)))).toNat Aft).take (0:Int).toNat)) else none) else none) else(some ([]:List Ag))
def Ko (a0:Int):Option (List Ag) :=
 if (decide (a0<0)) then none else(Pz a0 ())
theorem Aal:OwB 198 139 8 A2 (λa0=>[.one (Znl),.one (Ii6 a0)]) Ko:=Ahw (z:=Aft) .c198 Tryz.underlying29 A3b Aj0 fR R (by decide)
def Xx (b3:(List Ag)):Option (List Ag) :=
 some b3
def Gc (a0:List (List Ag)) (s4:Int×(List Ag)):Option (LB (Int×(List Ag)) ((List Ag))) :=
 if (decide (s4.1<(a0.length:Int))) then((idx a0 s4.1).bind λu5=>if (s4.2.length+u5.length)*64<=140737488355328 then(some (.cont ((wI (s4.1+1)),(s4.2++u5)))) else none) else(some (.brk s4.2))
def O0 (a0:List (List Ag)) (b1:Int):Option (List Ag) :=
 (Ko b1).bind λv2=>(Be (Gc a0) fuel (0,v2)).bind λe7=>Xx e7
def F4 (a0:List (List Ag)) (s8:Int×Int):Option (LB (Int×Int) (Int)) :=
 if (decide (s8.2<(a0.length:Int))) then((idx a0 s8.2).bind λu9=>if (decide ((wI (s8.1+(u9.length:Int)))<0)) then none else(some (.cont ((wI (s8.1+(u9.length:Int))),(wI (s8.2+1)))))) else(some (.brk s8.1))
def F8 (a0:List (List Ag)):Option (List Ag) :=
 (Be (F4 a0) fuel (0,0)).bind λe10=>O0 a0 e10
theorem Yn:OwA 133 A2 (λa0=>[.one (SL a0 (eL A2))]) F8:=OwB.A (X9 .c133 Aal Tryz.underlying29 A3b Bby Bau fR (by decide)) fR
noncomputable def c133:CT:=⟨133,[.sl (.sl (.st 9))],[.sl (.st 9)],(List Ag),λr=>(r,()),λa=>F8 a.1,λ_ _ h=>Yn _ _ h⟩
def Es (a0:Af) (a1:Int) (a2:Int) (a3:Bool):Option (Af×Int) :=
 (Hv a0).bind λv1=>if (!v1) then(some (Bn,1)) else((Jv (Ag.mk a1 a2 0 1 false false a3 ([]:List (List UInt8)))).bind λv2=>if (!v2) then(some (Bn,1)) else((Ew a0 a1).bind λv3=>if (decide (0<=v3)) then(some (Bn,7)) else(if (decide (64<=(a0.Txs.length:Int))) then(some (Bn,8)) else((F8 ([a0.Txs,([(Ag.mk a1 a2 0 1 false false a3 ([]:List (List UInt8)))]:List Ag)]:List (List Ag))).bind λv4=>some ((Af.mk v4 a0.Reads),0)))))
noncomputable def c59:CT:=vK2 59 [.st 10,.int .i64,.int .i64,.bool] (.st 10) (.int .i64) ⟨[c46,Bb0,Ba6,c133],[]⟩ anN Tryz.func59 (λa=>Es a.1 a.2.1 a.2.2.1 a.2.2.2.1)
def Qb (a0:Int) (b1:Unit):Option (List Aq) :=
 if (decide (0<(wI (a0-(wI (0-0)))))) then(if 0<(wI (a0-(wI (0-0))))/\(wI (a0-(wI (0-0))))*((64:Nat):Int)<=281474976710656 then(if (0:Int)<=0/\0<=((List.replicate (wI (a0-(wI (0-0)))).toNat Pg).length:Int) then(some ((List.replicate (wI (a0-(wI (0-0)))).toNat Pg).take (0:Int).toNat)) else none) else none) else(some ([]:List Aq))
def Kq (a0:Int):Option (List Aq) :=
 if (decide (a0<0)) then none else(Qb a0 ())
theorem Aad:OwB 134 88 6 Hj (λa0=>[.one (Znl),.one (Ii6 a0)]) Kq:=Ahw (z:=Pg) .c134 Tryz.underlying38 A9w Bb3 fR R (by decide)
def Zb (b3:(List Aq)):Option (List Aq) :=
 some b3
def G2 (a0:List (List Aq)) (s4:Int×(List Aq)):Option (LB (Int×(List Aq)) ((List Aq))) :=
 if (decide (s4.1<(a0.length:Int))) then((idx a0 s4.1).bind λu5=>if (s4.2.length+u5.length)*64<=140737488355328 then(some (.cont ((wI (s4.1+1)),(s4.2++u5)))) else none) else(some (.brk s4.2))
def P2 (a0:List (List Aq)) (b1:Int):Option (List Aq) :=
 (Kq b1).bind λv2=>(Be (G2 a0) fuel (0,v2)).bind λe7=>Zb e7
def G3 (a0:List (List Aq)) (s8:Int×Int):Option (LB (Int×Int) (Int)) :=
 if (decide (s8.2<(a0.length:Int))) then((idx a0 s8.2).bind λu9=>if (decide ((wI (s8.1+(u9.length:Int)))<0)) then none else(some (.cont ((wI (s8.1+(u9.length:Int))),(wI (s8.2+1)))))) else(some (.brk s8.1))
def Hk (a0:List (List Aq)):Option (List Aq) :=
 (Be (G3 a0) fuel (0,0)).bind λe10=>P2 a0 e10
theorem Z3:OwA 60 Hj (λa0=>[.one (SL a0 (eL Hj))]) Hk:=OwB.A (X9 .c60 Aad Tryz.underlying38 A9w Bcq Bay fR (by decide)) fR
noncomputable def c60:CT:=⟨60,[.sl (.sl (.st 13))],[.sl (.st 13)],(List Aq),λr=>(r,()),λa=>Hk a.1,λ_ _ h=>Z3 _ _ h⟩
def De (a1:Int) (a2:Int) (a3:Bool) (b3:Aa):Option (Aa×Int×Int) :=
 if (decide (1099511627776<=b3.Next)) then(some (b3,0,11)) else(if (decide (16<=(b3.Open.length:Int))) then(some (b3,0,8)) else((Ee b3.Toks a1 a2).bind λv4=>if (!decide (v4.2=0)) then(some (b3,0,v4.2)) else((Es b3.Cert b3.Next b3.Store.Ts a3).bind λv5=>if (!decide (v5.2=0)) then(some (b3,0,v5.2)) else((Hk ([b3.Open,([(Aq.mk b3.Next a1 a2 b3.Store.Ts a3 (Au.mk ([]:List Ae)))]:List Aq)]:List (List Aq))).bind λv6=>some ((Aa.mk b3.Store v5.1 v4.1 v6 (wI (b3.Next+1))),b3.Next,0)))))
def Ep (a0:Aa) (a1:Int) (a2:Int) (a3:Bool):Option (Aa×Int×Int) :=
 (Ez a0).bind λv1=>if (!v1) then(some (Bh,0,1)) else((Hg a0 a1).bind λv2=>if v2.2 then(if (decide (v2.1.Attempt<a2)) then((A5 a0 v2.1).bind λv7=>De a1 a2 a3 v7) else(De a1 a2 a3 a0)) else(De a1 a2 a3 a0))
noncomputable def c23:CT:=vK 23 [.st 14,.int .i64,.int .i64,.bool] [.st 14,.int .i64,.int .i64] (λr=>(r.1,(r.2.1,(r.2.2,())))) (λv=>(v.1,v.2.1,v.2.2.1)) ⟨[c16,c56,c57,c58,c59,c60],[]⟩ anN Tryz.func23 (λa=>Ep a.1 a.2.1 a.2.2.1 a.2.2.2.1)
theorem V9 {a0:Aa} {a1:Int} {a2:Int} {a3:Bool} {r:Aa×Int×Int} (h:Ep a0 a1 a2 a3=some r):Bc Qx0 23 [.agg (EL.el a0),.one (Ii6 a1),.one (Ii6 a2),.one (.b a3)] (·=.tup [.agg (EL.el r.1),.one (Ii6 r.2.1),.one (Ii6 r.2.2)]):=c23.ok (a0,a1,a2,a3,()) r h
def C0 (a0:Aa) (a1:Int):Option (Aq×Int) :=
 (Ez a0).bind λv1=>if (!v1) then(some (Pg,1)) else((B0 a0 a1).bind λv2=>if (decide (v2<0)) then(some (Pg,7)) else((idx a0.Open v2).bind λu3=>some (u3,0)))
noncomputable def c55:CT:=vK2 55 [.st 14,.int .i64] (.st 13) (.int .i64) ⟨[c16,c48],[]⟩ anN Tryz.func55 (λa=>C0 a.1 a.2.1)
theorem Agz {a0:Aa} {a1:Int} {r:Aq×Int} (h:C0 a0 a1=some r):Bc Qx0 55 [.agg (EL.el a0),.one (Ii6 a1)] (·=.tup [.agg (EL.el r.1),.one (Ii6 r.2)]):=c55.ok (a0,a1,()) r h
def Ch (a0:Aa) (a1:Int):Option Aa :=
 if (decide (a1=1)) then(some Bh) else(some a0)
noncomputable def c61:CT:=vK1 61 [.st 14,.int .i64] (.st 14) ⟨[],[]⟩ anN Tryz.func61 (λa=>Ch a.1 a.2.1)
theorem Ag8 {a0:Aa} {a1:Int} {r:Aa} (h:Ch a0 a1=some r):Bc Qx0 61 [.agg (EL.el a0),.one (Ii6 a1)] (·=.s (.agg (EL.el r))):=c61.ok (a0,a1,()) r h
def Cw (a0:List UInt8) (a1:List UInt8):Option Bool :=
 some (a0==a1)
noncomputable def Bcf:CT:=vK1 135 [.sl .u8,.sl .u8] .bool ⟨[],[]⟩ anN Tryz.func135 (λa=>Cw a.1 a.2.1)
theorem Sa {a0:List UInt8} {a1:List UInt8} {r:Bool} (h:Cw a0 a1=some r):Bc Qx0 135 [.one (SL a0 eU8),.one (SL a1 eU8)] (·=L7 (.b r)):=Bcf.ok (a0,a1,()) r h
def Ac5 (b1:Unit):Option (Ae×Bool) :=
 some (Ah2,false)
def Hp (a0:Au) (a1:List UInt8) (s2:Int):Option (LR (Int) (Unit) (Ae×Bool)) :=
 if (decide (s2<(a0.L.length:Int))) then((idx a0.L s2).bind λu3=>(Cw u3.Key a1).bind λv4=>if v4 then(some (.ret (u3,true))) else(some (.cont (wI (s2+1))))) else(some (.brk ()))
def Gq (a0:Au) (a1:List UInt8):Option (Ae×Bool) :=
 (B7 (Hp a0 a1) fuel 0).bind λx=>match x with | .inl r=>some r | .inr e5=>Ac5 e5
noncomputable def c63:CT:=vK2 63 [.st 1,.sl .u8] (.st 0) .bool ⟨[Bcf],[]⟩ (⟨λn=>match n with
  | 2=>some (lF ⟨[(11,.v (.int .i64))],[.keep,.keep]⟩ 0 ⟨[],[.keep,.keep]⟩ true)
  | _=>none,λ_=>[]⟩) Tryz.func63 (λa=>Gq a.1 a.2.1)
def P3 (a0:Int) (b1:Unit):Option (List UInt8) :=
 if (decide (0<(wI (a0-(wI (0-0)))))) then(if 0<(wI (a0-(wI (0-0))))/\(wI (a0-(wI (0-0))))*((1:Nat):Int)<=281474976710656 then(if (0:Int)<=0/\0<=((List.replicate (wI (a0-(wI (0-0)))).toNat (0:UInt8)).length:Int) then(some ((List.replicate (wI (a0-(wI (0-0)))).toNat (0:UInt8)).take (0:Int).toNat)) else none) else none) else(some ([]:List UInt8))
def Kd (a0:Int):Option (List UInt8) :=
 if (decide (a0<0)) then none else(P3 a0 ())
theorem Z5:OwB 206 5 1 eU8 (λa0=>[.one (Znl),.one (Ii6 a0)]) Kd:=Ahw (z:=(0:UInt8)) .c206 Tryz.underlying56 ei5 Be7 fR R (by decide)
def Vu (b3:(List UInt8)):Option (List UInt8) :=
 some b3
def Fg (a0:List (List UInt8)) (s4:Int×(List UInt8)):Option (LB (Int×(List UInt8)) ((List UInt8))) :=
 if (decide (s4.1<(a0.length:Int))) then((idx a0 s4.1).bind λu5=>if (s4.2.length+u5.length)*1<=140737488355328 then(some (.cont ((wI (s4.1+1)),(s4.2++u5)))) else none) else(some (.brk s4.2))
def Nx (a0:List (List UInt8)) (b1:Int):Option (List UInt8) :=
 (Kd b1).bind λv2=>(Be (Fg a0) fuel (0,v2)).bind λe7=>Vu e7
def Fj (a0:List (List UInt8)) (s8:Int×Int):Option (LB (Int×Int) (Int)) :=
 if (decide (s8.2<(a0.length:Int))) then((idx a0 s8.2).bind λu9=>if (decide ((wI (s8.1+(u9.length:Int)))<0)) then none else(some (.cont ((wI (s8.1+(u9.length:Int))),(wI (s8.2+1)))))) else(some (.brk s8.1))
def Fe (a0:List (List UInt8)):Option (List UInt8) :=
 (Be (Fj a0) fuel (0,0)).bind λe10=>Nx a0 e10
theorem Ww:OwB 137 5 1 eU8 (λa0=>[.one (SL a0 (eL eU8))]) Fe:=X9 .c137 Z5 Tryz.underlying56 ei5 Ber Ay5 fR (by decide)
noncomputable def Yi:Aei TTs Qx0:=Aw7 137 [.sl (.sl .u8)] 5 .u8 (λa=>Fe a.1) (λ_ _ h=>Ww _ _ h)
def Ss (a0:List UInt8):Option Aj :=
 (Fe [a0,[(UInt8.ofBitVec (0#8))]]).bind λv1=>some (Aj.mk a0 v1 false)
noncomputable def c65:CT:=vK1 65 [.sl .u8] (.st 3) ⟨[],[(7,Yi)]⟩ anN Tryz.func65 (λa=>Ss a.1)
def Pw (a0:Int) (b1:Unit):Option (List Ac) :=
 if (decide (0<(wI (a0-(wI (0-0)))))) then(if 0<(wI (a0-(wI (0-0))))/\(wI (a0-(wI (0-0))))*((64:Nat):Int)<=281474976710656 then(if (0:Int)<=0/\0<=((List.replicate (wI (a0-(wI (0-0)))).toNat Aaa).length:Int) then(some ((List.replicate (wI (a0-(wI (0-0)))).toNat Aaa).take (0:Int).toNat)) else none) else none) else(some ([]:List Ac))
def Kn (a0:Int):Option (List Ac) :=
 if (decide (a0<0)) then none else(Pw a0 ())
theorem Aab:OwB 268 142 4 Av (λa0=>[.one (Znl),.one (Ii6 a0)]) Kn:=Ahw (z:=Aaa) .c268 Tryz.underlying30 A1v A01 fR R (by decide)
def Vq (b3:(List Ac)):Option (List Ac) :=
 some b3
def Fo (a0:List (List Ac)) (s4:Int×(List Ac)):Option (LB (Int×(List Ac)) ((List Ac))) :=
 if (decide (s4.1<(a0.length:Int))) then((idx a0 s4.1).bind λu5=>if (s4.2.length+u5.length)*64<=140737488355328 then(some (.cont ((wI (s4.1+1)),(s4.2++u5)))) else none) else(some (.brk s4.2))
def Nt (a0:List (List Ac)) (b1:Int):Option (List Ac) :=
 (Kn b1).bind λv2=>(Be (Fo a0) fuel (0,v2)).bind λe7=>Vq e7
def Fl (a0:List (List Ac)) (s8:Int×Int):Option (LB (Int×Int) (Int)) :=
 if (decide (s8.2<(a0.length:Int))) then((idx a0 s8.2).bind λu9=>if (decide ((wI (s8.1+(u9.length:Int)))<0)) then none else(some (.cont ((wI (s8.1+(u9.length:Int))),(wI (s8.2+1)))))) else(some (.brk s8.1))
def E8 (a0:List (List Ac)):Option (List Ac) :=
 (Be (Fl a0) fuel (0,0)).bind λe10=>Nt a0 e10
theorem Xt:OwB 250 142 4 Av (λa0=>[.one (SL a0 (eL Av))]) E8:=X9 .c250 Aab Tryz.underlying30 A1v Bep A9f fR (by decide)
def N6 (a0:Am) (a1:Int) (a2:Aj) (b1:Unit):Option (Am×Int) :=
 (G4 a0.L).bind λv2=>(Iy (Ac.mk a1 a2)).bind λv3=>if (Aln v2 v3) then(some ((Am.mk a0.L),0)) else(if (decide (128<=(a0.L.length:Int))) then(some ((Am.mk ([]:List Ac)),8)) else((E8 [a0.L,[(Ac.mk a1 a2)]]).bind λv4=>some ((Am.mk v4),0)))
def D1 (a0:Am) (a1:Int) (a2:Aj):Option (Am×Int) :=
 (D3 (Am.mk a0.L)).bind λv5=>if (!v5) then(some ((Am.mk ([]:List Ac)),1)) else((B6 (Ac.mk a1 a2)).bind λv6=>if (!v6) then(some ((Am.mk ([]:List Ac)),1)) else(N6 a0 a1 a2 ()))
theorem Ad4 {a0:Am} {a1:Int} {a2:Aj} {r:Am×Int} (h:D1 a0 a1 a2=some r):Bc Qx0 199 [.agg [SL a0.L Av],.one (Ii6 a1),.agg (EL.el a2)] (·=.tup [.agg [SL r.1.L Av],.one (Ii6 r.2)]):=by
 refine Cg Tryz.func199 R (nt:=46) R (Nbl R) ?_
 intro w0 S0
 refine crs R (crs R (Fs (Fs (cj3 (Unit) (λb1=>[(3,L7 (.lp 0 0)),(6,L7 (.lp 2 0)),(8,L7 (.lp 3 0))]) (λb1=>[.box [SL a0.L Av],BE a2,.box [Znl],.box [Ii6 a1,SL a2.Lo eU8,SL a2.Hi eU8,.b a2.Open]]) (λb1=>N6 a0 a1 a2 b1=some r) fR (λb1 h=>?_) ?_))))
 ·refine Fs (Fs (Ald ?_))
  obtain⟨v2,hv2,h⟩:=Ap h
  obtain⟨v3,hv3,h⟩:=Ap h
  refine Ui [2] [0,1,3,0,15,31,63,127,127,255,1023] [[.box [SL a0.L Av],BE a2,.box [Znl],.box [Ii6 a1,SL a2.Lo eU8,SL a2.Hi eU8,.b a2.Open],.hole],[.box [SL a0.L Av],BE a2,.box [Znl],.box [Ii6 a1,SL a2.Lo eU8,SL a2.Hi eU8,.b a2.Open],Ze Cr v2]] (by kernel_rfl) mixed (by kernel_rfl) (by decide) R R R R ?_
  refine ev (A6 0 R R) R R (Aw Alz R) (ev (A6 0 R R) R R (l1 A6w R R R) (ee (x:=L7 (.mp 0 4)) 0 R R R R R (λζ=>?_) ?_))
  ·refine Alv 4 R (fk R) (.func _) (Ar R A7) (Re hv2) R R R ?_
   exact Aij
  refine ev (Fi (md:=[.box [SL a0.L Av],BE a2,.box [Znl],.box [Ii6 a1,SL a2.Lo eU8,SL a2.Hi eU8,.b a2.Open],.dead]) ⟨⟨R,⟨R,⟨R,⟨R,⟨trivial,trivial⟩⟩⟩⟩⟩,⟨⟨R,⟨R,⟨R,⟨R,⟨trivial,trivial⟩⟩⟩⟩⟩,trivial⟩⟩) R R (lo Aw5 R R R) (ed (A6 1 R R) R R (Lr (fk R) (Ar R A7) R (P0 hv3)) (ev (A6 1 R R) R R (Ar2 (M:=v2) (k:=v3) A4x Tryz.underlying299 zv3 R R R) (ev (A6 1 R R) R R (Ae3 R) (ev (A6 1 R R) R R (Jw R R) (ev (A6 1 R R) R R (Jw R R) (ev (A6 1 R R) R R (Vk R) (ev (A6 1 R R) R R (Vk R) (Ax7 (A1 (crs R (ccI h R (λh=>?_) (λh=>?_))))))))))))
  ·refine crs R (crt ?_)
   cases SJ h
   exact dE R (G5 R) R
  ·refine csn (Fs (crs R (ccI h R (λh=>?_) (λh=>?_))))
   ·refine crs R (crt ?_)
    cases SJ h
    exact dE R (Ac7 R) R
   ·refine csn (csr (rx 3 R ?_))
    refine S7 R Tryz.underlying30 A1v R R (zJ.1 R) (by decide) ?_
    refine Agw [.box [SL a0.L Av],BE a2,.box [Znl],.box [Ii6 a1,SL a2.Lo eU8,SL a2.Hi eU8,.b a2.Open],Ze Cr v2,.arr 142 4 0 ([(Ac.mk a1 a2)].flatMap Av)] R ?_
    refine A4l 42 R (by(repeat' first|exact Ag1.nil _|apply Ag1.cons|apply Aif.one|apply Aif.agg|exact Ab1.nil|exact Ab1.ls _ _ _ _ _ _ R (A4 (f:=Av) fR ([(Ac.mk a1 a2)]:List Ac)).symm|exact Ab1.ls _ _ _ _ _ _ R (A4 (f:=Av) fR _).symm|exact Ab1.id _ R|exact Aby.nil _|apply Aby.cons)) ?_
    refine A3y (out:=([a0.L,[(Ac.mk a1 a2)]]:List (List Ac)).flatMap (eL Av)) R Tryz.underlying396 Bfd (Ed R (Ed R Li)) (.cons _ _ _ _ _ _ _ R R (Nbl R) (.cons _ _ _ _ _ _ _ R R (Nbl R) (.nil _))) R (by decide) ?_
    refine A4l 43 R (by(repeat' first|exact Ag1.nil _|apply Ag1.cons|apply Aif.one|apply Aif.agg|exact Ab1.nil|exact Ab1.ls _ _ _ _ _ _ R (A4 (f:=(eL Av)) fR ([a0.L,[(Ac.mk a1 a2)]]:List (List Ac))).symm|exact Ab1.ls _ _ _ _ _ _ R (A4 (f:=(eL Av)) fR _).symm|exact Ab1.ls _ _ _ _ _ _ R (A4 (f:=Av) fR _).symm|exact Ab1.id _ R|exact Aby.nil _|apply Aby.cons)) ?_
    obtain⟨v4,hv4,h⟩:=Ap h
    refine Kv (x':=L7 (.ls 7 v4.length)) (M':=[.box [SL a0.L Av],BE a2,.box [Znl],.box [Ii6 a1,SL a2.Lo eU8,SL a2.Hi eU8,.b a2.Open],Ze Cr v2,.arr 142 4 ([(Ac.mk a1 a2)].flatMap Av).length ([(Ac.mk a1 a2)].flatMap Av),.arr 30 1 ([a0.L,[(Ac.mk a1 a2)]].flatMap (eL Av)).length ([a0.L,[(Ac.mk a1 a2)]].flatMap (eL Av)),.arr 142 4 0 (v4.flatMap Av)]) [] R (fk R) (.func _) (Ar R A7) (Xt _ _ hv4) R R (by decide) R R R ?_
    refine rsn R (Pj ?_)
    cases SJ h
    refine⟨Or.inr R,_,_,_,(A3 (ra Be1 R R R) (A3 (rt R) Bj)),pb,?_⟩
    rfl
 ·refine Fc (rx 1 R ?_)
  obtain⟨v5,hv5,h⟩:=Ap h
  refine scI R R (Ue hv5) (rx 2 R (ssI 17 h R (λh=>?_) (λh=>?_)))
  ·refine rsn R (S8 R (λ_=>?_) (λhx=>Bool.noConfusion hx))
   refine crs R (crt ?_)
   cases SJ h
   exact dE R (Ac7 R) R
  ·refine rx 1 R (son R R R ?_)
   obtain⟨v6,hv6,h⟩:=Ap h
   refine scI R R (O7 hv6) (rsn R (ccI h R (λh=>?_) (λh=>?_)))
   ·refine crs R (crt ?_)
    cases SJ h
    exact dE R (Ac7 R) R
   ·refine csn ?_
    exact⟨(),_,h,(ml R),R⟩
def C9 (a0:List Ag):Option (List Ag) :=
 if (([]:List Ag).length+a0.length)*64<=140737488355328 then(some (([]:List Ag)++a0)) else none
theorem P7:OwB 200 139 8 A2 (λa0=>[.one (SL a0 A2)]) C9:=Zn .c200 Tryz.underlying29 A3b Bby fR (by decide)
def Ld (a0:Ag) (a1:Ag):Option Bool :=
 if (decide (a0.State=2)) then(some (decide (a0.End<=a1.Begin))) else(some false)
noncomputable def Bdg:CT:=vK1 251 [.st 9,.st 9] .bool ⟨[],[]⟩ anN Tryz.func251 (λa=>Ld a.1 a.2.1)
def Da (a0:Ag) (a1:Ag):Option Bool :=
 (Ld a0 a1).bind λv1=>if (!v1) then((Ld a1 a0).bind λv2=>some (!v2)) else(some false)
noncomputable def Bce:CT:=vK1 201 [.st 9,.st 9] .bool ⟨[Bdg],[]⟩ anN Tryz.func201 (λa=>Da a.1 a.2.1)
theorem T8 {a0:Ag} {a1:Ag} {r:Bool} (h:Da a0 a1=some r):Bc Qx0 201 [.agg (EL.el a0),.agg (EL.el a1)] (·=L7 (.b r)):=Bce.ok (a0,a1,()) r h
def Aaf (b1:Unit):Option Bool :=
 some false
def Ie (a0:Ag) (a1:Aj) (s2:Int):Option (LR (Int) (Unit) (Bool)) :=
 if (decide (s2<(a0.Keys.length:Int))) then((idx a0.Keys s2).bind λu3=>(Er a1 u3).bind λv4=>if v4 then(some (.ret true)) else(some (.cont (wI (s2+1))))) else(some (.brk ()))
def Im (a0:Ag) (a1:Aj):Option Bool :=
 (B7 (Ie a0 a1) fuel 0).bind λx=>match x with | .inl r=>some r | .inr e5=>Aaf e5
noncomputable def Bd5:CT:=vK1 202 [.st 9,.st 3] .bool ⟨[A9m],[]⟩ (⟨λn=>match n with
  | 2=>some (lF ⟨[(10,.v (.int .i64))],[.keep,.keep]⟩ 0 ⟨[],[.keep,.keep]⟩ true)
  | _=>none,λ_=>[]⟩) Tryz.func202 (λa=>Im a.1 a.2.1)
theorem Aa5 {a0:Ag} {a1:Aj} {r:Bool} (h:Im a0 a1=some r):Bc Qx0 202 [.agg (EL.el a0),.agg (EL.el a1)] (·=L7 (.b r)):=Bd5.ok (a0,a1,()) r h
def Dp  : Option Unit :=
 some ()
theorem Rr  {r:Unit} (h:Dp=some r):Dk Qx0 203 [] [] (λy m'=>y=.s (.agg [.raw (.func (.func 252) #[] #[]),.raw (.func (.func 253) #[] #[])])/\m'=[]):=by
 refine Bw Tryz.func203 R (nt:=2) R (Nbl R) ?_
 intro w0 S0 X0 H0
 refine crs R (crs R (Pj ?_))
 cases SJ h
 exact⟨Or.inr R,_,[],[.agg [.raw (.func (.func 252) #[] #[]),.raw (.func (.func 253) #[] #[])]],[],(A3 (ra Baq R R R) Bj),R,R,⟨by decide,R⟩,R,R,⟨R,R⟩⟩
def L8 (a0:Ag):Option Ag :=
 some ({a0 with Out:=true})
theorem Wx {a0:Ag} {r:Ag} (h:L8 a0=some r):Bc Qx0 252 [.agg (EL.el a0)] (·=.s (.agg (EL.el r))):=by
 refine Cg Tryz.func252 R (nt:=5) R (Nbl R) ?_
 intro w0 S0
 refine crs R (crs R (crs R (Pj ?_)))
 cases SJ h
 exact dnA R Yq R (.lp _ _ _ R) (Nbl R) R R
def L2 (a0:Ag):Option Ag :=
 some ({a0 with In:=true})
theorem Wp {a0:Ag} {r:Ag} (h:L2 a0=some r):Bc Qx0 253 [.agg (EL.el a0)] (·=.s (.agg (EL.el r))):=by
 refine Cg Tryz.func253 R (nt:=5) R (Nbl R) ?_
 intro w0 S0
 refine crs R (crs R (crs R (Pj ?_)))
 cases SJ h
 exact dnA R Yq R (.lp _ _ _ R) (Nbl R) R R
def Fa (a0:List Ag) (a1:Int) (a2:Int):Option (List Ag) :=
 (idx a0 a1).bind λu1=>(L8 u1).bind λv2=>(idx a0 a1).bind λu3=>(idx (a0.set a1.toNat v2) a2).bind λu4=>(L2 u4).bind λv5=>(idx (a0.set a1.toNat v2) a2).bind λu6=>some ((a0.set a1.toNat v2).set a2.toNat v5)
theorem O9 {a0:List Ag} {a1:Int} {a2:Int} {r:(List Ag)} (h:Fa a0 a1 a2=some r):Dk Qx0 204 [.arr 139 8 0 (a0.flatMap A2)] [.agg [.raw (.func (.func 252) #[] #[]),.raw (.func (.func 253) #[] #[])],.one (.ls 0 a0.length),.one (Ii6 a1),.one (Ii6 a2)] (λy m'=>y=.tup []/\m'=[.arr 139 8 0 (r.flatMap A2)]):=by
 refine Bw Tryz.func204 R (nt:=28) R (Nbl R) ?_
 intro w0 S0 X0 H0
 refine crs R (Fs ?_)
 obtain⟨u1,hu1,h⟩:=Ap h
 obtain⟨v2,hv2,h⟩:=Ap h
 obtain⟨u3,hu3,h⟩:=Ap h
 refine Ui [10] [0,0,0,4,0,0,48,112,252,511,1023] [[.arr 139 8 0 (a0.flatMap A2),.box [.raw (.func (.func 252) #[] #[]),.raw (.func (.func 253) #[] #[])]],[.arr 139 8 0 ((a0.set a1.toNat v2).flatMap A2),.box [.raw (.func (.func 252) #[] #[]),.raw (.func (.func 253) #[] #[])]]] (by kernel_rfl) mixed (by kernel_rfl) (by decide) R R R R ?_
 refine ev (A6 0 R R) R R (Du R) (ev (A6 0 R R) R R (Du R) (ev (A6 0 R R) R R (Aw A2p R) (ev (A6 0 R R) R R (l1 A6l R R R) (ev (A6 0 R R) R R (Du R) (ev (A6 0 R R) R R (Du R) ?_)))))
 refine ev (A6 0 rfl rfl) rfl rfl (Gm (f:=A2) Aj0 (λ_=>rfl) rfl rfl rfl (by first|rfl|exact List.length_set.symm) rfl hu1) ?_
 refine ev (A6 0 R R) R R (Ox (f:=A2) (sz:=8) 0 Yq fR R R R R (Hu hu1).2 (Nbl R) R) ?_
 refine ed (A6 0 R R) R R (Vz (fk R) (.raw _ _ R) (Ar R A7) R (Wx hv2)) ?_
 refine ev (A6 0 rfl rfl) rfl rfl (Gm (f:=A2) Aj0 (λ_=>rfl) rfl rfl rfl (by first|rfl|exact List.length_set.symm) rfl hu3) ?_
 refine ee0 0 R R R R (λζ=>?_) ?_
 ·refine Aku (f:=A2) (u':=v2) (sz:=8) 0 A6j (λ_=>rfl) rfl rfl rfl rfl (by first|rfl|exact List.length_set.symm) rfl rfl (zJ.1 rfl) (Hu hu3).2 (Nbl rfl) rfl ?_
  exact Aij
 refine Ax7 (A1 (Ac4 1 (y:=L7 (.ls 0 a0.length)) (L7 (.ls 0 (a0.set a1.toNat v2).length)) R (congrArg (λn=>AV.s (.one (.ls 0 n))) List.length_set.symm) ?_))
 refine Ac4 8 (y:=L7 (.ls 0 a0.length)) (L7 (.ls 0 (a0.set a1.toNat v2).length)) R (congrArg (λn=>AV.s (.one (.ls 0 n))) List.length_set.symm) ?_
 refine Ac4 12 (y:=L7 (.ls 0 a0.length)) (L7 (.ls 0 (a0.set a1.toNat v2).length)) R (congrArg (λn=>AV.s (.one (.ls 0 n))) List.length_set.symm) ?_
 obtain⟨u4,hu4,h⟩:=Ap h
 obtain⟨v5,hv5,h⟩:=Ap h
 obtain⟨u6,hu6,h⟩:=Ap h
 refine Ui [10] [0,0,0,4,0,0,48,112,252,511,1023] [[.arr 139 8 0 ((a0.set a1.toNat v2).flatMap A2),.box [.raw (.func (.func 252) #[] #[]),.raw (.func (.func 253) #[] #[])]],[.arr 139 8 0 (((a0.set a1.toNat v2).set a2.toNat v5).flatMap A2),.box [.raw (.func (.func 252) #[] #[]),.raw (.func (.func 253) #[] #[])]]] (by kernel_rfl) mixed (by kernel_rfl) (by decide) R R R R ?_
 refine ev (A6 0 R R) R R (Du R) (ev (A6 0 R R) R R (Du R) (ev (A6 0 R R) R R (Aw A38 R) (ev (A6 0 R R) R R (l1 A6l R R R) (ev (A6 0 R R) R R (Du R) (ev (A6 0 R R) R R (Du R) ?_)))))
 refine ev (A6 0 rfl rfl) rfl rfl (Gm (f:=A2) Aj0 (λ_=>rfl) rfl rfl rfl (by first|rfl|exact List.length_set.symm) rfl hu4) ?_
 refine ev (A6 0 R R) R R (Ox (f:=A2) (sz:=8) 0 Yq fR R R R R (Hu hu4).2 (Nbl R) R) ?_
 refine ed (A6 0 R R) R R (Vz (fk R) (.raw _ _ R) (Ar R A7) R (Wp hv5)) ?_
 refine ev (A6 0 rfl rfl) rfl rfl (Gm (f:=A2) Aj0 (λ_=>rfl) rfl rfl rfl (by first|rfl|exact List.length_set.symm) rfl hu6) ?_
 refine ee0 0 R R R R (λζ=>?_) ?_
 ·refine Aku (f:=A2) (u':=v5) (sz:=8) 0 A6j (λ_=>rfl) rfl rfl rfl rfl (by first|rfl|exact List.length_set.symm) rfl rfl (zJ.1 rfl) (Hu hu6).2 (Nbl rfl) rfl ?_
  exact Aij
 refine Ax7 ?_
 cases SJ h
 exact⟨Or.inl R,_,[0],[],[.arr 139 8 0 (((a0.set a1.toNat v2).set a2.toNat v5).flatMap A2)],Bj,R,R,⟨by decide,R⟩,R,R,⟨R,R⟩⟩
def Gr (a0:Ag):Option Bool :=
 if a0.In then(some a0.Out) else(some false)
noncomputable def Bgb:CT:=vK1 205 [.st 9] .bool ⟨[],[]⟩ anN Tryz.func205 (λa=>Gr a.1)
theorem Pk {a0:Ag} {r:Bool} (h:Gr a0=some r):Bc Qx0 205 [.agg (EL.el a0)] (·=L7 (.b r)):=Bgb.ok (a0,()) r h
def Lm (v3:Am×Int) (b5:(List Ag)):Option (Af×Int) :=
 some ((Af.mk b5 v3.1),0)
def Lu (v2:Int) (s6:Int×(List Ag)) (b8:Unit):Option (LR (Int×(List Ag)) ((List Ag)) (Af×Int)) :=
 (Dp).bind λv9=>(Fa s6.2 v2 s6.1).bind λv10=>if v10.length=s6.2.length then((idx v10 s6.1).bind λu12=>(Gr u12).bind λv13=>if v13 then(some (.ret (Bn,10))) else(some (.cont ((wI (s6.1+1)),v10)))) else none
def Cn (a2:Aj) (v2:Int) (v4:(List Ag)) (s6:Int×(List Ag)):Option (LR (Int×(List Ag)) ((List Ag)) (Af×Int)) :=
 if (decide (s6.1<(v4.length:Int))) then((idx s6.2 s6.1).bind λu7=>if (!decide (u7.State=2)) then(some (.cont ((wI (s6.1+1)),s6.2))) else((idx s6.2 v2).bind λu14=>(Da u7 u14).bind λv15=>if (!v15) then(some (.cont ((wI (s6.1+1)),s6.2))) else((Im u7 (Aj.mk a2.Lo a2.Hi a2.Open)).bind λv16=>if (!v16) then(some (.cont ((wI (s6.1+1)),s6.2))) else(Lu v2 s6 ())))) else(some (.brk s6.2))
def Cd (a0:Af) (a1:Int) (a2:Aj):Option (Af×Int) :=
 (Hv a0).bind λv1=>if (!v1) then(some (Bn,1)) else((Cm a0 a1).bind λv2=>if (decide (v2<0)) then(some (Bn,7)) else((D1 a0.Reads a1 a2).bind λv3=>if (!decide (v3.2=0)) then(some (Bn,v3.2)) else((C9 a0.Txs).bind λv4=>(B7 (Cn a2 v2 v4) fuel (0,v4)).bind λx=>match x with | .inl r=>some r | .inr e17=>Lm v3 e17)))
theorem Afr {a0:Af} {a1:Int} {a2:Aj} {r:Af×Int} (h:Cd a0 a1 a2=some r):Bc Qx0 136 [.agg (EL.el a0),.one (Ii6 a1),.agg (EL.el a2)] (·=.tup [.agg (EL.el r.1),.one (Ii6 r.2)]):=by
 refine Cg Tryz.func136 R (nt:=79) R (Nbl R) ?_
 intro w0 S0
 refine crs R (Fs (csr (rx 1 R ?_)))
 obtain⟨v1,hv1,h⟩:=Ap h
 refine scI R R (Zl hv1) (rsn R (ccI h R (λh=>?_) (λh=>?_)))
 ·refine crs R (crt ?_)
  cases SJ h
  exact dE R (Ac7 R) R
 ·refine csn (csr (rx 2 R ?_))
  obtain⟨v2,hv2,h⟩:=Ap h
  refine scI R R (Tm hv2) (rsn R (Fs (crs R (ccI h R (λh=>?_) (λh=>?_)))))
  ·refine crs R (crt ?_)
   cases SJ h
   exact dE R (Ac7 R) R
  ·refine csn (csr (rx 4 R ?_))
   obtain⟨v3,hv3,h⟩:=Ap h
   refine scI R R (Ad4 hv3) (rsn R (Fs (crs R (ccI h R (λh=>?_) (λh=>?_)))))
   ·refine crs R (crt ?_)
    cases SJ h
    exact dE R (Ac7 R) R
   ·refine csn (csr (rx 2 R ?_))
    obtain⟨v4,hv4,h⟩:=Ap h
    refine Kv (x':=L7 (.ls 4 v4.length)) (M':=[BE a0,BE a2,.box [Znl,Znl],.box [SL v3.1.L Av],.arr 139 8 0 (v4.flatMap A2)]) [] R (fk R) (.func _) (Ar R A7) (P7 _ _ hv4) R R (by decide) R R R ?_
    refine rsn R (Fs (csr (rm 1 R (sv R (L9 Aj0 R R (A4 (f:=A2) fR _).symm) ?_))))
    refine rsn R (cj ((List Ag)) (λb5=>[(6,L7 (.lp 2 0)),(9,L7 (.lp 3 0)),(11,L7 (.ls 4 b5.length))]) (λb5=>[BE a0,BE a2,.box [Znl,Znl],.box [SL v3.1.L Av],.arr 139 8 0 (b5.flatMap A2)]) (λb5=>Lm v3 b5=some r) fR (λb5 h=>?_) ?_)
    ·refine crs R (Pj ?_)
     cases SJ h
     refine⟨Or.inr R,_,_,_,(A3 (ra A8s R R R) (A3 (rt R) Bj)),pb,?_⟩
     rfl
    ·refine Jf ?_
     obtain⟨x6,hx6,ho6⟩:=Ap h
     refine lpn (α:=Int×(List Ag)) (λg=>[(5,L7 (.lp 1 0)),(6,L7 (.lp 2 0)),(8,L7 (Ii6 v2)),(9,L7 (.lp 3 0)),(11,L7 (.ls 4 g.2.2.length)),(39,L7 (.ls 4 g.2.2.length)),(40,L7 (Ii6 (v4.length:Int))),(41,L7 (Ii6 g.2.1))]) (λg=>[BE a0,BE a2,.box [Znl,Znl],.box [SL v3.1.L Av],.arr 139 8 0 (g.2.2.flatMap A2)]) (λg=>B7 (Cn a2 v2 v4) g.1 g.2=some x6) (fuel,(0,v4)) hx6 R R fR ?_
     rintro⟨n6,s6⟩ h
     obtain⟨n6,y6,rfl,h,hk6⟩:=Aae h
     refine crs R (Fs (ccI h R (λh=>?_) (λh=>?_)))
     ·refine csn (Fs (Jf (csr (rx 1 R ?_))))
      obtain⟨u7,hu7,h⟩:=Ap h
      refine sv R (Gm (f:=A2) Aj0 fR R R R R R hu7) ?_
      refine sv R (Ox (f:=A2) (sz:=8) 0 Yq fR R R R R (Hu hu7).2 (Nbl R) R) ?_
      refine rsn R (Fs (Fs (cj3 (Unit) (λb8=>[(5,L7 (.lp 1 0)),(6,L7 (.lp 2 0)),(8,L7 (Ii6 v2)),(9,L7 (.lp 3 0)),(11,L7 (.ls 4 s6.2.length)),(12,L7 (Ii6 s6.1)),(39,L7 (.ls 4 s6.2.length)),(40,L7 (Ii6 (v4.length:Int))),(41,L7 (Ii6 s6.1))]) (λb8=>[BE a0,BE a2,.box [Znl,Znl],.box [SL v3.1.L Av],.arr 139 8 0 (s6.2.flatMap A2),BE u7]) (λb8=>Lu v2 s6 b8=some y6) fR (λb8 h=>?_) ?_)))
      ·refine Fs (Fc ?_)
       obtain⟨v9,hv9,h⟩:=Ap h
       refine Kv (x':=.s (.agg [.raw (.func (.func 252) #[] #[]),.raw (.func (.func 253) #[] #[])])) (M':=[BE a0,BE a2,.box [Znl,Znl],.box [SL v3.1.L Av],.arr 139 8 0 (s6.2.flatMap A2),BE u7]) [] R (fk R) (.func _) A7 (Rr hv9) R R (by decide) R R R ?_
       refine rx 3 R ?_
       obtain⟨v10,hv10,h⟩:=Ap h
       refine Kv (x':=.tup []) (M':=[BE a0,BE a2,.box [Znl,Znl],.box [SL v3.1.L Av],.arr 139 8 0 (v10.flatMap A2),BE u7]) [4] R (fk R) (.func _) (Ar R (Ar R (Ar R (Ar R A7)))) (O9 hv10) R R (by decide) R R R ?_
       obtain⟨hl11,h⟩:=Ht h
       refine Ns 11 (y:=L7 (.ls 4 s6.2.length)) (L7 (.ls 4 v10.length)) R (congrArg (λn=>AV.s (.one (.ls 4 n))) hl11.symm) ?_
       refine Ns 39 (y:=L7 (.ls 4 s6.2.length)) (L7 (.ls 4 v10.length)) R (congrArg (λn=>AV.s (.one (.ls 4 n))) hl11.symm) ?_
       refine Ns 65 (y:=L7 (.ls 4 s6.2.length)) (L7 (.ls 4 v10.length)) R (congrArg (λn=>AV.s (.one (.ls 4 n))) hl11.symm) ?_
       refine Agg (csr (rx 2 R ?_))
       obtain⟨u12,hu12,h⟩:=Ap h
       refine sv R (Gm (f:=A2) Aj0 fR R R R R R hu12) ?_
       refine sv R (Ox (f:=A2) (sz:=8) 0 Yq fR R R R R (Hu hu12).2 (Nbl R) R) ?_
       obtain⟨v13,hv13,h⟩:=Ap h
       refine scI R R (Pk hv13) (Agg (ccI h R (λh=>?_) (λh=>?_)))
       ·refine crs R (Pj (br5 ?_))
        cases SJ h
        obtain rfl:Sum.inl _=x6:=hk6
        obtain rfl:=zF ho6
        exact dE R (Ac7 R) R
       ·refine cbn (cgs R ?_)
        cases SJ h
        exact lx (n6,((wI (s6.1+1)),v10)) hk6 R R
      ·refine cdn mixed (by kernel_rfl) ?_
       refine dv R (Aw Aue R) (dv R (l1 ti3 R R R) (dv R (Aid R R) (dv R (Du R) (Ali 49 R (λhc=>?_) (λhc=>?_)))))
       ·replace h:=Adq hc h
        clear hc
        refine Vw R R R R (Vw R R R R (Vw R R R R (Vw R R R R (Vw R R R R (Vw R R R R (Vw R R R R (dv R (Iv R R) (dv R (Du R) (Vw R R R R (Vw R R R R (Vw R R R R (Vw R R R R (dv R (Iv R R) (Awg (A1 (S8 R (λ_=>?_) (λhx=>Bool.noConfusion hx)))))))))))))))))
        refine An2 (O5 (Q4 (A1 (cgs R ?_))))
        cases SJ h
        exact lx (n6,((wI (s6.1+1)),s6.2)) hk6 R R
       ·replace h:=Adw hc h
        clear hc
        refine dvg R R R (lo Yq R R R) (dvg R R R (Du R) (dvg R R R (Du R) ?_))
        obtain⟨u14,hu14,h⟩:=Ap h
        refine dvg R R R (Gm (f:=A2) Aj0 fR R R R R R hu14) ?_
        refine dvg R R R (Ox (f:=A2) (sz:=8) 0 Yq fR R R R R (Hu hu14).2 (Nbl R) R) ?_
        obtain⟨v15,hv15,h⟩:=Ap h
        refine ddg R R R (Lr (fk R) (Ar R (Ar R A7)) R (T8 hv15)) (dvg R R R (Zx R) (dv R (Ma R R) (dv R (Du R) (Ali 58 R (λhc=>?_) (λhc=>?_)))))
        ·replace h:=Adq hc h
         clear hc
         refine Vw R R R R (Vw R R R R (Vw R R R R (Vw R R R R (dv R (Iv R R) (Awg (A1 (S8 R (λ_=>?_) (λhx=>Bool.noConfusion hx))))))))
         refine An2 (O5 (Q4 (A1 (cgs R ?_))))
         cases SJ h
         exact lx (n6,((wI (s6.1+1)),s6.2)) hk6 R R
        ·replace h:=Adw hc h
         clear hc
         refine dvg R R R (lo Yq R R R) (dvg R R R (lo Bd6 R R R) ?_)
         obtain⟨v16,hv16,h⟩:=Ap h
         refine ddg R R R (Lr (fk R) (Ar R (Ar R A7)) R (Aa5 hv16)) (dvg R R R (Zx R) (dv R (Ma R R) (Awg (A1 (ccI h R (λh=>?_) (λh=>?_))))))
         ·refine An2 (O5 (Q4 (A1 (cgs R ?_))))
          cases SJ h
          exact lx (n6,((wI (s6.1+1)),s6.2)) hk6 R R
         ·refine csn ?_
          exact⟨(),_,h,(ml R),R⟩
     ·refine cx5 ?_
      cases SJ h
      obtain rfl:_=x6:=hk6
      exact⟨s6.2,_,ho6,(ml R),R⟩
noncomputable def Bfh:CT:=⟨136,[.st 10,.int .i64,.st 3],[.st 10,.int .i64],Af×Int,λr=>(r.1,(r.2,())),λa=>Cd a.1 a.2.1 a.2.2.1,λ_ _ h=>Afr h⟩
def Fw (a0:Aa) (a1:Aq) (a2:Aj):Option (Aa×Int) :=
 (Cd a0.Cert a1.ID a2).bind λv1=>if (!decide (v1.2=0)) then((A5 a0 a1).bind λv2=>some (v2,v1.2)) else(some ({a0 with Cert:=v1.1},0))
noncomputable def c64:CT:=vK2 64 [.st 14,.st 13,.st 3] (.st 14) (.int .i64) ⟨[c57,Bfh],[]⟩ anN Tryz.func64 (λa=>Fw a.1 a.2.1 a.2.2.1)
def Di (a0:List UInt8) (a1:List UInt8):Option Bool :=
 (F3 a1 a0).bind λv1=>some (decide (0<=v1))
theorem Mc {a0:List UInt8} {a1:List UInt8} {r:Bool} (h:Di a0 a1=some r):Bc Qx0 148 [.one (SL a0 eU8),.one (SL a1 eU8)] (·=L7 (.b r)):=by
 refine Cg Tryz.func148 R (nt:=9) R (Nbl R) ?_
 intro w0 S0
 refine crs R (csr (rx 2 R ?_))
 obtain⟨v1,hv1,h⟩:=Ap h
 refine scI R R (Agq hv1) (rsn R (Pj ?_))
 cases SJ h
 exact dnT R R R R
def Gu (b1:Unit):Option Int :=
 some (-1)
def Dz (a0:List (List UInt8)) (a1:List UInt8) (s2:Int):Option (LR (Int) (Unit) (Int)) :=
 if (decide (s2<(a0.length:Int))) then((idx a0 s2).bind λu3=>(Di a1 u3).bind λv4=>if v4 then(some (.ret s2)) else(some (.cont (wI (s2+1))))) else(some (.brk ()))
def Iw (a0:List (List UInt8)) (a1:List UInt8):Option Int :=
 (B7 (Dz a0 a1) fuel 0).bind λx=>match x with | .inl r=>some r | .inr e5=>Gu e5
theorem Tw {a0:List (List UInt8)} {a1:List UInt8} {r:Int} (h:Iw a0 a1=some r):Bc Qx0 147 [.one (SL a0 (eL eU8)),.one (.fn 148 [SL a1 eU8] [])] (·=L7 (Ii6 r)):=by
 refine Cg Tryz.func147 R (nt:=19) R (Nbl R) ?_
 intro w0 S0
 refine crs R (Fs (crs R (cj (Unit) (λb1=>[]) (λb1=>[]) (λb1=>Gu b1=some r) fR (λb1 h=>?_) ?_)))
 ·refine crs R (Pj ?_)
  cases SJ h
  exact dnT R R R R
 ·refine Jf ?_
  obtain⟨x2,hx2,ho2⟩:=Ap h
  refine lpn (α:=Int) (λg=>[(0,L7 (SL a0 (eL eU8))),(1,L7 (.fn 148 [SL a1 eU8] [])),(7,L7 (Ii6 (a0.length:Int))),(8,L7 (Ii6 g.2))]) (λg=>[]) (λg=>B7 (Dz a0 a1) g.1 g.2=some x2) (fuel,0) hx2 R R fR ?_
  rintro⟨n2,s2⟩ h
  obtain⟨n2,y2,rfl,h,hk2⟩:=Aae h
  refine crs R (Fs (ccI h R (λh=>?_) (λh=>?_)))
  ·refine csn (Fs (Jf (crs R (csr (rx 3 R ?_)))))
   obtain⟨u3,hu3,h⟩:=Ap h
   refine sv R (Ny (f:=(eL eU8)) Ay5 fR R R R R hu3) ?_
   refine rx 1 R ?_
   obtain⟨v4,hv4,h⟩:=Ap h
   refine sd R (Vz (fk R) (.fn _ _ _ _ R) (Ar R A7) R (Mc hv4)) (Agg (ccI h R (λh=>?_) (λh=>?_)))
   ·refine crs R (Pj (br5 ?_))
    cases SJ h
    obtain rfl:Sum.inl _=x2:=hk2
    obtain rfl:=zF ho2
    exact dnT R R R R
   ·refine cbn (cgs R ?_)
    cases SJ h
    exact lx (n2,(wI (s2+1))) hk2 R R
  ·refine cx5 ?_
   cases SJ h
   obtain rfl:_=x2:=hk2
   exact⟨(),_,ho2,trivial,R⟩
def Ig (a0:List (List UInt8)) (a1:List UInt8):Option (Int×Bool) :=
 (Iw a0 a1).bind λv1=>if (decide (v1<0)) then(some ((a0.length:Int),false)) else((idx a0 v1).bind λu2=>(Cw u2 a1).bind λv3=>some (v1,v3))
theorem Wi {a0:List (List UInt8)} {a1:List UInt8} {r:Int×Bool} (h:Ig a0 a1=some r):Bc Qx0 69 [.one (SL a0 (eL eU8)),.one (SL a1 eU8)] (·=.tup [.one (Ii6 r.1),.one (.b r.2)]):=by
 refine Cg Tryz.func69 R (nt:=22) R (Nbl R) ?_
 intro w0 S0
 refine crs R (csr (rm 2 R (sv R (Wh (Z8 R R Qx) Qx) ?_)))
 obtain⟨v1,hv1,h⟩:=Ap h
 refine sd R (Vz (fk R) (.func _) (Ar R (Ar R A7)) R (Tw hv1)) (rsn R (Fs (crs R (ccI h R (λh=>?_) (λh=>?_)))))
 ·refine crs R (crt ?_)
  cases SJ h
  exact dE R (G5 R) R
 ·refine csn (csr (rx 3 R ?_))
  obtain⟨u2,hu2,h⟩:=Ap h
  refine sv R (Ny (f:=(eL eU8)) Ay5 fR R R R R hu2) ?_
  refine rx 2 R ?_
  obtain⟨v3,hv3,h⟩:=Ap h
  refine scI R R (Sa hv3) (rsn R (Pj ?_))
  cases SJ h
  exact dE R (G5 R) R
noncomputable def c69:CT:=⟨69,[.sl (.sl .u8),.sl .u8],[.int .i64,.bool],Int×Bool,λr=>(r.1,(r.2,())),λa=>Ig a.1 a.2.1,λ_ _ h=>Wi h⟩
def Iz (a1:Int) (s1:Int) (x1:Int×Ai):Option ((Int) ⊕ (Nat×(Int))) :=
 if (decide (x1.2.Ts<=a1)) then(some (.inr (0,x1.1))) else(some (.inl s1))
def Nn (s2:Int):Option Int :=
 some (-1)
def Nl (s3:Int):Option Int :=
 some s3
def G7 (a0:Ab) (a1:Int):Option Int :=
 (Ark a0).bind λL1=>(R1 (Iz a1) L1 0).bind λe=>Amc Nn Nl (λ_ _=>none) e
theorem Ab4 {a0:Ab} {a1:Int} {r:Int} (h:G7 a0 a1=some r):Bc Qx0 218 [.agg [SL a0.L Bq],.one (Ii6 a1)] (·=L7 (Ii6 r)):=by
 refine Acn Tryz.func218 R (nt:=16) R (Nbl R) ?_
 intro w0 S0
 refine Ag9 (Gw R (λw0 S0 X0 m0 H0=>?_))
 refine Ate R R R (Ate R R R (rsn R (Ag9 (Ag9 (Gw R (λw0 S0 X0 m0 H0=>?_))))))
 refine sv R (D9 (ys:=[SL a0.L Bq]) Aw4 R (.cp _) R R) (scI R R Jy (Agg (Ahl ?_)))
 obtain⟨L1,hL1,h⟩:=Ap h
 obtain⟨e1,he1,h⟩:=Ap h
 refine Aof (Iz a1) L1 (λx1=>.one (Ii6 x1.1)) (λx1=>.agg (EL.el x1.2)) (λs1=>[.box [Ii6 s1]]) 0 he1 R (fk R) R (An4 hL1) R R R fR (λ_=>Aa8 R) ?_ ?_ ?_ ?_
 ·clear h
  intro x1 s1 y1 l h w0 S0 X0 H0
  refine Ag9 (Gw R (λw0 S0 X0 m0 H0=>?_))
  refine rsn R (Gw R (λw0 S0 X0 m0 H0=>?_))
  refine rsn R (λw0 S0 X0 H0=>?_)
  refine Ahl (Ag9 (Gw R (λw0 S0 X0 m0 H0=>?_)))
  refine rsn R (A2u R (λhc=>?_) (λhc=>?_))
  ·replace h:=Adq hc h
   clear hc
   refine Ag9 (Gw R (λw0 S0 X0 m0 H0=>?_))
   refine rsn R (A2q (Q6 ?_))
   cases SJ h
   exact⟨x1.1,_,R,R⟩
  ·replace h:=Adw hc h
   clear hc
   refine A75 (Bz ?_)
   cases SJ h
   exact⟨s1,_,R,R⟩
 ·intro s2 hs
  obtain rfl:=hs
  replace h:Nn s2=some r:=h
  refine Bz (A1 (Ag9 (Gw R (λw0 S0 X0 m0 H0=>?_))))
  refine rsn R (A2q ?_)
  cases SJ h
  exact dE R (G5 R) R
 ·intro s3 hs
  obtain rfl:=hs
  replace h:Nl s3=some r:=h
  refine br2 ?_
  cases SJ h
  exact dE R (G5 R) R
 ·intro id s hs
  obtain rfl:=hs
  replace h:none=some r:=h
  cases h
noncomputable def Bc7:CT:=⟨218,[.st 5,.int .i64],[.int .i64],Int,λr=>(r,()),λa=>G7 a.1 a.2.1,λ_ _ h=>Ab4 h⟩
def Dw (a0:Ab) (a1:Int):Option (Ai×Bool) :=
 (G7 a0 a1).bind λv1=>if (decide (v1<0)) then(some ((Ai.mk 0 ([]:List UInt8) false),false)) else((idx a0.L v1).bind λu2=>some (u2,true))
noncomputable def Be8:CT:=vK2 149 [.st 5,.int .i64] (.st 4) .bool ⟨[Bc7],[]⟩ anN Tryz.func149 (λa=>Dw a.1 a.2.1)
def Sl (v1:Ai×Bool) (b2:Unit):Option ((List UInt8)×Bool) :=
 some (v1.1.Val,true)
def Cv (a0:Ab) (a1:Int):Option ((List UInt8)×Bool) :=
 (Dw a0 a1).bind λv1=>if (!v1.2) then(some (([]:List UInt8),false)) else(if v1.1.Del then(some (([]:List UInt8),false)) else(Sl v1 ()))
noncomputable def c70:CT:=vK2 70 [.st 5,.int .i64] (.sl .u8) .bool ⟨[Be8],[]⟩ anN Tryz.func70 (λa=>Cv a.1 a.2.1)
def Vi (a0:Ao) (a2:Int) (v1:Int×Bool) (b2:Unit):Option ((List UInt8)×Bool) :=
 (idx a0.Chains v1.1).bind λu3=>(Cv u3 a2).bind λv4=>some (v4.1,v4.2)
def Ii (a0:Ao) (a1:List UInt8) (a2:Int):Option ((List UInt8)×Bool) :=
 (Ig a0.Keys a1).bind λv1=>if (!v1.2) then(some (([]:List UInt8),false)) else((Ca a0).bind λv5=>if (!v5) then(some (([]:List UInt8),false)) else(Vi a0 a2 v1 ()))
noncomputable def c28:CT:=vK2 28 [.st 6,.sl .u8,.int .i64] (.sl .u8) .bool ⟨[c45,c69,c70],[]⟩ anN Tryz.func28 (λa=>Ii a.1 a.2.1 a.2.2.1)
def H6 (a0:Aa) (a1:Int) (a2:List UInt8):Option (Aa×(List UInt8)×Bool×Int) :=
 (C0 a0 a1).bind λv1=>if (!decide (v1.2=0)) then((Ch a0 v1.2).bind λv2=>some (v2,([]:List UInt8),false,v1.2)) else((Co a2).bind λv3=>if (!v3) then(some (a0,([]:List UInt8),false,1)) else((Gq v1.1.Buf a2).bind λv4=>if v4.2 then(some (a0,v4.1.Val,(!v4.1.Del),0)) else((Ss a2).bind λv5=>(Fw a0 v1.1 v5).bind λv6=>if (!decide (v6.2=0)) then(some (v6.1,([]:List UInt8),false,v6.2)) else((Ii v6.1.Store a2 v1.1.Snap).bind λv7=>some (v6.1,v7.1,v7.2,0)))))
noncomputable def c24:CT:=vK 24 [.st 14,.int .i64,.sl .u8] [.st 14,.sl .u8,.bool,.int .i64] (λr=>(r.1,(r.2.1,(r.2.2.1,(r.2.2.2,()))))) (λv=>(v.1,v.2.1,v.2.2.1,v.2.2.2.1)) ⟨[c28,c55,c61,c62,c63,c64,c65],[]⟩ anN Tryz.func24 (λa=>H6 a.1 a.2.1 a.2.2.1)
theorem Aar {a0:Aa} {a1:Int} {a2:List UInt8} {r:Aa×(List UInt8)×Bool×Int} (h:H6 a0 a1 a2=some r):Bc Qx0 24 [.agg (EL.el a0),.one (Ii6 a1),.one (SL a2 eU8)] (·=.tup [.agg (EL.el r.1),.one (SL r.2.1 eU8),.one (.b r.2.2.1),.one (Ii6 r.2.2.2)]):=c24.ok (a0,a1,a2,()) r h
def I8 (a0:List Ae):Option (List Ae) :=
 if (([]:List Ae).length+a0.length)*56<=140737488355328 then(some (([]:List Ae)++a0)) else none
theorem Yr:OwB 126 99 3 A0 (λa0=>[.one (SL a0 A0)]) I8:=Zn .c126 Tryz.underlying84 Bc5 Bdk fR (by decide)
def Mv (a0:List Ae) (a1:Int) (a2:List Ae):Option (List Ae):=Auz 56 a0 a1 a2
theorem Y8 {a0:List Ae} {a1:Int} {a2 r:List Ae} (h:Mv a0 a1 a2=some r):Dk Qx0 127 [.arr 99 3 0 (a0.flatMap A0),.arr 99 3 0 (a2.flatMap A0)] [.one (.ls 0 a0.length),.one (Ii6 a1),.one (.ls 1 a2.length)] (λy m'=>y=L7 (.ls 0 r.length)/\m'=[.arr 99 3 0 (r.flatMap A0),.dead]) :=
 Ast (f:=A0) (λ_=>rfl) (A3w .k127) h
def G9 (a0:Au) (a1:Ae) (b1:Unit):Option (Au×Int) :=
 (Cs a0).bind λv2=>(Ig v2 a1.Key).bind λv3=>(I8 a0.L).bind λv4=>if v3.2 then((idx v4 v3.1).bind λu5=>some ((Au.mk (v4.set v3.1.toNat a1)),0)) else(if (decide (16<=(v4.length:Int))) then(some ((Au.mk ([]:List Ae)),8)) else((Mv v4 v3.1 [a1]).bind λv6=>some ((Au.mk v6),0)))
def Bu (a0:Au) (a1:Ae):Option (Au×Int) :=
 (Df (Au.mk a0.L)).bind λv7=>if (!v7) then(some ((Au.mk ([]:List Ae)),1)) else((Bt (Ae.mk a1.Key a1.Val a1.Del)).bind λv8=>if (!v8) then(some ((Au.mk ([]:List Ae)),1)) else(G9 a0 a1 ()))
theorem Ad9 {a0:Au} {a1:Ae} {r:Au×Int} (h:Bu a0 a1=some r):Bc Qx0 53 [.agg [SL a0.L A0],.agg (EL.el a1)] (·=.tup [.agg [SL r.1.L A0],.one (Ii6 r.2)]):=by
 refine Cg Tryz.func53 R (nt:=46) R (Nbl R) ?_
 intro w0 S0
 refine crs R (Fs (Fs (cj3 (Unit) (λb1=>[(2,L7 (.lp 0 0)),(3,L7 (.lp 1 0)),(4,L7 (.lp 2 0))]) (λb1=>[.box [SL a0.L A0],BE a1,.box [Znl]]) (λb1=>G9 a0 a1 b1=some r) fR (λb1 h=>?_) ?_)))
 ·refine Fs ?_
  obtain⟨v2,hv2,h⟩:=Ap h
  obtain⟨v3,hv3,h⟩:=Ap h
  refine Ui [] [0,1,0,4,15,31,63,63,127,511] [[.box [SL a0.L A0],BE a1,.box [Znl]]] (by kernel_rfl) mixed (by kernel_rfl) (by decide) R R R R ?_
  refine ev (A6 0 R R) R R (lo Bai R R R) (ed (A6 0 R R) R R (Lr (fk R) (Ar R A7) R (Y9 hv2)) (ev (A6 0 R R) R R (Aw A6m R) (ev (A6 0 R R) R R (l1 A8j R R R) (ed (A6 0 R R) R R (Lr (fk R) (Ar R (Ar R A7)) R (Wi hv3)) (ev (A6 0 R R) R R (Ae3 R) (ev (A6 0 R R) R R (Jw R R) (ev (A6 0 R R) R R (Jw R R) (ev (A6 0 R R) R R (Vk R) (ev (A6 0 R R) R R (Vk R) (Ax7 (A1 (csr (rx 2 R ?_)))))))))))))
  obtain⟨v4,hv4,h⟩:=Ap h
  refine Kv (x':=L7 (.ls 3 v4.length)) (M':=[.box [SL a0.L A0],BE a1,.box [Znl],.arr 99 3 0 (v4.flatMap A0)]) [] R (fk R) (.func _) (Ar R A7) (Yr _ _ hv4) R R (by decide) R R R ?_
  refine rsn R (Fs (crs R (ccI h R (λh=>?_) (λh=>?_))))
  ·refine csr (rx 3 R ?_)
   obtain⟨u5,hu5,h⟩:=Ap h
   refine sv R (Gm (f:=A0) A8z fR R R R R R hu5) ?_
   refine Aku (f:=A0) (u':=a1) (sz:=3) 0 Bfg fR R R R R R R R (zJ.1 R) (Hu hu5).2 (Nbl R) R ?_
   refine Ns 28 (y:=L7 (.ls 3 v4.length)) (L7 (.ls 3 (v4.set v3.1.toNat a1).length)) R (congrArg (λn=>AV.s (.one (.ls 3 n))) List.length_set.symm) ?_
   refine Ns 8 (y:=L7 (.ls 3 v4.length)) (L7 (.ls 3 (v4.set v3.1.toNat a1).length)) R (congrArg (λn=>AV.s (.one (.ls 3 n))) List.length_set.symm) ?_
   refine Ns 30 (y:=L7 (.ls 3 v4.length)) (L7 (.ls 3 (v4.set v3.1.toNat a1).length)) R (congrArg (λn=>AV.s (.one (.ls 3 n))) List.length_set.symm) ?_
   refine Agg (crs R (crt ?_))
   cases SJ h
   refine⟨Or.inr R,_,_,_,(A3 (ra Bai R R R) (A3 (rt R) Bj)),pb,?_⟩
   rfl
  ·refine csn (Fs (csr (rm 1 R (sv R (L9 A8z R R (A4 (f:=A0) fR _).symm) ?_))))
   refine rsn R (ccI h R (λh=>?_) (λh=>?_))
   ·refine crs R (crt ?_)
    cases SJ h
    exact dE R (Ac7 R) R
   ·refine csn (csr (rx 3 R ?_))
    refine S7 R Tryz.underlying84 Bc5 R R (zJ.1 R) (by decide) ?_
    refine Agw [.box [SL a0.L A0],BE a1,.box [Znl],.arr 99 3 0 (v4.flatMap A0),.arr 99 3 0 ([a1].flatMap A0)] R ?_
    obtain⟨v6,hv6,h⟩:=Ap h
    refine Kv (x':=L7 (.ls 3 v6.length)) (M':=[.box [SL a0.L A0],BE a1,.box [Znl],.arr 99 3 0 (v6.flatMap A0),.dead]) [3,4] R (fk R) (.func _) (Ar R (Ar R (Ar R A7))) (Y8 hv6) R R (by decide) R R R ?_
    refine rsn R (Pj ?_)
    cases SJ h
    refine⟨Or.inr R,_,_,_,(A3 (ra Bai R R R) (A3 (rt R) Bj)),pb,?_⟩
    rfl
 ·refine Fc (rx 1 R ?_)
  obtain⟨v7,hv7,h⟩:=Ap h
  refine scI R R (Ry hv7) (rx 2 R (ssI 12 h R (λh=>?_) (λh=>?_)))
  ·refine rsn R (S8 R (λ_=>?_) (λhx=>Bool.noConfusion hx))
   refine crs R (crt ?_)
   cases SJ h
   exact dE R (Ac7 R) R
  ·refine rx 1 R (son R R R ?_)
   obtain⟨v8,hv8,h⟩:=Ap h
   refine scI R R (Uy hv8) (rsn R (ccI h R (λh=>?_) (λh=>?_)))
   ·refine crs R (crt ?_)
    cases SJ h
    exact dE R (Ac7 R) R
   ·refine csn ?_
    exact⟨(),_,h,(ml R),R⟩
def Qq (a0:Aa) (a1:Aq) (a2:Int):Option Aa :=
 (Ol a2 1).bind λv1=>if v1 then(some a0) else((A5 a0 a1).bind λv2=>some v2)
theorem Afy {a0:Aa} {a1:Aq} {a2:Int} {r:Aa} (h:Qq a0 a1 a2=some r):Bc Qx0 66 [.agg (EL.el a0),.agg (EL.el a1),.one (.raw (.iface 62 (.int .i64 a2)))] (·=.s (.agg (EL.el r))):=by
 refine Cg Tryz.func66 R (nt:=14) R (Nbl R) ?_
 intro w0 S0
 refine crs R (Fs (csr (rm 1 R (sv R (Apz Tryz.underlying62 R) ?_))))
 obtain⟨v1,hv1,h⟩:=Ap h
 refine scI R R (Aef hv1) (Agg (ccI h R (λh=>?_) (λh=>?_)))
 ·refine crs R (crt ?_)
  cases SJ h
  exact dnA R A82 R (.lp _ _ _ R) (Nbl R) R R
 ·refine csn (csr (rx 2 R ?_))
  obtain⟨v2,hv2,h⟩:=Ap h
  refine scI R R (Adp hv2) (rsn R (Pj ?_))
  cases SJ h
  exact dnA R A82 R (.lp _ _ _ R) (Nbl R) R R
def I5 (a0:List Aq):Option (List Aq) :=
 if (([]:List Aq).length+a0.length)*64<=140737488355328 then(some (([]:List Aq)++a0)) else none
theorem Y6:OwB 139 88 6 Hj (λa0=>[.one (SL a0 Hj)]) I5:=Zn .c139 Tryz.underlying38 A9w Bcq fR (by decide)
def Lq (a0:Aa) (a1:Aq):Option Aa :=
 (I5 a0.Open).bind λv1=>(B0 (Aa.mk (Ao.mk a0.Store.Keys a0.Store.Chains a0.Store.Ts) (Af.mk a0.Cert.Txs (Am.mk a0.Cert.Reads.L)) (Ah.mk a0.Toks.L) a0.Open a0.Next) a1.ID).bind λv2=>(idx v1 v2).bind λu3=>some (Aa.mk (Ao.mk a0.Store.Keys a0.Store.Chains a0.Store.Ts) (Af.mk a0.Cert.Txs (Am.mk a0.Cert.Reads.L)) (Ah.mk a0.Toks.L) (v1.set v2.toNat a1) a0.Next)
theorem Aau {a0:Aa} {a1:Aq} {r:Aa} (h:Lq a0 a1=some r):Bc Qx0 67 [.agg (EL.el a0),.agg (EL.el a1)] (·=.s (.agg (EL.el r))):=by
 refine Cg Tryz.func67 R (nt:=19) R (Nbl R) ?_
 intro w0 S0
 refine crs R (csr (rx 2 R ?_))
 obtain⟨v1,hv1,h⟩:=Ap h
 refine Kv (x':=L7 (.ls 3 v1.length)) (M':=[BE a0,BE a1,.box Zba,.arr 88 6 0 (v1.flatMap Hj)]) [] R (fk R) (.func _) (Ar R A7) (Y6 _ _ hv1) R R (by decide) R R R ?_
 refine rsn R (Fs ?_)
 obtain⟨v2,hv2,h⟩:=Ap h
 obtain⟨u3,hu3,h⟩:=Ap h
 refine Ui [7] [0,0,0,4,14,0,63,127] [[BE a0,BE a1,.box Zba,.arr 88 6 0 (v1.flatMap Hj)],[BE a0,BE a1,.box Zba,.arr 88 6 0 ((v1.set v2.toNat a1).flatMap Hj)]] (by kernel_rfl) mixed (by kernel_rfl) (by decide) R R R R ?_
 refine ev (A6 0 R R) R R (Du R) (ev (A6 0 R R) R R (lo A82 R R R) (ev (A6 0 R R) R R (Aw A7y R) (ev (A6 0 R R) R R (l1 ti3 R R R) (ed (A6 0 R R) R R (Lr (fk R) (Ar R (Ar R A7)) R (Af1 hv2)) (ev (A6 0 R R) R R (lo Bea R R R) ?_)))))
 refine ev (A6 0 rfl rfl) rfl rfl (Gm (f:=Hj) Bb3 (λ_=>rfl) rfl rfl rfl (by first|rfl|exact List.length_set.symm) rfl hu3) ?_
 refine ee0 0 R R R R (λζ=>?_) ?_
 ·refine Aku (f:=Hj) (u':=a1) (sz:=6) 0 Bf3 (λ_=>rfl) rfl rfl rfl rfl (by first|rfl|exact List.length_set.symm) rfl rfl (zJ.1 rfl) (Hu hu3).2 (Nbl rfl) rfl ?_
  exact Aij
 refine Ax7 (A1 (Ac4 8 (y:=L7 (.ls 3 v1.length)) (L7 (.ls 3 (v1.set v2.toNat a1).length)) R (congrArg (λn=>AV.s (.one (.ls 3 n))) List.length_set.symm) ?_))
 refine Ac4 5 (y:=L7 (.ls 3 v1.length)) (L7 (.ls 3 (v1.set v2.toNat a1).length)) R (congrArg (λn=>AV.s (.one (.ls 3 n))) List.length_set.symm) ?_
 refine Ac4 9 (y:=L7 (.ls 3 v1.length)) (L7 (.ls 3 (v1.set v2.toNat a1).length)) R (congrArg (λn=>AV.s (.one (.ls 3 n))) List.length_set.symm) ?_
 refine crs R (crs R (Pj ?_))
 cases SJ h
 refine⟨Or.inr R,_,_,_,(A3 (ra A82 R R R) Bj),pb,?_⟩
 rfl
def Hw (a0:Aa) (a1:Int) (a2:Ae):Option (Aa×Int) :=
 (C0 a0 a1).bind λv1=>if (!decide (v1.2=0)) then((Ch a0 v1.2).bind λv2=>some (v2,v1.2)) else(if v1.1.RO then(some (a0,7)) else((Bu v1.1.Buf a2).bind λv3=>if (!decide (v3.2=0)) then((Qq a0 v1.1 v3.2).bind λv4=>some (v4,v3.2)) else((Lq a0 ({v1.1 with Buf:=v3.1})).bind λv5=>some (v5,0))))
theorem U0 {a0:Aa} {a1:Int} {a2:Ae} {r:Aa×Int} (h:Hw a0 a1 a2=some r):Bc Qx0 25 [.agg (EL.el a0),.one (Ii6 a1),.agg (EL.el a2)] (·=.tup [.agg (EL.el r.1),.one (Ii6 r.2)]):=by
 refine Cg Tryz.func25 R (nt:=46) R (Nbl R) ?_
 intro w0 S0
 refine crs R (csr (rx 2 R ?_))
 obtain⟨v1,hv1,h⟩:=Ap h
 refine scI R R (Agz hv1) (rsn R (Fs (crs R (ccI h R (λh=>?_) (λh=>?_)))))
 ·refine csr (rx 2 R ?_)
  obtain⟨v2,hv2,h⟩:=Ap h
  refine scI R R (Ag8 hv2) (rsn R (crt ?_))
  cases SJ h
  exact dE R (G5 R) R
 ·refine csn (Fs (crs R (ccI h R (λh=>?_) (λh=>?_))))
  ·refine crs R (crt ?_)
   cases SJ h
   exact dE R (G5 R) R
  ·refine csn (csr (rx 3 R ?_))
   obtain⟨v3,hv3,h⟩:=Ap h
   refine scI R R (Ad9 hv3) (rsn R (Fs (crs R (ccI h R (λh=>?_) (λh=>?_)))))
   ·refine csr (rx 3 R (sv R (Apz Tryz.underlying62 R) ?_))
    obtain⟨v4,hv4,h⟩:=Ap h
    refine scI R R (Afy hv4) (rsn R (crt ?_))
    cases SJ h
    exact dE R (G5 R) R
   ·refine csn (crs R (csr (rx 2 R ?_)))
    obtain⟨v5,hv5,h⟩:=Ap h
    refine scI R R (Aau hv5) (rsn R (Pj ?_))
    cases SJ h
    exact dE R (G5 R) R
noncomputable def c25:CT:=⟨25,[.st 14,.int .i64,.st 0],[.st 14,.int .i64],Aa×Int,λr=>(r.1,(r.2,())),λa=>Hw a.1 a.2.1 a.2.2.1,λ_ _ h=>U0 h⟩
def Aap (b1:(List (List UInt8))):Option (List (List UInt8)) :=
 some b1
def Aas (a0:Au) (s2:Int×(List (List UInt8))):Option (LB (Int×(List (List UInt8))) ((List (List UInt8)))) :=
 if (decide (s2.1<(a0.L.length:Int))) then((idx a0.L s2.1).bind λu3=>if (s2.2.length+[u3.Key].length)*24<=140737488355328 then(some (.cont ((wI (s2.1+1)),(s2.2++[u3.Key])))) else none) else(some (.brk s2.2))
def G8 (a0:Au):Option (List (List UInt8)) :=
 (Be (Aas a0) fuel (0,([]:List (List UInt8)))).bind λe5=>Aap e5
noncomputable def Bf6:CT:=vK1 141 [.st 1] (.sl (.sl .u8)) ⟨[],[]⟩ (⟨λn=>match n with
  | 3=>some (lF ⟨[(3,.own 1),(9,.v (.int .i64))],[.keep,.arr 56 1 0 ((.sl .u8))]⟩ 0 ⟨[(3,.own 1)],[.keep,.arr 56 1 0 ((.sl .u8))]⟩ false)
  | _=>none,λn=>match n with
  | 3=>[.t 3 56 1 (.sl .u8)]
  | _=>[]⟩) Tryz.func141 (λa=>G8 a.1)
def Abq (b2:Unit):Option Bool :=
 some true
def Jc (a0:Af) (a2:Int) (s3:Int):Option (LR (Int) (Unit) (Bool)) :=
 if (decide (s3<(a0.Txs.length:Int))) then((idx a0.Txs s3).bind λu4=>if (decide (a2<=u4.End)) then(some (.ret false)) else(some (.cont (wI (s3+1))))) else(some (.brk ()))
def Jl (a0:Af) (a2:Int) (b1:Unit):Option Bool :=
 (B7 (Jc a0 a2) fuel 0).bind λx=>match x with | .inl r=>some r | .inr e5=>Abq e5
def Hl (a0:Af) (a1:Ag) (a2:Int) (a3:List (List UInt8)):Option Bool :=
 if (decide (a2<=a1.Begin)) then(some false) else(if (decide (1099511627776<a2)) then(some false) else((Hf a3).bind λv6=>if (!v6) then(some false) else(if a1.RO then(if (decide (0<(a3.length:Int))) then(some false) else(Jl a0 a2 ())) else(Jl a0 a2 ()))))
noncomputable def Bf7:CT:=vK1 209 [.st 10,.st 9,.int .i64,.sl (.sl .u8)] .bool ⟨[Bcb],[]⟩ (⟨λn=>match n with
  | 4=>some (lF ⟨[(36,.v (.int .i64))],[.keep,.keep]⟩ 0 ⟨[],[.keep,.keep]⟩ true)
  | _=>none,λ_=>[]⟩) Tryz.func209 (λa=>Hl a.1 a.2.1 a.2.2.1 a.2.2.2.1)
theorem Acy {a0:Af} {a1:Ag} {a2:Int} {a3:List (List UInt8)} {r:Bool} (h:Hl a0 a1 a2 a3=some r):Bc Qx0 209 [.agg (EL.el a0),.agg (EL.el a1),.one (Ii6 a2),.one (SL a3 (eL eU8))] (·=L7 (.b r)):=Bf7.ok (a0,a1,a2,a3,()) r h
def Yv (b1:Unit):Option Bool :=
 some false
def K8 (s2:Int) (b5:Unit):Option (LR (Int) (Unit) (Bool)) :=
 some (.cont (wI (s2+1)))
def G0 (a2:List (List UInt8)) (u3:Ag) (s6:Int):Option (LR (Int) (Unit) (Bool)) :=
 if (decide (s6<(a2.length:Int))) then((idx a2 s6).bind λu7=>(Ig u3.Keys u7).bind λv8=>if v8.2 then(some (.ret true)) else(some (.cont (wI (s6+1))))) else(some (.brk ()))
def P8 (a2:List (List UInt8)) (s2:Int) (u3:Ag) (b4:Unit):Option (LR (Int) (Unit) (Bool)) :=
 (B7 (G0 a2 u3) fuel 0).bind λx=>match x with | .inl r=>some (.ret r) | .inr e9=>K8 s2 e9
def Gz (a0:Af) (a1:Ag) (a2:List (List UInt8)) (s2:Int):Option (LR (Int) (Unit) (Bool)) :=
 if (decide (s2<(a0.Txs.length:Int))) then((idx a0.Txs s2).bind λu3=>if (!decide (u3.State=2)) then(some (.cont (wI (s2+1)))) else((Da a1 u3).bind λv10=>if (!v10) then(some (.cont (wI (s2+1)))) else(P8 a2 s2 u3 ()))) else(some (.brk ()))
def Dt (a0:Af) (a1:Ag) (a2:List (List UInt8)):Option Bool :=
 (B7 (Gz a0 a1 a2) fuel 0).bind λx=>match x with | .inl r=>some r | .inr e11=>Yv e11
noncomputable def Bfy:CT:=vK1 210 [.st 10,.st 9,.sl (.sl .u8)] .bool ⟨[c69,Bce],[]⟩ (⟨λn=>match n with
  | 2=>some (lF ⟨[(16,.v (.int .i64))],[.keep,.keep]⟩ 0 ⟨[],[.keep,.keep]⟩ true)
  | 6=>some (lF ⟨[(31,.v (.int .i64))],[.keep,.keep,.keep]⟩ 2 ⟨[],[.keep,.keep,.keep]⟩ true)
  | _=>none,λ_=>[]⟩) Tryz.func210 (λa=>Dt a.1 a.2.1 a.2.2.1)
theorem Zu {a0:Af} {a1:Ag} {a2:List (List UInt8)} {r:Bool} (h:Dt a0 a1 a2=some r):Bc Qx0 210 [.agg (EL.el a0),.agg (EL.el a1),.one (SL a2 (eL eU8))] (·=L7 (.b r)):=Bfy.ok (a0,a1,a2,()) r h
def Aqy:Go.Shelf.Ren:=⟨λ| 5=>269|8=>191|7=>278|19=>246|20=>247|10=>282|11=>283|12=>284|13=>285|14=>286|15=>287|16=>288|17=>289|18=>290|30=>293|31=>263|32=>264|33=>294|34=>295|35=>296|40=>297|n=>n,λ| 23=>225|25=>3|3=>3|32=>307|22=>225|0=>0|44=>365|46=>367|4=>4|36=>359|35=>358|41=>177|5=>5|9=>9|53=>389|57=>393|63=>404|64=>405|n=>n,λ| n=>n⟩
theorem A62 : Go.Proofs.SlLaysM.n5 Tryz.prog Aqy := ⟨by kernel_rfl, ⟨ "slices.Sort[[]int,int]", by decide, ftr Tryz.func269 (by kernel_rfl)⟩, ⟨ "slices.pdqsortOrdered[int]", by decide, ftr Tryz.func278 (by kernel_rfl)⟩, ftr Tryz.func191 (by kernel_rfl), ⟨ "slices.insertionSortOrdered[int]", by decide, ftr Tryz.func282 (by kernel_rfl)⟩, ⟨ "slices.heapSortOrdered[int]", by decide, ftr Tryz.func283 (by kernel_rfl)⟩, ⟨ "slices.breakPatternsOrdered[int]", by decide, ftr Tryz.func284 (by kernel_rfl)⟩, ⟨ "slices.choosePivotOrdered[int]", by decide, ftr Tryz.func285 (by kernel_rfl)⟩, ⟨ "slices.reverseRangeOrdered[int]", by decide, ftr Tryz.func286 (by kernel_rfl)⟩, ⟨ "slices.partialInsertionSortOrdered[int]", by decide, ftr Tryz.func287 (by kernel_rfl)⟩, ⟨ "cmp.Less[int]", by decide, ftr Tryz.func288 (by kernel_rfl)⟩, ⟨ "slices.partitionEqualOrdered[int]", by decide, ftr Tryz.func289 (by kernel_rfl)⟩, ⟨ "slices.partitionOrdered[int]", by decide, ftr Tryz.func290 (by kernel_rfl)⟩, ftr Tryz.func246 (by kernel_rfl), ftr Tryz.func247 (by kernel_rfl), ⟨ "slices.siftDownOrdered[int]", by decide, ftr Tryz.func293 (by kernel_rfl)⟩, ftr Tryz.func263 (by kernel_rfl), ftr Tryz.func264 (by kernel_rfl), ⟨ "slices.medianAdjacentOrdered[int]", by decide, ftr Tryz.func294 (by kernel_rfl)⟩, ⟨ "slices.medianOrdered[int]", by decide, ftr Tryz.func295 (by kernel_rfl)⟩, ⟨ "cmp.isNaN[int]", by decide, ftr Tryz.func296 (by kernel_rfl)⟩, ⟨ "slices.order2Ordered[int]", by decide, ftr Tryz.func297 (by kernel_rfl)⟩, Tryz.underlying0, Tryz.isAgg0, Tryz.sizeOf0, Tryz.zeroValue0, Tryz.underlying3, Tryz.isAgg3, Tryz.sizeOf3, Tryz.zeroValue3, Tryz.underlying4, Tryz.isAgg4, Tryz.sizeOf4, Tryz.zeroValue4, Tryz.underlying5, Tryz.isAgg5, Tryz.sizeOf5, Tryz.zeroValue5, Tryz.underlying9, Tryz.isAgg9, Tryz.sizeOf9, Tryz.zeroValue9, Tryz.underlying225, Tryz.isAgg225, Tryz.sizeOf225, Tryz.zeroValue225, Tryz.underlying225, Tryz.isAgg225, Tryz.sizeOf225, Tryz.zeroValue225, Tryz.underlying3, Tryz.isAgg3, Tryz.sizeOf3, Tryz.zeroValue3, Tryz.underlying307, Tryz.isAgg307, Tryz.sizeOf307, Tryz.zeroValue307, Tryz.underlying358, Tryz.isAgg358, Tryz.sizeOf358, Tryz.zeroValue358, Tryz.underlying359, Tryz.isAgg359, Tryz.sizeOf359, Tryz.zeroValue359, Tryz.underlying177, Tryz.isAgg177, Tryz.sizeOf177, Tryz.zeroValue177, Tryz.underlying365, Tryz.isAgg365, Tryz.sizeOf365, Tryz.zeroValue365, Tryz.underlying367, Tryz.isAgg367, Tryz.sizeOf367, Tryz.zeroValue367, Tryz.underlying389, Tryz.isAgg389, Tryz.sizeOf389, Tryz.zeroValue389, Tryz.underlying393, Tryz.isAgg393, Tryz.sizeOf393, Tryz.zeroValue393, Tryz.underlying404, Tryz.isAgg404, Tryz.sizeOf404, Tryz.zeroValue404, Tryz.underlying405, Tryz.isAgg405, Tryz.sizeOf405, Tryz.zeroValue405⟩
def Pt (a0:List Int):Option (List Int):=if a0.length<=1000000000000000000 then some (a0.mergeSort λx y=>decide (x<=y)) else none
theorem Abc {a0 r:List Int} (h:Pt a0=some r):Dk Qx0 269 [.arr 3 1 0 (a0.flatMap eI)] [.one (.ls 0 a0.length)] (λy m'=>y=.tup []/\m'=[.arr 3 1 0 (r.flatMap eI)]):=by
 obtain⟨hn,h⟩:=Ht h
 cases SJ h
 exact A1n A62 hn
def Arz:Go.Shelf.Ren:=⟨λ| 43=>270|n=>n,λ| 22=>225|23=>3|3=>3|4=>4|0=>0|n=>n,λ| n=>n⟩
theorem A5r:Go.Proofs.SlLaysE.n43 Qx0 Arz:={
 mixed:=by kernel_rfl,
 f43 :=⟨ "slices.Compact[[]int,int]", by decide, ftr Tryz.func270 (by kernel_rfl)⟩,
 t0:=Tryz.underlying0,
 a0:=Tryz.isAgg0,
 z0:=Tryz.sizeOf0,
 v0:=Tryz.zeroValue0,
 t3:=Tryz.underlying3,
 a3:=Tryz.isAgg3,
 z3:=Tryz.sizeOf3,
 v3:=Tryz.zeroValue3,
 t4:=Tryz.underlying4,
 a4:=Tryz.isAgg4,
 z4:=Tryz.sizeOf4,
 v4:=Tryz.zeroValue4,
 t22:=Tryz.underlying225,
 a22:=Tryz.isAgg225,
 z22:=Tryz.sizeOf225,
 v22:=Tryz.zeroValue225,
 a23:=Tryz.isAgg3,
 z23:=Tryz.sizeOf3 }
theorem Ari:Bc Qx0 270 [.one (Znl)] (·=L7 (Znl)):=by
 refine Cg Tryz.func270 R (nt:=61) R (Nbl R) ?_
 intro w0 S0
 refine crs R (Fs (csr (rm 1 R (sv R (Z7 A9g R) (rsn R ?_)))))
 refine S8 R (λ_=>?_) (λhx=>absurd hx (by decide))
 refine crs R (crt (⟨Or.inr R,_,_,_,(A3 (rt R) Bj),(G5 R),?_⟩))
 rfl
def L4 (a0:List Int):Option (List Int):=if a0.length<=1000000000000000000 then some (Aqp a0) else none
theorem Xl {a0 r:List Int} (h:L4 a0=some r):Dk Qx0 270 [.arr 3 1 0 (a0.flatMap eI)] [.one (.ls 0 a0.length)] (λy m'=>y=L7 (.ls 1 r.length)/\m'=[.dead,.arr 3 1 0 (r.flatMap eI)]):=by
 obtain⟨hn,h⟩:=Ht h
 cases SJ h
 exact A2d A5r hn (Go.Proofs.EqlAt.intD _ _ .i64) (Go.Proofs.NeqAt.intD _ _ .i64) Tryz.zeroValue3 Ari
def Ja (b1:(List Int)):Option (List Int) :=
 (Pt b1).bind λv2=>if v2.length=b1.length then((L4 v2).bind λv4=>some v4) else none
def Gg (a0:Am) (a1:List UInt8) (s5:Int×(List Int)):Option (LB (Int×(List Int)) ((List Int))) :=
 if (decide (s5.1<(a0.L.length:Int))) then((idx a0.L s5.1).bind λu6=>(Er u6.Rng a1).bind λv7=>if v7 then(if (s5.2.length+[u6.Tx].length)*8<=140737488355328 then(some (.cont ((wI (s5.1+1)),(s5.2++[u6.Tx])))) else none) else(some (.cont ((wI (s5.1+1)),s5.2)))) else(some (.brk s5.2))
def Mq (a0:Am) (a1:List UInt8):Option (List Int) :=
 (Be (Gg a0 a1) fuel (0,([]:List Int))).bind λe9=>Ja e9
theorem Adb {a0:Am} {a1:List UInt8} {r:(List Int)} (h:Mq a0 a1=some r):Bc Qx0 254 [.agg [SL a0.L Av],.one (SL a1 eU8)] (·=L7 (SL r eI)):=by
 refine Cg Tryz.func254 R (nt:=29) R (Nbl R) ?_
 intro w0 S0
 refine crs R (crs R (Fs (crs R ?_)))
 refine X5 3 1 5 (by decide) R ?_
 refine cj ((List Int)) (λb1=>[(5,L7 (.ls 1 b1.length))]) (λb1=>[.box [SL a0.L Av],.arr 3 1 0 (b1.flatMap eI)]) (λb1=>Ja b1=some r) fR (λb1 h=>?_) ?_
 ·refine csr (rx 1 R ?_)
  obtain⟨v2,hv2,h⟩:=Ap h
  refine Kv (x':=.tup []) (M':=[.box [SL a0.L Av],.arr 3 1 0 (v2.flatMap eI)]) [1] R (fk R) (.func _) (Ar R A7) (Abc hv2) R R (by decide) R R R ?_
  obtain⟨hl3,h⟩:=Ht h
  refine Ns 5 (y:=L7 (.ls 1 b1.length)) (L7 (.ls 1 v2.length)) R (congrArg (λn=>AV.s (.one (.ls 1 n))) hl3.symm) ?_
  refine Ns 25 (y:=L7 (.ls 1 b1.length)) (L7 (.ls 1 v2.length)) R (congrArg (λn=>AV.s (.one (.ls 1 n))) hl3.symm) ?_
  refine Agg (csr (rx 1 R ?_))
  obtain⟨v4,hv4,h⟩:=Ap h
  refine Kv (x':=L7 (.ls 2 v4.length)) (M':=[.box [SL a0.L Av],.dead,.arr 3 1 0 (v4.flatMap eI)]) [1] R (fk R) (.func _) (Ar R A7) (Xl hv4) R R (by decide) R R R ?_
  refine rsn R (Pj ?_)
  cases SJ h
  refine⟨Or.inr R,_,_,_,(A3 (rt R) Bj),pb,?_⟩
  rfl
 ·refine Jf ?_
  obtain⟨x5,hx5,ho5⟩:=Ap h
  refine lpn (α:=Int×(List Int)) (λg=>[(1,L7 (SL a1 eU8)),(5,L7 (.ls 1 g.2.2.length)),(9,L7 (SL a0.L Av)),(10,L7 (Ii6 (a0.L.length:Int))),(11,L7 (Ii6 g.2.1))]) (λg=>[.box [SL a0.L Av],.arr 3 1 0 (g.2.2.flatMap eI)]) (λg=>Be (Gg a0 a1) g.1 g.2=some x5) (fuel,(0,([]:List Int))) hx5 R R fR ?_
  rintro⟨n5,s5⟩ h
  obtain⟨n5,y5,rfl,h,hk5⟩:=Qs h
  refine crs R (Fs (ccI h R (λh=>?_) (λh=>?_)))
  ·refine csn (csb ?_)
   obtain⟨u6,hu6,h⟩:=Ap h
   refine sv R (Ny (f:=Av) A01 fR R R R R hu6) ?_
   refine sv R (D9 (ys:=[Ii6 u6.Tx,SL u6.Rng.Lo eU8,SL u6.Rng.Hi eU8,.b u6.Rng.Open]) Aw5 R (.cp _) R R) (rsn R (csr (rx 3 R ?_)))
   obtain⟨v7,hv7,h⟩:=Ap h
   refine scI R R (Rn hv7) (Agg (ccI h R (λh=>?_) (λh=>?_)))
   ·refine Fc (rx 3 R ?_)
    refine S7 R Tryz.underlying225 ei3 R R (zJ.1 R) (by decide) ?_
    refine Agw [.box [SL a0.L Av],.arr 3 1 0 (s5.2.flatMap eI),BE u6,.arr 3 1 0 ([u6.Tx].flatMap eI)] R ?_
    obtain⟨hb8,h⟩:=Ht h
    refine Azg (f:=eI) (xs:=s5.2) (us:=[u6.Tx]) R Tryz.underlying225 ei3 A7h fR R R (.one _ _ _ _ (.ls _ _ _ _ _ _ R (A4 (f:=eI) fR [u6.Tx]).symm)) R R R (.sl _ _ _ (A4 (f:=eI) fR _)) R R hb8 (by decide) ?_
    refine rm 1 R (Ur (Bz (A1 (cgs R ?_))))
    cases SJ h
    exact lx (n5,((wI (s5.1+1)),(s5.2++[u6.Tx]))) hk5 R R
   ·refine cbn (cgs R ?_)
    cases SJ h
    exact lx (n5,((wI (s5.1+1)),s5.2)) hk5 R R
  ·refine cx5 ?_
   cases SJ h
   obtain rfl:_=x5:=hk5
   exact⟨s5.2,_,ho5,(ml R),R⟩
def Nu (b1:(List Int)):Option (List Int) :=
 some b1
def Dj (a0:Af) (a1:List (List UInt8)) (s2:Int×(List Int)):Option (LB (Int×(List Int)) ((List Int))) :=
 if (decide (s2.1<(a1.length:Int))) then((idx a1 s2.1).bind λu3=>(Mq a0.Reads u3).bind λv4=>if (s2.2.length+v4.length)*8<=140737488355328 then(some (.cont ((wI (s2.1+1)),(s2.2++v4)))) else none) else(some (.brk s2.2))
def H9 (a0:Af) (a1:List (List UInt8)):Option (List Int) :=
 (Be (Dj a0 a1) fuel (0,([]:List Int))).bind λe6=>Nu e6
theorem V3 {a0:Af} {a1:List (List UInt8)} {r:(List Int)} (h:H9 a0 a1=some r):Dk Qx0 212 [] [.agg (EL.el a0),.one (SL a1 (eL eU8))] (λy m'=>y=L7 (.ls 0 r.length)/\m'=[.arr 3 1 0 (r.flatMap eI)]):=by
 refine Bw Tryz.func212 R (nt:=22) R (Nbl R) ?_
 intro w0 S0 X0 H0
 refine crs R (crs R (Fs (crs R ?_)))
 refine X5 3 1 5 (by decide) R ?_
 refine cj ((List Int)) (λb1=>[(5,L7 (.ls 1 b1.length))]) (λb1=>[BE a0,.arr 3 1 0 (b1.flatMap eI)]) (λb1=>Nu b1=some r) fR (λb1 h=>?_) ?_
 ·refine crs R (Pj ?_)
  obtain rfl:=SJ h
  exact⟨Or.inr R,_,[1],[.one (.ls 0 b1.length)],[.arr 3 1 0 (b1.flatMap eI)],(A3 (rt R) Bj),R,R,⟨by decide,R⟩,R,R,⟨R,R⟩⟩
 ·refine Jf ?_
  obtain⟨x2,hx2,ho2⟩:=Ap h
  refine lpn (α:=Int×(List Int)) (λg=>[(2,L7 (.lp 0 0)),(5,L7 (.ls 1 g.2.2.length)),(8,L7 (SL a1 (eL eU8))),(9,L7 (Ii6 (a1.length:Int))),(10,L7 (Ii6 g.2.1))]) (λg=>[BE a0,.arr 3 1 0 (g.2.2.flatMap eI)]) (λg=>Be (Dj a0 a1) g.1 g.2=some x2) (fuel,(0,([]:List Int))) hx2 R R fR ?_
  rintro⟨n2,s2⟩ h
  obtain⟨n2,y2,rfl,h,hk2⟩:=Qs h
  refine crs R (Fs (ccI h R (λh=>?_) (λh=>?_)))
  ·refine csn (csb ?_)
   obtain⟨u3,hu3,h⟩:=Ap h
   refine sv R (Ny (f:=(eL eU8)) Ay5 fR R R R R hu3) ?_
   refine rsn R (Fc (rx 4 R ?_))
   obtain⟨v4,hv4,h⟩:=Ap h
   refine scI R R (Adb hv4) ?_
   obtain⟨hb5,h⟩:=Ht h
   refine Azg (f:=eI) (xs:=s2.2) (us:=v4) R Tryz.underlying225 ei3 A7h fR R R (.one _ _ _ _ (.id _ R)) R R R (.sl _ _ _ (A4 (f:=eI) fR _)) R R hb5 (by decide) ?_
   refine rm 1 R (Ur (Bz (A1 (cgs R ?_))))
   cases SJ h
   exact lx (n2,((wI (s2.1+1)),(s2.2++v4))) hk2 R R
  ·refine cx5 ?_
   cases SJ h
   obtain rfl:_=x2:=hk2
   exact⟨s2.2,_,ho2,(ml R),R⟩
def Rc (b1:(List Ag)):Option (Bool×(List Ag)) :=
 some (true,b1)
def H8 (a1:Int) (s2:Int×(List Ag)) (u3:Ag) (b4:Unit):Option (LR (Int×(List Ag)) ((List Ag)) (Bool×(List Ag))) :=
 (Dp).bind λv5=>(Fa s2.2 s2.1 a1).bind λv6=>if v6.length=s2.2.length then(if (decide (u3.State=2)) then((idx v6 s2.1).bind λu8=>(Gr u8).bind λv9=>if v9 then(some (.ret (false,v6))) else(some (.cont ((wI (s2.1+1)),v6)))) else(some (.cont ((wI (s2.1+1)),v6)))) else none
def Cf (a0:List Ag) (a1:Int) (a2:List Int) (s2:Int×(List Ag)):Option (LR (Int×(List Ag)) ((List Ag)) (Bool×(List Ag))) :=
 if (decide (s2.1<(a0.length:Int))) then((idx s2.2 s2.1).bind λu3=>if (decide (s2.1=a1)) then(some (.cont ((wI (s2.1+1)),s2.2))) else((Cp a2 u3.ID).bind λv10=>if (!v10) then(some (.cont ((wI (s2.1+1)),s2.2))) else((idx s2.2 a1).bind λu11=>(Da u3 u11).bind λv12=>if (!v12) then(some (.cont ((wI (s2.1+1)),s2.2))) else(H8 a1 s2 u3 ())))) else(some (.brk s2.2))
def Ir (a0:List Ag) (a1:Int) (a2:List Int):Option (Bool×(List Ag)) :=
 (B7 (Cf a0 a1 a2) fuel (0,a0)).bind λx=>match x with | .inl r=>some r | .inr e13=>Rc e13
theorem Abm {a0:List Ag} {a1:Int} {a2:List Int} {r:Bool×(List Ag)} (h:Ir a0 a1 a2=some r):Dk Qx0 211 [.arr 139 8 0 (a0.flatMap A2)] [.one (.ls 0 a0.length),.one (Ii6 a1),.one (SL a2 eI)] (λy m'=>y=L7 (.b r.1)/\m'=[.arr 139 8 0 (r.2.flatMap A2)]):=by
 refine Bw Tryz.func211 R (nt:=51) R (Nbl R) ?_
 intro w0 S0 X0 H0
 refine crs R (Fs (csr (rm 1 R (sv R (L9 Aj0 R R (A4 (f:=A2) fR _).symm) ?_))))
 refine rsn R (cj ((List Ag)) (λb1=>[]) (λb1=>[.arr 139 8 0 (b1.flatMap A2)]) (λb1=>Rc b1=some r) fR (λb1 h=>?_) ?_)
 ·refine crs R (Pj ?_)
  obtain rfl:=SJ h
  exact⟨Or.inr R,_,[0],[.one (.b true)],[.arr 139 8 0 (b1.flatMap A2)],(A3 (rt R) Bj),R,R,⟨by decide,R⟩,R,R,⟨R,R⟩⟩
 ·refine Jf ?_
  obtain⟨x2,hx2,ho2⟩:=Ap h
  refine lpn (α:=Int×(List Ag)) (λg=>[(0,L7 (.ls 0 g.2.2.length)),(1,L7 (Ii6 a1)),(2,L7 (SL a2 eI)),(9,L7 (.ls 0 g.2.2.length)),(10,L7 (Ii6 (a0.length:Int))),(11,L7 (Ii6 g.2.1))]) (λg=>[.arr 139 8 0 (g.2.2.flatMap A2)]) (λg=>B7 (Cf a0 a1 a2) g.1 g.2=some x2) (fuel,(0,a0)) hx2 R R fR ?_
  rintro⟨n2,s2⟩ h
  obtain⟨n2,y2,rfl,h,hk2⟩:=Aae h
  refine crs R (Fs (ccI h R (λh=>?_) (λh=>?_)))
  ·refine csn (Fs (Jf (csr (rx 1 R ?_))))
   obtain⟨u3,hu3,h⟩:=Ap h
   refine sv R (Gm (f:=A2) Aj0 fR R R R R R hu3) ?_
   refine sv R (Ox (f:=A2) (sz:=8) 0 Yq fR R R R R (Hu hu3).2 (Nbl R) R) ?_
   refine rsn R (Fs (Fs (cj3 (Unit) (λb4=>[(0,L7 (.ls 0 s2.2.length)),(1,L7 (Ii6 a1)),(2,L7 (SL a2 eI)),(7,L7 (Ii6 s2.1)),(8,L7 (.lp 1 0)),(9,L7 (.ls 0 s2.2.length)),(10,L7 (Ii6 (a0.length:Int))),(11,L7 (Ii6 s2.1))]) (λb4=>[.arr 139 8 0 (s2.2.flatMap A2),BE u3]) (λb4=>H8 a1 s2 u3 b4=some y2) fR (λb4 h=>?_) ?_)))
   ·refine Fs (Fc ?_)
    obtain⟨v5,hv5,h⟩:=Ap h
    refine Kv (x':=.s (.agg [.raw (.func (.func 252) #[] #[]),.raw (.func (.func 253) #[] #[])])) (M':=[.arr 139 8 0 (s2.2.flatMap A2),BE u3]) [] R (fk R) (.func _) A7 (Rr hv5) R R (by decide) R R R ?_
    refine rx 3 R ?_
    obtain⟨v6,hv6,h⟩:=Ap h
    refine Kv (x':=.tup []) (M':=[.arr 139 8 0 (v6.flatMap A2),BE u3]) [0] R (fk R) (.func _) (Ar R (Ar R (Ar R (Ar R A7)))) (O9 hv6) R R (by decide) R R R ?_
    obtain⟨hl7,h⟩:=Ht h
    refine Ns 0 (y:=L7 (.ls 0 s2.2.length)) (L7 (.ls 0 v6.length)) R (congrArg (λn=>AV.s (.one (.ls 0 n))) hl7.symm) ?_
    refine Ns 9 (y:=L7 (.ls 0 s2.2.length)) (L7 (.ls 0 v6.length)) R (congrArg (λn=>AV.s (.one (.ls 0 n))) hl7.symm) ?_
    refine Ns 36 (y:=L7 (.ls 0 s2.2.length)) (L7 (.ls 0 v6.length)) R (congrArg (λn=>AV.s (.one (.ls 0 n))) hl7.symm) ?_
    refine Agg (csr (rx 4 R (ssI 43 h R (λh=>?_) (λh=>?_))))
    ·refine rm 2 R (son R R R ?_)
     obtain⟨u8,hu8,h⟩:=Ap h
     refine sv R (Gm (f:=A2) Aj0 fR R R R R R hu8) ?_
     refine son R R R (sv R (Ox (f:=A2) (sz:=8) 0 Yq fR R R R R (Hu hu8).2 (Nbl R) R) ?_)
     refine son R R R ?_
     obtain⟨v9,hv9,h⟩:=Ap h
     refine scI R R (Pk hv9) (rsn R (ccI h R (λh=>?_) (λh=>?_)))
     ·refine crs R (Pj (br5 ?_))
      cases SJ h
      obtain rfl:Sum.inl _=x2:=hk2
      obtain rfl:=zF ho2
      exact⟨Or.inr R,_,[0],[.one (.b false)],[.arr 139 8 0 (v6.flatMap A2)],(A3 (rt R) Bj),R,R,⟨by decide,R⟩,R,R,⟨R,R⟩⟩
     ·refine cbn (cgs R ?_)
      cases SJ h
      exact lx (n2,((wI (s2.1+1)),v6)) hk2 R R
    ·refine rsn R (S8 R (λhx=>Bool.noConfusion hx) (λ_=>?_))
     refine cbn (cgs R ?_)
     cases SJ h
     exact lx (n2,((wI (s2.1+1)),v6)) hk2 R R
   ·refine cdn mixed (by kernel_rfl) ?_
    refine dv R (Du R) (dv R (Du R) (dv R (Aem R R) (dv R (Du R) (Ali 19 R (λhc=>?_) (λhc=>?_)))))
    ·replace h:=Adq hc h
     clear hc
     refine Vw R R R R (Vw R R R R (Vw R R R R (Vw R R R R (Vw R R R R (dv R (Iv R R) (dv R (Du R) (Vw R R R R (Vw R R R R (Vw R R R R (Vw R R R R (Vw R R R R (Vw R R R R (Vw R R R R (dv R (Iv R R) (Awg (A1 (S8 R (λ_=>?_) (λhx=>Bool.noConfusion hx))))))))))))))))))
     refine An2 (O5 (Q4 (A1 (cgs R ?_))))
     cases SJ h
     exact lx (n2,((wI (s2.1+1)),s2.2)) hk2 R R
    ·replace h:=Adw hc h
     clear hc
     refine dvg R R R (Du R) (dvg R R R (Aw A3z R) (dvg R R R (l1 ti3 R R R) ?_))
     obtain⟨v10,hv10,h⟩:=Ap h
     refine ddg R R R (Lr (fk R) (Ar R (Ar R A7)) R (Vs hv10)) (dvg R R R (Zx R) (dv R (Ma R R) (dv R (Du R) (Ali 26 R (λhc=>?_) (λhc=>?_)))))
     ·replace h:=Adq hc h
      clear hc
      refine Vw R R R R (Vw R R R R (Vw R R R R (Vw R R R R (Vw R R R R (Vw R R R R (Vw R R R R (dv R (Iv R R) (Awg (A1 (S8 R (λ_=>?_) (λhx=>Bool.noConfusion hx)))))))))))
      refine An2 (O5 (Q4 (A1 (cgs R ?_))))
      cases SJ h
      exact lx (n2,((wI (s2.1+1)),s2.2)) hk2 R R
     ·replace h:=Adw hc h
      clear hc
      refine dvg R R R (lo Yq R R R) (dvg R R R (Du R) (dvg R R R (Du R) ?_))
      obtain⟨u11,hu11,h⟩:=Ap h
      refine dvg R R R (Gm (f:=A2) Aj0 fR R R R R R hu11) ?_
      refine dvg R R R (Ox (f:=A2) (sz:=8) 0 Yq fR R R R R (Hu hu11).2 (Nbl R) R) ?_
      obtain⟨v12,hv12,h⟩:=Ap h
      refine ddg R R R (Lr (fk R) (Ar R (Ar R A7)) R (T8 hv12)) (dvg R R R (Zx R) (dv R (Ma R R) (Awg (A1 (ccI h R (λh=>?_) (λh=>?_))))))
      ·refine An2 (O5 (Q4 (A1 (cgs R ?_))))
       cases SJ h
       exact lx (n2,((wI (s2.1+1)),s2.2)) hk2 R R
      ·refine csn ?_
       exact⟨(),_,h,(ml R),R⟩
  ·refine cx5 ?_
   cases SJ h
   obtain rfl:_=x2:=hk2
   exact⟨s2.2,_,ho2,trivial,R⟩
def M3 (a0:Af) (a2:Int) (a3:List (List UInt8)) (v2:Int) (b8:(List Ag)):Option (Af×Int) :=
 (idx b8 v2).bind λu9=>(idx (b8.set v2.toNat ({u9 with State:=2})) v2).bind λu10=>(idx ((b8.set v2.toNat ({u9 with State:=2})).set v2.toNat ({u10 with End:=a2})) v2).bind λu11=>some ((Af.mk (((b8.set v2.toNat ({u9 with State:=2})).set v2.toNat ({u10 with End:=a2})).set v2.toNat ({u11 with Keys:=a3})) (Am.mk a0.Reads.L)),0)
end Go.Proofs.YtkblaobhhoebaaaGreat.Abs
