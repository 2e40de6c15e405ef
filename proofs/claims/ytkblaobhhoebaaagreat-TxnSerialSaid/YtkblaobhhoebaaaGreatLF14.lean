import Derived.Test.YtkblaobhhoebaaaGreatLAbsC
import Derived.Test.YtkblaobhhoebaaaGreatLT14
set_option linter.unusedVariables false
set_option linter.unusedSimpArgs false
namespace Go.Proofs.YtkblaobhhoebaaaGreat.Abs
open Go.RowKit
def Abw (x:Ar):Prop:=(x.Lo.length<=maxLen/\∀ xy∈x.Lo,True)/\(x.Hi.length<=maxLen/\∀ xy∈x.Hi,True)/\True
theorem Ae3 {ls:List Lf} (h:Aff (.st (.pair (.sl (.int .u8)) (.pair (.sl (.int .u8)) (.pair (.bool) (.unit))))) ls):∃ x:Ar,Abw x/\ls=Aby x:=by
 obtain⟨x0,y0,h0,⟨x1,y1,h1,⟨x2,y2,h2,hu,rfl⟩,rfl⟩,rfl⟩:=h
 obtain⟨a0,q0,rfl⟩:=(Al3 (Q:=λ(x:UInt8)=>True) (λh=>Apl h)) h0
 obtain⟨a1,q1,rfl⟩:=(Al3 (Q:=λ(x:UInt8)=>True) (λh=>Apl h)) h1
 obtain⟨a2,q2,rfl⟩:=Agc h2
 have hu:y2=[]:=hu
 subst hu
 exact⟨⟨a0,a1,a2⟩,⟨q0,q1,q2⟩,rfl⟩
def Ah9 (x:Dl):Prop:=(-9223372036854775808<=x.What/\x.What<=9223372036854775807)/\(-9223372036854775808<=x.N/\x.N<=9223372036854775807)/\(-9223372036854775808<=x.Token/\x.Token<=9223372036854775807)/\(-9223372036854775808<=x.Attempt/\x.Attempt<=9223372036854775807)/\True/\True/\(x.Key.length<=maxLen/\∀ xy∈x.Key,True)/\(x.Val.length<=maxLen/\∀ xy∈x.Val,True)/\Abw x.Rng
theorem Ajo {ls:List Lf} (h:Aff (.st (.pair (.int .i64) (.pair (.int .i64) (.pair (.int .i64) (.pair (.int .i64) (.pair (.bool) (.pair (.bool) (.pair (.sl (.int .u8)) (.pair (.sl (.int .u8)) (.pair (.st (.pair (.sl (.int .u8)) (.pair (.sl (.int .u8)) (.pair (.bool) (.unit))))) (.unit))))))))))) ls):∃ x:Dl,Ah9 x/\ls=Dm x:=by
 obtain⟨x0,y0,h0,⟨x1,y1,h1,⟨x2,y2,h2,⟨x3,y3,h3,⟨x4,y4,h4,⟨x5,y5,h5,⟨x6,y6,h6,⟨x7,y7,h7,⟨x8,y8,h8,hu,rfl⟩,rfl⟩,rfl⟩,rfl⟩,rfl⟩,rfl⟩,rfl⟩,rfl⟩,rfl⟩:=h
 obtain⟨a0,q0,rfl⟩:=Ah7 h0
 obtain⟨a1,q1,rfl⟩:=Ah7 h1
 obtain⟨a2,q2,rfl⟩:=Ah7 h2
 obtain⟨a3,q3,rfl⟩:=Ah7 h3
 obtain⟨a4,q4,rfl⟩:=Agc h4
 obtain⟨a5,q5,rfl⟩:=Agc h5
 obtain⟨a6,q6,rfl⟩:=(Al3 (Q:=λ(x:UInt8)=>True) (λh=>Apl h)) h6
 obtain⟨a7,q7,rfl⟩:=(Al3 (Q:=λ(x:UInt8)=>True) (λh=>Apl h)) h7
 obtain⟨a8,q8,rfl⟩:=Ae3 h8
 have hu:y8=[]:=hu
 subst hu
 exact⟨⟨a0,a1,a2,a3,a4,a5,a6,a7,a8⟩,⟨q0,q1,q2,q3,q4,q5,q6,q7,q8⟩,rfl⟩
end Go.Proofs.YtkblaobhhoebaaaGreat.Abs
