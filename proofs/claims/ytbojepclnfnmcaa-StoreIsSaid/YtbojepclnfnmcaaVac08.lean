/-
  StoreVacuums.
-/
import Derived.Test.YtbojepclnfnmcaaK08f
namespace Go.Proofs.Ytbojepclnfnmcaa.Abs


theorem latest_m {K : Keys} {C : List GChainChain} {T : Int} {B : Nat} (h : OkS K C T B) (hB : B ≤ 1000) (hK : K.length ≤ 128) : m32_store_Latest ⟨K, C, T⟩ = some (ents ⟨[], [], true⟩ T K C) := by
  unfold m32_store_Latest
  dsimp only
  rw [scan_m h hB hK, Option.bind_some, Int.toNat_natCast, List.take_of_length_le (ents_len ..)]

end Go.Proofs.Ytbojepclnfnmcaa.Abs
