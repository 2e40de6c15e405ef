/-
  ConnsFull: eight opens, and what follows, by the kernel.
-/
import Derived.Test.YtlnpkincpgbmcaaDoorT17
import Derived.Test.YtlnpkincpgbmcaaDoorAbsC
namespace Go.Proofs.YtlnpkincpgbmcaaDoor.Abs
def fullK (n : Int) (v1 : Bool) (b2 : (List GConnsConn) × Int) : Option Bool :=
  (m7_conns_Open (GConnsTable.mk b2.1 b2.2)).bind fun v3 => (m9_conns_Close (GConnsTable.mk b2.1 b2.2) n).bind fun v4 => (m11_conns_Find v4.1 n).bind fun v5 => (m7_conns_Open v4.1).bind fun v6 => (m11_conns_Find v6.1 8).bind fun v7 => if v1 then (if (decide (v3.2.2 = 8)) then (if v4.2.2 then (if (decide (v4.2.1.ID = n)) then (if (!v5.2) then (if (decide (v6.2.2 = 0)) then (if (decide (v6.2.1 = 8)) then (if v7.2 then (if (decide (v7.1.Who = (-1))) then (if (decide (v7.1.Tx = (-1))) then (some (decide ((v6.1.L.length : Int) = 8))) else (some false)) else (some false)) else (some false)) else (some false)) else (some false)) else (some false)) else (some false)) else (some false)) else (some false)) else (some false)
def fullF (n : Int) : Option Bool :=
  (m6_l17_awake).bind fun v1 => (iter m4_l17_ConnsFull_s8 fuel (0, ([] : List GConnsConn), 0)).bind fun x => match x with | .inl r => some r | .inr e11 => fullK n v1 e11
theorem fullF_ok : ∀ k, k < 8 → fullF (k : Nat) = some true := by decide +kernel
theorem connsFull_true (a0 : Int) : m4_l17_ConnsFull a0 = some true := by
  have e : m4_l17_ConnsFull a0 = fullF (wI ((BitVec.ofInt 64 a0 &&& BitVec.ofInt 64 7).toNat : Int)) := rfl
  have hlt : (BitVec.ofInt 64 a0 &&& BitVec.ofInt 64 7).toNat < 8 := by
    rw [BitVec.toNat_and]
    exact Nat.lt_of_le_of_lt Nat.and_le_right (by decide)
  rw [e, wI_id (by omega) (by omega)]
  exact fullF_ok _ hlt
end Go.Proofs.YtlnpkincpgbmcaaDoor.Abs
