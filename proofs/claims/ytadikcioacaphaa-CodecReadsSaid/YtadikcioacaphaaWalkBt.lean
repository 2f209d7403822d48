/-
  What the operations on bits give that chapter 8's code and answer use. Conditions: the operands are numbers of their kinds.
-/
import Derived.Test.YtadikcioacaphaaMathCd
import Derived.Test.YtadikcioacaphaaImQ
namespace Go.Proofs.Ytadikcioacaphaa
open Go.RowKit

theorem wrapU {a : Nat} (h : a < 18446744073709551616) : IntKind.u64.wrap (a : Int) = a := by
  simp [IntKind.wrap, IntKind.bits, IntKind.signed]; omega
theorem wrap8 {a : Nat} (h : a < 256) : IntKind.u8.wrap (a : Int) = a := by
  simp [IntKind.wrap, IntKind.bits, IntKind.signed]; omega
theorem b_or64 (a b : Nat) (ha : a < 18446744073709551616) (hb : b < 18446744073709551616) : bits .or .u64 a b = ((a ||| b : Nat) : Int) := by
  have h : (BitVec.ofInt 64 (a : Int) ||| BitVec.ofInt 64 (b : Int)).toNat = a ||| b := by
    simp [BitVec.toNat_or]
    rw [Nat.mod_eq_of_lt ha, Nat.mod_eq_of_lt hb]
  have hl : a ||| b < 18446744073709551616 := Nat.or_lt_two_pow (n := 64) ha hb
  show IntKind.u64.wrap ((BitVec.ofInt 64 (a : Int) ||| BitVec.ofInt 64 (b : Int)).toNat : Nat) = _
  rw [h, wrapU hl]
theorem b_and1 (a : Nat) : bits .and .u64 a 1 = ((a % 2 : Nat) : Int) := by
  have h : (BitVec.ofInt 64 (a : Int) &&& BitVec.ofInt 64 1).toNat = a % 2 := by
    simp [BitVec.toNat_and]
  show IntKind.u64.wrap ((BitVec.ofInt 64 (a : Int) &&& BitVec.ofInt 64 1).toNat : Nat) = _
  rw [h, wrapU (by omega)]
theorem b_xor64_0 (a : Nat) (ha : a < 18446744073709551616) : bits .xor .u64 a 0 = (a : Int) := by
  have h : (BitVec.ofInt 64 (a : Int) ^^^ BitVec.ofInt 64 0).toNat = a := by
    simp
    omega
  show IntKind.u64.wrap ((BitVec.ofInt 64 (a : Int) ^^^ BitVec.ofInt 64 0).toNat : Nat) = _
  rw [h, wrapU (by omega)]
theorem ones64 : BitVec.ofInt 64 18446744073709551615 = BitVec.allOnes 64 := by decide
theorem onesM : BitVec.ofInt 64 (-1) = BitVec.allOnes 64 := by decide
theorem not_nat (a : Nat) (ha : a < 18446744073709551616) : (BitVec.ofInt 64 (a : Int) ^^^ BitVec.allOnes 64).toNat = 18446744073709551615 - a := by
  rw [BitVec.xor_allOnes, BitVec.toNat_not, BitVec.toNat_ofInt]
  omega
theorem b_xor64_1 (a : Nat) (ha : a < 18446744073709551616) : bits .xor .u64 a 18446744073709551615 = ((18446744073709551615 - a : Nat) : Int) := by
  show IntKind.u64.wrap ((BitVec.ofInt 64 (a : Int) ^^^ BitVec.ofInt 64 18446744073709551615).toNat : Nat) = _
  rw [ones64, not_nat a ha, wrapU (by omega)]
theorem b_xorI_0 (a : Nat) (ha : a < 9223372036854775808) : bits .xor .i64 a 0 = (a : Int) := by
  have h : (BitVec.ofInt 64 (a : Int) ^^^ BitVec.ofInt 64 0).toNat = a := by
    simp
    omega
  show IntKind.i64.wrap ((BitVec.ofInt 64 (a : Int) ^^^ BitVec.ofInt 64 0).toNat : Nat) = _
  rw [h, IntWalk.i64_in _ (by omega)]
theorem b_xorI_1 (a : Nat) (ha : a < 9223372036854775808) : bits .xor .i64 a (-1) = (-(a : Int) - 1) := by
  show IntKind.i64.wrap ((BitVec.ofInt 64 (a : Int) ^^^ BitVec.ofInt 64 (-1)).toNat : Nat) = _
  rw [onesM, not_nat a (by omega)]
  congr 2
  simp [IntKind.wrap, IntKind.bits, IntKind.signed]; omega
theorem or8_all : ∀ c : Fin 256, (BitVec.ofInt 8 (c.val : Int) ||| BitVec.ofInt 8 128).toNat = c.val % 128 + 128 := by decide +kernel
theorem andNot8_all : ∀ c : Fin 256, (BitVec.ofInt 8 (c.val : Int) &&& ~~~ BitVec.ofInt 8 128).toNat = c.val % 128 := by decide +kernel
theorem and8_all : ∀ c : Fin 256, (BitVec.ofInt 8 (c.val : Int) &&& BitVec.ofInt 8 127).toNat = c.val % 128 := by decide +kernel
theorem b_or8 (c : Nat) (hc : c < 256) : bits .or .u8 c 128 = ((c % 128 + 128 : Nat) : Int) := by
  show IntKind.u8.wrap ((BitVec.ofInt 8 (c : Int) ||| BitVec.ofInt 8 128).toNat : Nat) = _
  rw [or8_all ⟨c, hc⟩, wrap8 (by omega)]
theorem b_andNot8 (c : Nat) (hc : c < 256) : bits .andNot .u8 c 128 = ((c % 128 : Nat) : Int) := by
  show IntKind.u8.wrap ((BitVec.ofInt 8 (c : Int) &&& ~~~ BitVec.ofInt 8 128).toNat : Nat) = _
  rw [andNot8_all ⟨c, hc⟩, wrap8 (by omega)]
theorem b_and8 (c : Nat) (hc : c < 256) : bits .and .u8 c 127 = ((c % 128 : Nat) : Int) := by
  show IntKind.u8.wrap ((BitVec.ofInt 8 (c : Int) &&& BitVec.ofInt 8 127).toNat : Nat) = _
  rw [and8_all ⟨c, hc⟩, wrap8 (by omega)]
theorem b_notM (a : Nat) (ha : a < 18446744073709551616) : bits .xor .u64 18446744073709551615 a = ((18446744073709551615 - a : Nat) : Int) := by
  show IntKind.u64.wrap ((BitVec.ofInt 64 18446744073709551615 ^^^ BitVec.ofInt 64 (a : Int)).toNat : Nat) = _
  rw [BitVec.xor_comm, ones64, not_nat a ha, wrapU (by omega)]
/-- The number of 64 bits of a number, as the code makes it. -/
theorem enc_pos {z : Int} (h0 : 0 ≤ z) (h : I64 z) : bits .xor .u64 (z * 2) 0 = ((encZ z : Nat) : Int) := by
  have e : z * 2 = ((encZ z : Nat) : Int) := by unfold encZ; rw [if_pos h0]; omega
  rw [e]
  exact b_xor64_0 _ (encZ_lt h)
theorem enc_neg {z : Int} (h0 : ¬ 0 ≤ z) (h : I64 z) : bits .xor .u64 (IntKind.u64.wrap (IntKind.u64.wrap z * 2)) (IntKind.u64.wrap (-1)) = ((encZ z : Nat) : Int) := by
  obtain ⟨h1, _⟩ := h
  have e1 : IntKind.u64.wrap z = z + 18446744073709551616 := by simp [IntKind.wrap, IntKind.bits, IntKind.signed]; omega
  have e2 : IntKind.u64.wrap ((z + 18446744073709551616) * 2) = (((2 * z + 18446744073709551616).toNat : Nat) : Int) := by simp [IntKind.wrap, IntKind.bits, IntKind.signed]; omega
  have e3 : IntKind.u64.wrap (-1) = 18446744073709551615 := by decide
  rw [e1, e2, e3, b_xor64_1 _ (by omega)]
  unfold encZ
  rw [if_neg h0]
  omega
end Go.Proofs.Ytadikcioacaphaa
