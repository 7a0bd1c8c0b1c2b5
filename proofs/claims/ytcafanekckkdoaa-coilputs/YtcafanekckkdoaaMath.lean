/-
  Facts on 64-bit bits, and on Zig and Zag as functions of numbers; plain arithmetic, no conditions beyond those in each theorem.
-/
import Derived.Laws.BitsAllLaws
import Derived.Laws.Bits64
import Derived.Laws.BitsLemmas
import Derived.RowKit
namespace Go.Proofs.Ytcafanekckkdoaa
open Go.RowKit

theorem ofInt_u64 (a : Nat) (ha : a < 18446744073709551616) : (BitVec.ofInt 64 (a : Int)).toNat = a := by
  rw [BitVec.ofInt_natCast, BitVec.toNat_ofNat]; exact Nat.mod_eq_of_lt (by omega)
theorem u64_and (a b : Nat) (ha : a < 18446744073709551616) (hb : b < 18446744073709551616) : bits .and .u64 (a : Int) (b : Int) = ((a &&& b : Nat) : Int) := by
  have hx : a &&& b < 2 ^ 64 := Nat.and_lt_two_pow _ (by omega)
  show IntKind.u64.wrap ((BitVec.ofInt 64 (a : Int) &&& BitVec.ofInt 64 (b : Int)).toNat : Int) = _
  rw [BitVec.toNat_and, ofInt_u64 a ha, ofInt_u64 b hb, IntKind.wrap_u64]
  omega
theorem u64_or (a b : Nat) (ha : a < 18446744073709551616) (hb : b < 18446744073709551616) : bits .or .u64 (a : Int) (b : Int) = ((a ||| b : Nat) : Int) := by
  have hx : a ||| b < 2 ^ 64 := Nat.or_lt_two_pow (by omega) (by omega)
  show IntKind.u64.wrap ((BitVec.ofInt 64 (a : Int) ||| BitVec.ofInt 64 (b : Int)).toNat : Int) = _
  rw [BitVec.toNat_or, ofInt_u64 a ha, ofInt_u64 b hb, IntKind.wrap_u64]
  omega

/-- What Zig makes of a number. -/
def zigF (a : Int) : Int := if a < 0 then -2 * a - 1 else 2 * a
/-- What Zag makes of a number. -/
def zagF (u : Int) : Int := if u % 2 = 1 then -(u / 2) - 1 else u / 2

theorem xor_ones (a : Int) (h0 : 0 ≤ a) (h1 : a < 18446744073709551616) : bits .xor .u64 a 18446744073709551615 = 18446744073709551615 - a := by
  obtain ⟨n, rfl⟩ := Int.eq_ofNat_of_zero_le h0
  show IntKind.u64.wrap ((BitVec.ofInt 64 (n : Int) ^^^ BitVec.ofInt 64 18446744073709551615).toNat : Int) = _
  have e : BitVec.ofInt 64 18446744073709551615 = BitVec.allOnes 64 := by decide
  rw [e, BitVec.xor_allOnes, BitVec.toNat_not, ofInt_u64 n (by omega), IntKind.wrap_u64]
  omega
theorem xor_none (a : Int) (h0 : 0 ≤ a) (h1 : a < 18446744073709551616) : bits .xor .u64 a 0 = a := by
  obtain ⟨n, rfl⟩ := Int.eq_ofNat_of_zero_le h0
  show IntKind.u64.wrap ((BitVec.ofInt 64 (n : Int) ^^^ BitVec.ofInt 64 0).toNat : Int) = _
  have e : BitVec.ofInt 64 0 = 0#64 := by decide
  rw [e, BitVec.xor_zero, ofInt_u64 n (by omega), IntKind.wrap_u64]
  omega
theorem xor_i64_ones (a : Int) (h0 : 0 ≤ a) (h1 : a < 9223372036854775808) : bits .xor .i64 a (-1) = -a - 1 := by
  obtain ⟨n, rfl⟩ := Int.eq_ofNat_of_zero_le h0
  show IntKind.i64.wrap ((BitVec.ofInt 64 (n : Int) ^^^ BitVec.ofInt 64 (-1)).toNat : Int) = _
  have e : BitVec.ofInt 64 (-1) = BitVec.allOnes 64 := by decide
  rw [e, BitVec.xor_allOnes, BitVec.toNat_not, ofInt_u64 n (by omega), IntKind.wrap_i64]
  omega
theorem xor_i64_none (a : Int) (h0 : 0 ≤ a) (h1 : a < 9223372036854775808) : bits .xor .i64 a 0 = a := by
  obtain ⟨n, rfl⟩ := Int.eq_ofNat_of_zero_le h0
  show IntKind.i64.wrap ((BitVec.ofInt 64 (n : Int) ^^^ BitVec.ofInt 64 0).toNat : Int) = _
  have e : BitVec.ofInt 64 0 = 0#64 := by decide
  rw [e, BitVec.xor_zero, ofInt_u64 n (by omega), IntKind.wrap_i64]
  omega
theorem and_1 (a : Int) (h0 : 0 ≤ a) (h1 : a < 18446744073709551616) : bits .and .u64 a 1 = a % 2 := by
  obtain ⟨n, rfl⟩ := Int.eq_ofNat_of_zero_le h0
  have := u64_and n 1 (by omega) (by omega)
  rw [show ((1 : Nat) : Int) = 1 from rfl] at this
  rw [this, Nat.and_one_is_mod]
  omega
theorem and_127 (a : Int) (h0 : 0 ≤ a) (h1 : a < 18446744073709551616) : bits .and .u64 a 127 = a % 128 := by
  obtain ⟨n, rfl⟩ := Int.eq_ofNat_of_zero_le h0
  have := u64_and n 127 (by omega) (by omega)
  rw [show ((127 : Nat) : Int) = 127 from rfl] at this
  rw [this, show (127 : Nat) = 2 ^ 7 - 1 from rfl, Nat.and_two_pow_sub_one_eq_mod]
  omega
theorem or_1 (a : Int) (h0 : 0 ≤ a) (h1 : a < 18446744073709551616) : bits .or .u64 a 1 = a - a % 2 + 1 := by
  obtain ⟨n, rfl⟩ := Int.eq_ofNat_of_zero_le h0
  have := u64_or n 1 (by omega) (by omega)
  rw [show ((1 : Nat) : Int) = 1 from rfl] at this
  have e : n ||| 1 = n - n % 2 + 1 := by
    have h2 : (n / 2) <<< 1 ||| 1 = (n / 2) <<< 1 + 1 := by
      rw [← Nat.shiftLeft_add_eq_or_of_lt (by omega : 1 < 2 ^ 1)]
    have h3 : (n / 2) <<< 1 = n - n % 2 := by rw [Nat.shiftLeft_eq]; omega
    have h4 : n ||| 1 = (n - n % 2) ||| 1 := by
      rcases Nat.mod_two_eq_zero_or_one n with h | h
      · rw [h]; rfl
      · have h5 : n = (n / 2) <<< 1 ||| 1 := by rw [h2, h3]; omega
        conv => lhs; rw [h5, Nat.or_assoc]
        rw [h3]; rfl
    rw [h4, ← h3, h2, h3]
  rw [this, e]
  omega

theorem zig_eq (a : Int) (h0 : -9223372036854775808 ≤ a) (h1 : a ≤ 9223372036854775807) :
    bits .xor .u64 (IntKind.u64.wrap (IntKind.u64.wrap a * 2)) (IntKind.u64.wrap (a / 9223372036854775808)) = zigF a := by
  unfold zigF
  rw [IntKind.wrap_u64, IntKind.wrap_u64, IntKind.wrap_u64]
  by_cases h : a < 0
  · rw [if_pos h, show a / 9223372036854775808 % 18446744073709551616 = 18446744073709551615 from by omega, xor_ones _ (by omega) (by omega)]
    omega
  · rw [if_neg h, show a / 9223372036854775808 % 18446744073709551616 = 0 from by omega, xor_none _ (by omega) (by omega)]
    omega
theorem zag_eq (a : Int) (h0 : 0 ≤ a) (h1 : a ≤ 18446744073709551615) :
    bits .xor .i64 (wrap64 (a / 2)) (wrap64 (-wrap64 (bits .and .u64 a 1))) = zagF a := by
  unfold zagF
  rw [and_1 a h0 (by omega)]
  have e : wrap64 (a / 2) = a / 2 := by unfold wrap64; omega
  rw [e]
  by_cases h : a % 2 = 1
  · rw [if_pos h, h, show wrap64 (-wrap64 1) = -1 from by unfold wrap64; omega, xor_i64_ones _ (by omega) (by omega)]
  · rw [if_neg h, show a % 2 = 0 from by omega, show wrap64 (-wrap64 0) = 0 from by unfold wrap64; omega, xor_i64_none _ (by omega) (by omega)]
theorem rzig_neg (a : Int) (h0 : -9223372036854775808 ≤ a) (h : a < 0) :
    IntKind.u64.wrap (IntKind.u64.wrap (2 * IntKind.u64.wrap (wrap64 (-wrap64 (a + 1)))) + 1) = zigF a := by
  unfold zigF
  rw [if_pos h, IntKind.wrap_u64, IntKind.wrap_u64, IntKind.wrap_u64]
  unfold wrap64
  omega
theorem rzig_pos (a : Int) (h1 : a ≤ 9223372036854775807) (h : ¬ a < 0) :
    IntKind.u64.wrap (2 * IntKind.u64.wrap a) = zigF a := by
  unfold zigF
  rw [if_neg h, IntKind.wrap_u64, IntKind.wrap_u64]
  omega
theorem zag_zig (a : Int) : zagF (zigF a) = a := by
  unfold zigF zagF
  split <;> split <;> omega
theorem zig_zag (u : Int) (h : 0 ≤ u) : zigF (zagF u) = u := by
  unfold zigF zagF
  split <;> split <;> omega
theorem zig_range (a : Int) (h0 : -9223372036854775808 ≤ a) (h1 : a ≤ 9223372036854775807) : 0 ≤ zigF a ∧ zigF a ≤ 18446744073709551615 := by
  unfold zigF
  split <;> omega
theorem zag_range (u : Int) (h0 : 0 ≤ u) (h1 : u ≤ 18446744073709551615) : -9223372036854775808 ≤ zagF u ∧ zagF u ≤ 9223372036854775807 := by
  unfold zagF
  split <;> omega

end Go.Proofs.Ytcafanekckkdoaa
