/-
  What TrailingZeros64, OnesCount64, and the set's Len and All leave, where the library's table holds what its text lays.
-/
import Derived.Test.YtkkkglmjipnfaaaDoorOf
import Derived.Lib.TrailingZeros
import Derived.StillTailTactics
import Derived.WalkSmall
import Derived.Lib.LaidTab
import Derived.Laws.Bits64b
import Derived.Laws.Bits128
namespace Go.Proofs.YtkkkglmjipnfaaaDoor
open Go.RowKit
set_option linter.unusedVariables false

/-- The table holds its numbers. -/
def Tab (w : World) : Prop := ∀ i, i < 64 → w.cell? ⟨0, i, none⟩ = some (.int .u8 ((Lib.deBruijn64tab.getD i 0 : Nat) : Int))
theorem Tab.old {w w' : World} (h : Tab w) (hb : Below w.heap.size w w') : Tab w' := fun i hi =>
  (World.cell?_of_block (hb.block 0 (World.block_lt_of_cell? w ⟨0, i, none⟩ (h i hi)))).trans (h i hi)

theorem tz_key (x a : Nat) (hx : x < 18446744073709551616) (hx0 : x ≠ 0) (hlow : x &&& (18446744073709551616 - x) = a) :
    IntKind.u64.wrap (bits BinOp.and IntKind.u64 (x : Int) (IntKind.u64.wrap (-(x : Int))) * 285870213051353865) / 288230376151711744 = ((a * 285870213051353865 % 18446744073709551616 / 288230376151711744 : Nat) : Int) := by
  have e1 : IntKind.u64.wrap (-(x : Int)) = ((18446744073709551616 - x : Nat) : Int) := by rw [IntKind.wrap_u64]; omega
  rw [e1, u64_and_nat x _ hx (by omega), hlow, IntKind.wrap_u64]
  omega

set_option maxHeartbeats 400000 in
theorem tz_core (x k idx : Nat) (w : World) (hx0 : ((x : Int) == 0) = false)
    (key : IntKind.u64.wrap (bits BinOp.and IntKind.u64 (x : Int) (IntKind.u64.wrap (-(x : Int))) * 285870213051353865) / 288230376151711744 = (idx : Int))
    (hi : idx < 64) (hk : k < 64) (hcell : w.cell? ⟨0, idx, none⟩ = some (.int .u8 (k : Int))) :
    Calls Tryd.prog 34 #[.int .u64 x] w fun e w' => e = .returned (.int .i64 k) ∧ w = w' := by
  go_enter Tryd.func34, Tryd.ntmps34
  go_wp2_with (simp only [key])
  go_ret
  exact ⟨rfl, rfl⟩
theorem tz_any (x : Nat) (w : World) (hT : Tab w) (h0 : 0 < x) (hx : x < 18446744073709551616) : Calls Tryd.prog 34 #[.int .u64 x] w fun e w' => e = .returned (.int .i64 (Lib.ctz 64 x : Nat)) ∧ w = w' := by
  have hp : (2 : Nat) ^ 64 = 18446744073709551616 := by decide
  obtain ⟨hl, hlt⟩ := Lib.lowest_bit 64 x (by omega) (by rw [hp]; exact hx)
  rw [hp] at hl
  obtain ⟨hi, hk⟩ := Lib.deBruijn64_at _ hlt
  have hc := hT _ hi
  rw [hk] at hc
  exact tz_core x _ _ w (by simp; omega) (tz_key x _ hx (by omega) hl) hi hlt hc

/-- The lowest bit is cleared. -/
theorem clear_low (x : Nat) (h0 : 0 < x) (hx : x < 18446744073709551616) (i : Nat) : (x &&& (x - 1)).testBit i = (x.testBit i && decide (i ≠ Lib.ctz 64 x)) ∧ x.testBit (Lib.ctz 64 x) = true ∧ (∀ j, j < Lib.ctz 64 x → x.testBit j = false) ∧ Lib.ctz 64 x < 64 := by
  obtain ⟨m, hm, hlt⟩ := Lib.ctzFrom_spec 64 x h0 (by rw [show (2 : Nat) ^ 64 = 18446744073709551616 by decide]; exact hx)
  have hc : Lib.ctz 64 x = Lib.ctzFrom 64 x := by unfold Lib.ctz; rw [if_neg (by omega)]
  rw [hc]
  generalize Lib.ctzFrom 64 x = t at *
  have hp := Nat.two_pow_pos t
  have e1 : x = 2 ^ (t + 1) * m + 2 ^ t := by rw [hm, Nat.pow_succ, Nat.mul_add, Nat.mul_one, Nat.mul_assoc]
  have e2 : x - 1 = 2 ^ (t + 1) * m + (2 ^ t - 1) := by omega
  have l1 : 2 ^ t < 2 ^ (t + 1) := by rw [Nat.pow_succ]; omega
  have b1 : ∀ j, x.testBit j = if j < t + 1 then (2 ^ t).testBit j else m.testBit (j - (t + 1)) := fun j => by rw [e1]; exact Nat.testBit_two_pow_mul_add m l1 j
  have b2 : ∀ j, (x - 1).testBit j = if j < t + 1 then (2 ^ t - 1).testBit j else m.testBit (j - (t + 1)) := fun j => by rw [e2]; exact Nat.testBit_two_pow_mul_add m (by omega) j
  refine ⟨?_, ?_, ?_, hlt⟩
  · rw [Nat.testBit_and, b1, b2]
    by_cases h : i < t + 1
    · rw [if_pos h, if_pos h, Nat.testBit_two_pow, Nat.testBit_two_pow_sub_one]
      by_cases e : t = i
      · subst e; simp
      · rw [decide_eq_false e]; simp
    · rw [if_neg h, if_neg h, decide_eq_true (by omega)]; simp
  · rw [b1, if_pos (by omega), Nat.testBit_two_pow_self]
  · intro j hj
    rw [b1, if_pos (by omega), Nat.testBit_two_pow]
    simp; omega

/-- OnesCount64's steps. -/
def s1 (x : Nat) : Nat := ((x / 2 &&& 6148914691236517205) + (x &&& 6148914691236517205)) % 18446744073709551616
def s2 (x : Nat) : Nat := ((x / 4 &&& 3689348814741910323) + (x &&& 3689348814741910323)) % 18446744073709551616
def s3 (x : Nat) : Nat := (x / 16 + x) % 18446744073709551616 &&& 1085102592571150095
def s4 (x : Nat) : Nat := (x + x / 256) % 18446744073709551616
def s5 (x : Nat) : Nat := (x + x / 65536) % 18446744073709551616
def s6 (x : Nat) : Nat := (x + x / 4294967296) % 18446744073709551616
def onesF (x : Nat) : Nat := s6 (s5 (s4 (s3 (s2 (s1 x))))) % 128
theorem u64_and_const (x m : Nat) (hx : x < 18446744073709551616) (hm : m < 18446744073709551616) (z : Int) (hz : z = (m : Int)) : bits .and .u64 (x : Int) z = ((x &&& m : Nat) : Int) := by
  subst hz
  exact u64_and_nat x m hx hm
theorem s1_eq (x : Nat) (hx : x < 18446744073709551616) : IntKind.u64.wrap (bits .and .u64 ((x : Int) / 2) 6148914691236517205 + bits .and .u64 (x : Int) 6148914691236517205) = ((s1 x : Nat) : Int) := by
  rw [show ((x : Int) / 2) = ((x / 2 : Nat) : Int) from by omega, u64_and_const (x / 2) 6148914691236517205 (by omega) (by decide) 6148914691236517205 rfl, u64_and_const x 6148914691236517205 hx (by decide) 6148914691236517205 rfl, IntKind.wrap_u64]
  unfold s1
  omega
theorem s2_eq (x : Nat) (hx : x < 18446744073709551616) : IntKind.u64.wrap (bits .and .u64 ((x : Int) / 4) 3689348814741910323 + bits .and .u64 (x : Int) 3689348814741910323) = ((s2 x : Nat) : Int) := by
  rw [show ((x : Int) / 4) = ((x / 4 : Nat) : Int) from by omega, u64_and_const (x / 4) 3689348814741910323 (by omega) (by decide) 3689348814741910323 rfl, u64_and_const x 3689348814741910323 hx (by decide) 3689348814741910323 rfl, IntKind.wrap_u64]
  unfold s2
  omega
theorem s3_eq (x : Nat) (hx : x < 18446744073709551616) : bits .and .u64 (IntKind.u64.wrap ((x : Int) / 16 + (x : Int))) 1085102592571150095 = ((s3 x : Nat) : Int) := by
  rw [IntKind.wrap_u64, show ((x : Int) / 16 + (x : Int)) % 18446744073709551616 = (((x / 16 + x) % 18446744073709551616 : Nat) : Int) from by omega, u64_and_const _ 1085102592571150095 (by omega) (by decide) 1085102592571150095 rfl]
  rfl
theorem s4_eq (x : Nat) : IntKind.u64.wrap ((x : Int) + (x : Int) / 256) = ((s4 x : Nat) : Int) := by rw [IntKind.wrap_u64]; unfold s4; omega
theorem s5_eq (x : Nat) : IntKind.u64.wrap ((x : Int) + (x : Int) / 65536) = ((s5 x : Nat) : Int) := by rw [IntKind.wrap_u64]; unfold s5; omega
theorem s6_eq (x : Nat) : IntKind.u64.wrap ((x : Int) + (x : Int) / 4294967296) = ((s6 x : Nat) : Int) := by rw [IntKind.wrap_u64]; unfold s6; omega
theorem s1_lt (x : Nat) : s1 x < 18446744073709551616 := Nat.mod_lt _ (by decide)
theorem s2_lt (x : Nat) : s2 x < 18446744073709551616 := Nat.mod_lt _ (by decide)
theorem onesF_le (x : Nat) : onesF x ≤ 127 := by unfold onesF; omega

theorem last7 (y : Nat) : bits .and .i64 (wrap64 (y : Int)) 127 = ((y % 128 : Nat) : Int) := by
  rw [i64_and127]
  unfold wrap64
  omega
theorem onesF_eq (x : Nat) : onesF x = s6 (s5 (s4 (s3 (s2 (s1 x))))) % 128 := rfl

set_option maxRecDepth 20000 in
set_option maxHeartbeats 1000000 in
theorem ones_any (x : Nat) (w : World) (hx : x < 18446744073709551616) : Calls Tryd.prog 35 #[.int .u64 x] w fun e w' => e = .returned (.int .i64 (onesF x : Nat)) ∧ w = w' := by
  have e1 := s1_eq x hx
  have e2 := s2_eq (s1 x) (s1_lt x)
  have e3 := s3_eq (s2 (s1 x)) (s2_lt _)
  have e4 := s4_eq (s3 (s2 (s1 x)))
  have e5 := s5_eq (s4 (s3 (s2 (s1 x))))
  have e6 := s6_eq (s5 (s4 (s3 (s2 (s1 x)))))
  have E7 : Hid (bits .and .i64 (wrap64 ((s6 (s5 (s4 (s3 (s2 (s1 x))))) : Nat) : Int)) 127 = (onesF x : Nat)) := by
    rw [onesF_eq]; exact last7 _
  generalize onesF x = oo at *
  generalize s1 x = x1 at *
  generalize s2 x1 = x2 at *
  generalize s3 x2 = x3 at *
  generalize s4 x3 = x4 at *
  generalize s5 x4 = x5 at *
  generalize s6 x5 = x6 at *
  go_enter Tryd.func35, Tryd.ntmps35
  go_wp2
  go_ret
  exact ⟨congrArg (fun z => Ending.returned (.int .i64 z)) E7.out, rfl⟩

end Go.Proofs.YtkkkglmjipnfaaaDoor
