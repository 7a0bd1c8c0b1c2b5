/-
  What the small functions of package math return (IsNaN, IsInf, Signbit, Abs, Copysign, NaN, Inf), what a float operation that has no answer leaves, and Share.
-/
import Derived.Test.YtkjnimmehjccbaaDoorChecked
import Derived.Test.YtkjnimmehjccbaaDoorFl
import Derived.WalkKit
import Derived.WalkLawsBesides
import Derived.Laws.FloatArith
import Derived.Laws.Externs
import Derived.Laws.BitsAllLaws
import Derived.Lib.Hide
import Derived.Below
namespace Go.Proofs.YtkjnimmehjccbaaDoor
open Go.RowKit

theorem run_bits (b : Nat) (w : World) : (callFunc 13 #[.float .f64 b]).run Tryd.prog w = .ok (.value (.int .u64 b)) w := by
  rw [run_callFunc_extern (e := Extern.MathFloatBits.float64bits) Tryd.func13 (by kernel_rfl) (by kernel_rfl) (by kernel_rfl) (by kernel_rfl)]
  rfl
theorem run_frombits (n : Int) (w : World) : (callFunc 14 #[.int .u64 n]).run Tryd.prog w = .ok (.value (.float .f64 n.toNat)) w := by
  rw [run_callFunc_extern (e := Extern.MathFloatBits.float64frombits) Tryd.func14 (by kernel_rfl) (by kernel_rfl) (by kernel_rfl) (by kernel_rfl)]
  rfl

/-- The word that is drawn where an operation has no answer. -/
def nanAt (x y : Nat) (w : World) : Nat := (Question.nanBits .f64 x y).cut (w.tape w.drawn (.nanBits .f64 x y))
theorem run_float_nan (op : BinOp) (hop : op = .add ∨ op = .mul ∨ op = .quo) (t : TypeId) (x y : Nat) (w : World) (h : floatBits op .f64 x y = none) :
    (binOp op t (.float .f64 x) (.float .f64 y)).run Tryd.prog w = .ok (.float .f64 (nanAt x y w)) w.drew := by
  rcases hop with rfl | rfl | rfl
  all_goals
    unfold floatBits at h
    simp only at h
    simp [binOp, Op.floatArith, h, nanAt]
    intro hf
    cases hf

theorem isnan_any (b : Nat) (w : World) : Calls Tryd.prog 25 #[.float .f64 b] w fun e w' => e = .returned (.bool (nanW b)) ∧ w = w' := by
  have H := Lib.hid (ord_self b)
  go_enter Tryd.func25, Tryd.ntmps25
  go_wp2
  go_ret
  exact ⟨congrArg (fun z => Ending.returned (.bool z)) H.out, rfl⟩
theorem nan_any (w : World) : Calls Tryd.prog 16 #[] w fun e w' => e = .returned (.float .f64 9221120237041090561) ∧ w = w' := by
  have H := run_frombits
  go_enter Tryd.func16, Tryd.ntmps16
  go_wp2
  go_ret
  exact ⟨rfl, rfl⟩
theorem inf_pos (w : World) : Calls Tryd.prog 17 #[.int .i64 1] w fun e w' => e = .returned (.float .f64 9218868437227405312) ∧ w = w' := by
  have H := run_frombits
  go_enter Tryd.func17, Tryd.ntmps17
  go_wp2
  go_ret
  exact ⟨rfl, rfl⟩
theorem inf_neg (w : World) : Calls Tryd.prog 17 #[.int .i64 (-1)] w fun e w' => e = .returned (.float .f64 18442240474082181120) ∧ w = w' := by
  have H := run_frombits
  go_enter Tryd.func17, Tryd.ntmps17
  go_wp2
  go_ret
  exact ⟨rfl, rfl⟩

theorem signbit_any (b : Nat) (w : World) (_h : b < 18446744073709551616) : Calls Tryd.prog 23 #[.float .f64 b] w fun e w' => e = .returned (.bool (negW b)) ∧ w = w' := by
  have H := run_bits
  have E : Hid (decide (wrap64 (b : Int) < 0) = negW b) := by
    show _ = _
    unfold negW p63
    rw [Bool.eq_iff_iff]
    simp [wrap64]
    omega
  go_enter Tryd.func23, Tryd.ntmps23
  go_wp2
  go_ret
  exact ⟨congrArg (fun z => Ending.returned (.bool z)) E.out, rfl⟩
theorem bits_abs (b : Nat) (h : b < 18446744073709551616) : bits .andNot .u64 (b : Int) 9223372036854775808 = ((b % p63 : Nat) : Int) := by
  have := u64_andNot_nat b 9223372036854775808 h (by omega)
  rw [show ((9223372036854775808 : Nat) : Int) = 9223372036854775808 from rfl] at this
  rw [this, show 18446744073709551615 - 9223372036854775808 = 2 ^ 63 - 1 from by decide, Nat.and_two_pow_sub_one_eq_mod]
  rfl
theorem abs_any (b : Nat) (w : World) (h : b < 18446744073709551616) : Calls Tryd.prog 24 #[.float .f64 b] w fun e w' => e = .returned (.float .f64 (b % p63)) ∧ w = w' := by
  have H := run_bits
  have H2 := run_frombits
  have E := bits_abs b h
  generalize b % p63 = c at *
  go_enter Tryd.func24, Tryd.ntmps24
  go_wp2
  go_ret
  exact ⟨rfl, rfl⟩
theorem copysign_neg (w : World) : Calls Tryd.prog 18 #[.float .f64 0, .float .f64 13830554455654793216] w fun e w' => e = .returned (.float .f64 9223372036854775808) ∧ w = w' := by
  have H := run_bits
  have H2 := run_frombits
  have E : Hid ((bits BinOp.or IntKind.u64 (bits BinOp.andNot IntKind.u64 0 9223372036854775808) (bits BinOp.and IntKind.u64 13830554455654793216 9223372036854775808)).toNat = 9223372036854775808) := by
    show _ = _
    decide +kernel
  go_enter Tryd.func18, Tryd.ntmps18
  go_wp2
  go_ret
  exact ⟨congrArg (fun z => Ending.returned (.float .f64 z)) E.out, rfl⟩

/-- The word with the other sign. -/
def negOf (b : Nat) : Nat := b ^^^ 2 ^ 63
theorem negOf_mod (b : Nat) : negOf b % p63 = b % p63 := by
  unfold negOf
  rw [show p63 = 2 ^ 63 from by decide, Nat.xor_mod_two_pow, Nat.mod_self, Nat.xor_zero]
theorem negOf_neg (b : Nat) : negW (negOf b) = !negW b := by
  have e : negOf b / p63 = b / p63 ^^^ 1 := by
    unfold negOf
    rw [show p63 = 2 ^ 63 from by decide, Nat.xor_div_two_pow]
  unfold negW
  rw [e]
  have h1 : (b / p63 ^^^ 1) % 2 = b / p63 % 2 ^^^ 1 := by have := Nat.xor_mod_two_pow (a := b / p63) (b := 1) (n := 1); simpa using this
  rw [h1]
  rcases Nat.mod_two_eq_zero_or_one (b / p63) with h | h <;> rw [h] <;> decide
theorem negOf_lt (b : Nat) (h : b < 18446744073709551616) : negOf b < 18446744073709551616 := by
  unfold negOf
  exact Nat.xor_lt_two_pow (n := 64) h (by decide)
theorem negOf_nan (b : Nat) : nanW (negOf b) = nanW b := by unfold nanW; rw [negOf_mod]
theorem run_neg (b : Nat) (w : World) : (Op.unary .neg (.float .f64 b)).run Tryd.prog w = .ok (.float .f64 (negOf b)) w := rfl

theorem gt_max (b : Nat) : (FloatKind.f64.format.order b 9218868437227405311 == some Ordering.gt) = (decide (b % p63 = infR) && !negW b) := by
  have nm : nanW 9218868437227405311 = false := by decide
  have sm : sval 9218868437227405311 = (val (infR - 1) : Int) := by
    unfold sval
    rw [show negW 9218868437227405311 = false from by decide, show 9218868437227405311 % p63 = infR - 1 from by decide]
    rfl
  cases hn : nanW b
  · rw [ord_gt _ _ hn nm, sm]
    have hn' := hn
    unfold nanW at hn'
    simp only [decide_eq_false_iff_not, Nat.not_lt] at hn'
    have k := @val_lt_iff (infR - 1) (b % p63)
    have hi : infR - 1 < b % p63 ↔ b % p63 = infR := by
      have : 0 < infR := by decide
      omega
    rw [hi] at k
    unfold sval
    cases negW b
    · simp only [Bool.false_eq_true, if_false, Bool.not_false, Bool.and_true]
      rw [decide_eq_decide]
      omega
    · simp
  · rw [ord_nan _ _ (.inl hn)]
    unfold nanW at hn
    simp only [decide_eq_true_eq] at hn
    have : decide (b % p63 = infR) = false := by simp; omega
    rw [this]
    rfl

theorem isinf_pos (b : Nat) (w : World) : Calls Tryd.prog 12 #[.float .f64 b, .int .i64 1] w fun e w' => e = .returned (.bool (decide (b % p63 = infR) && !negW b)) ∧ w = w' := by
  have E := Lib.hid (gt_max b)
  go_enter Tryd.func12, Tryd.ntmps12
  go_wp2
  go_ret
  exact ⟨congrArg (fun z => Ending.returned (.bool z)) E.out, rfl⟩
theorem isinf_neg (b : Nat) (w : World) : Calls Tryd.prog 12 #[.float .f64 b, .int .i64 (-1)] w fun e w' => e = .returned (.bool (decide (b % p63 = infR) && negW b)) ∧ w = w' := by
  have E := Lib.hid (gt_max (negOf b))
  have H := run_neg
  go_enter Tryd.func12, Tryd.ntmps12
  go_wp2
  go_ret
  refine ⟨congrArg (fun z => Ending.returned (.bool z)) (E.out.trans ?_), rfl⟩
  rw [negOf_mod, negOf_neg, Bool.not_not]
theorem isinf_any (b : Nat) (w : World) (h : b < 18446744073709551616) : Calls Tryd.prog 12 #[.float .f64 b, .int .i64 0] w fun e w' => e = .returned (.bool (decide (b % p63 = infR))) ∧ w = w' := by
  have E := Lib.hid (gt_max (b % p63))
  go_enter Tryd.func12, Tryd.ntmps12
  go_wp2_with fail
  refine (abs_any b _ h).mono ?_
  rintro e w' ⟨rfl, rfl⟩
  go_wp2
  go_ret
  refine ⟨congrArg (fun z => Ending.returned (.bool z)) (E.out.trans ?_), rfl⟩
  have hm : b % p63 < p63 := Nat.mod_lt _ (by decide)
  rw [Nat.mod_mod, show negW (b % p63) = false from by unfold negW; rw [Nat.div_eq_of_lt hm]; rfl]
  simp

/-- gauge.Less. -/
theorem less_any (a b : Nat) (w : World) (ha : a < 18446744073709551616) (hb : b < 18446744073709551616) : Calls Tryd.prog 19 #[.float .f64 a, .float .f64 b] w fun e w' => e = .returned (.bool (lessW a b)) ∧ w = w' := by
  have HA := Lib.hid ha
  have HB := Lib.hid hb
  clear ha hb
  have z0 : nanW 0 = false := by decide
  have s0 : sval 0 = 0 := by decide
  cases na : nanW a
  · cases nb : nanW b
    · have ea := ord_eq a 0 na z0
      have eb := ord_eq b 0 nb z0
      have el := Lib.hid (ord_lt a b na nb)
      rw [s0] at ea eb
      have hz := Lib.hid (sval_zero a)
      have hz2 := Lib.hid (sval_zero b)
      have NA := Lib.hid na
      have NB := Lib.hid nb
      clear z0 s0
      by_cases h1 : sval a = 0
      · rw [decide_eq_true h1] at ea
        by_cases h2 : sval b = 0
        · rw [decide_eq_true h2] at eb
          have E := Lib.hid (lessW_zero a b (hz.out.1 h1) (hz2.out.1 h2))
          clear h1 h2
          go_enter Tryd.func19, Tryd.ntmps19
          go_wp2_with fail
          refine (isnan_any a _).mono ?_
          rintro e w' ⟨rfl, rfl⟩
          go_wp2_with fail
          refine (isnan_any b _).mono ?_
          rintro e w' ⟨rfl, rfl⟩
          go_wp2_with fail
          refine (signbit_any a _ HA.out).mono ?_
          rintro e w' ⟨rfl, rfl⟩
          cases hs : negW a
          · go_wp2
            go_ret
            exact ⟨congrArg (fun z => Ending.returned (.bool z)) (by rw [E.out, hs]; rfl), rfl⟩
          · go_wp2_with fail
            refine (signbit_any b _ HB.out).mono ?_
            rintro e w' ⟨rfl, rfl⟩
            go_wp2
            go_ret
            exact ⟨congrArg (fun z => Ending.returned (.bool z)) (by rw [E.out, hs]; simp), rfl⟩
        · rw [decide_eq_false h2] at eb
          have E := Lib.hid (lessW_num a b na nb (fun k => h2 (hz2.out.2 k.2)))
          clear h1 h2
          go_enter Tryd.func19, Tryd.ntmps19
          go_wp2_with fail
          refine (isnan_any a _).mono ?_
          rintro e w' ⟨rfl, rfl⟩
          go_wp2_with fail
          refine (isnan_any b _).mono ?_
          rintro e w' ⟨rfl, rfl⟩
          go_wp2
          go_ret
          exact ⟨congrArg (fun z => Ending.returned (.bool z)) (el.out.trans E.out.symm), rfl⟩
      · rw [decide_eq_false h1] at ea
        have E := Lib.hid (lessW_num a b na nb (fun k => h1 (hz.out.2 k.1)))
        clear h1 eb
        go_enter Tryd.func19, Tryd.ntmps19
        go_wp2_with fail
        refine (isnan_any a _).mono ?_
        rintro e w' ⟨rfl, rfl⟩
        go_wp2_with fail
        refine (isnan_any b _).mono ?_
        rintro e w' ⟨rfl, rfl⟩
        go_wp2
        go_ret
        exact ⟨congrArg (fun z => Ending.returned (.bool z)) (el.out.trans E.out.symm), rfl⟩
    · have E := Lib.hid (lessW_nan a b (.inr nb))
      clear z0 s0
      go_enter Tryd.func19, Tryd.ntmps19
      go_wp2_with fail
      refine (isnan_any a _).mono ?_
      rintro e w' ⟨rfl, rfl⟩
      go_wp2_with fail
      refine (isnan_any b _).mono ?_
      rintro e w' ⟨rfl, rfl⟩
      go_wp2_with fail
      refine (isnan_any b _).mono ?_
      rintro e w' ⟨rfl, rfl⟩
      go_wp2
      go_ret
      exact ⟨congrArg (fun z => Ending.returned (.bool z)) (by rw [E.out, nb]; rfl), rfl⟩
  · have E := Lib.hid (lessW_nan a b (.inl na))
    clear z0 s0
    go_enter Tryd.func19, Tryd.ntmps19
    go_wp2_with fail
    refine (isnan_any a _).mono ?_
    rintro e w' ⟨rfl, rfl⟩
    go_wp2_with fail
    refine (isnan_any b _).mono ?_
    rintro e w' ⟨rfl, rfl⟩
    go_wp2
    go_ret
    exact ⟨congrArg (fun z => Ending.returned (.bool z)) E.out.symm, rfl⟩
end Go.Proofs.YtkjnimmehjccbaaDoor
