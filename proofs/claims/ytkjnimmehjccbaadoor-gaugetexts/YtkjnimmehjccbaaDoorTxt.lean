/-
  What gauge.hundredths, gauge.Text and the law's example 'awake' return, where the library's table of powers of ten holds what its text lays.
-/
import Derived.Test.YtkjnimmehjccbaaDoorBase
import Derived.Test.YtkjnimmehjccbaaDoorShelf
import Derived.WalkSmall
import Derived.Lib.ItoaLen
import Derived.Shelf.SlSorted.Search
namespace Go.Proofs.YtkjnimmehjccbaaDoor
open Go.RowKit

/-- The table of the powers of ten holds them. -/
def Tab (w : World) : Prop := Lib.TabIs Tryd.prog w "internal/strconv.uint64pow10" .u64 Lib.pow10Tab
theorem gPow : Tryd.prog.globalNamed "internal/strconv.uint64pow10" = some 1 := by kernel_rfl
theorem Tab.old {w w' : World} (h : Tab w) (hb : Below w.heap.size w w') : Tab w' := by
  have hc := Lib.TabIs.cell h gPow 0 (by simp [Lib.pow10Tab])
  exact var?_below hb gPow (World.block_lt_of_cell? w _ hc) h

/-- The digits of hundredths. -/
def hund (n : Nat) : List UInt8 := Lib.decDigits (n / 100) ++ [46] ++ Lib.decDigits (n % 100 / 10) ++ Lib.decDigits (n % 10)

theorem format_any (n : Nat) (h1 : n ≤ 9223372036854775807) (w : World) (hT : Tab w) :
    Calls Tryd.prog 27 #[.int .i64 n, .int .i64 10] w fun e w' => e = .returned (.string ⟨(Lib.decDigits n).toArray⟩) ∧ Below w.heap.size w w' := by
  refine (Tryd.strconv_FormatInt_10 n (by omega) (by omega) w hT).mono ?_
  rintro e w' ⟨rfl, k, os, rfl⟩
  refine ⟨?_, ?_⟩
  · unfold Lib.itoa
    rw [if_neg (by omega)]
    simp
  · exact below_grown_sl _ w k os (Nat.le_refl _)

theorem bytes_append (a b : List UInt8) : (⟨a.toArray⟩ : ByteArray) ++ ⟨b.toArray⟩ = ⟨(a ++ b).toArray⟩ := by
  apply ByteArray.ext
  simp
theorem digits_le (n : Nat) (h : n < 18446744073709551616) : (Lib.decDigits n).length ≤ 20 := by
  rw [Lib.decDigits_length]
  exact Lib.nDigits_le20 n h
theorem format_z (z : Int) (h0 : 0 ≤ z) (h1 : z ≤ 9223372036854775807) (w : World) (hT : Tab w) :
    Calls Tryd.prog 27 #[.int .i64 z, .int .i64 10] w fun e w' => e = .returned (.string ⟨(Lib.decDigits z.toNat).toArray⟩) ∧ Below w.heap.size w w' := by
  obtain ⟨n, rfl⟩ := Int.eq_ofNat_of_zero_le h0
  exact format_any n (by omega) w hT

set_option maxHeartbeats 400000 in
theorem hundredths_any (x c n : Nat) (w : World) (hT : Tab w) (hm : floatBits .mul .f64 x 4636737291354636288 = some c) (hi : floatToIntVal .f64 c .i64 = some (n : Int)) (hn : n ≤ 9223372036854775807) :
    Calls Tryd.prog 26 #[.float .f64 x] w fun e w' => e = .returned (.string ⟨(hund n).toArray⟩) ∧ Below w.heap.size w w' := by
  have H1 := fun t w => run_float_arith (P := Tryd.prog) w .mul t .f64 _ _ c hm
  have H2 := fun w => run_convert_float_int (P := Tryd.prog) w 22 2 .f64 .i64 c n (by kernel_rfl) Tryd.underlying2 hi
  have HT := Lib.hid hT
  have l1 := digits_le (n / 100) (by omega)
  have l2 := digits_le (n % 100 / 10) (by omega)
  have l3 := digits_le (n % 10) (by omega)
  clear hm hi hT
  go_enter Tryd.func26, Tryd.ntmps26
  go_wp2_with fail
  refine (format_z _ (by omega) (by omega) _ HT.out).mono ?_
  rintro e w1 ⟨rfl, hb⟩
  have HB1 := Lib.hid hb
  have HT1 := Lib.hid (HT.out.old hb)
  clear hb HT
  go_wp2_with fail
  refine (format_z _ (by omega) (by omega) _ HT1.out).mono ?_
  rintro e w2 ⟨rfl, hb⟩
  have HB2 := Lib.hid (HB1.out.trans (hb.mono HB1.out.size))
  have HT2 := Lib.hid (HT1.out.old hb)
  clear hb HT1 HB1
  go_wp2_with fail
  refine (format_z _ (by omega) (by omega) _ HT2.out).mono ?_
  rintro e w3 ⟨rfl, hb⟩
  have HB3 := Lib.hid (HB2.out.trans (hb.mono HB2.out.size))
  clear hb HB2 HT2
  go_wp2
  go_ret
  refine ⟨?_, HB3.out⟩
  unfold hund
  rw [← bytes_append, ← bytes_append, ← bytes_append]
  rfl

/-- gauge.Text at the edges. -/
theorem text_nan (x : Nat) (w : World) (h : nanW x = true) : Calls Tryd.prog 22 #[.float .f64 x] w fun e w' => e = .returned (.string ⟨#[110, 111, 110, 101]⟩) ∧ w = w' := by
  go_enter Tryd.func22, Tryd.ntmps22
  go_wp2_with fail
  refine (isnan_any x _).mono ?_
  rintro e w1 ⟨rfl, rfl⟩
  go_wp2
  go_ret
  exact ⟨rfl, rfl⟩
theorem nan_of_inf {x : Nat} (h : x % p63 = infR) : nanW x = false := by unfold nanW; simp; omega
theorem text_inf (x : Nat) (w : World) (h : x % p63 = infR) (hs : negW x = false) : Calls Tryd.prog 22 #[.float .f64 x] w fun e w' => e = .returned (.string ⟨#[101, 110, 100, 108, 101, 115, 115]⟩) ∧ w = w' := by
  have hn := nan_of_inf h
  have hd := decide_eq_true h
  clear h
  go_enter Tryd.func22, Tryd.ntmps22
  go_wp2_with fail
  refine (isnan_any x _).mono ?_
  rintro e w1 ⟨rfl, rfl⟩
  go_wp2_with fail
  refine (isinf_pos x _).mono ?_
  rintro e w1 ⟨rfl, rfl⟩
  go_wp2
  go_ret
  exact ⟨rfl, rfl⟩
theorem text_ninf (x : Nat) (w : World) (h : x % p63 = infR) (hs : negW x = true) : Calls Tryd.prog 22 #[.float .f64 x] w fun e w' => e = .returned (.string ⟨#[45, 101, 110, 100, 108, 101, 115, 115]⟩) ∧ w = w' := by
  have hn := nan_of_inf h
  have hd := decide_eq_true h
  clear h
  go_enter Tryd.func22, Tryd.ntmps22
  go_wp2_with fail
  refine (isnan_any x _).mono ?_
  rintro e w1 ⟨rfl, rfl⟩
  go_wp2_with fail
  refine (isinf_pos x _).mono ?_
  rintro e w1 ⟨rfl, rfl⟩
  go_wp2_with fail
  refine (isinf_neg x _).mono ?_
  rintro e w1 ⟨rfl, rfl⟩
  go_wp2
  go_ret
  exact ⟨rfl, rfl⟩
/-- The rung of 1e15. -/
def greatR : Nat := 4831355200913801216
theorem geq_great (r : Nat) (h : r < p63) (hn : nanW r = false) : (FloatKind.f64.format.order r 4831355200913801216 == some Ordering.gt || FloatKind.f64.format.order r 4831355200913801216 == some Ordering.eq) = decide (greatR ≤ r) := by
  have nm : nanW 4831355200913801216 = false := by decide
  have s1 : sval r = (val r : Int) := by unfold sval negW; rw [Nat.div_eq_of_lt h, Nat.mod_eq_of_lt h]; rfl
  have s2 : sval 4831355200913801216 = (val greatR : Int) := by unfold sval; rw [show negW 4831355200913801216 = false from by decide]; rfl
  rw [ord_gt _ _ hn nm, ord_eq _ _ hn nm, s1, s2]
  have k := @val_lt_iff greatR r
  have k2 := @val_inj r greatR
  rw [Bool.eq_iff_iff]
  simp only [Bool.or_eq_true, decide_eq_true_eq]
  constructor
  · rintro (h1 | h1)
    · have := k.1 (by omega); omega
    · have := k2 (by omega); omega
  · intro h1
    rcases Nat.lt_or_ge greatR r with h2 | h2
    · left; have := k.2 h2; omega
    · right; rw [show r = greatR from by omega]
theorem text_great (x : Nat) (w : World) (hx : x < 18446744073709551616) (h : x % p63 < infR) (hg : greatR ≤ x % p63) : Calls Tryd.prog 22 #[.float .f64 x] w fun e w' => e = .returned (.string ⟨#[103, 114, 101, 97, 116]⟩) ∧ w = w' := by
  have hn : nanW x = false := by unfold nanW; simp; omega
  have hn2 : nanW (x % p63) = false := by unfold nanW; rw [Nat.mod_mod]; simp; omega
  have hd : decide (x % p63 = infR) = false := by simp; omega
  have hq := geq_great (x % p63) (Nat.mod_lt _ (by decide)) hn2
  rw [decide_eq_true hg] at hq
  have HX := Lib.hid hx
  clear h hg hx hn2
  go_enter Tryd.func22, Tryd.ntmps22
  go_wp2_with fail
  refine (isnan_any x _).mono ?_
  rintro e w1 ⟨rfl, rfl⟩
  go_wp2_with fail
  refine (isinf_pos x _).mono ?_
  rintro e w1 ⟨rfl, rfl⟩
  go_wp2_with fail
  refine (isinf_neg x _).mono ?_
  rintro e w1 ⟨rfl, rfl⟩
  go_wp2_with fail
  refine (abs_any x _ HX.out).mono ?_
  rintro e w1 ⟨rfl, rfl⟩
  go_wp2
  go_ret
  exact ⟨rfl, rfl⟩
set_option maxHeartbeats 400000 in
theorem text_num (x c n : Nat) (w : World) (hx : x < 18446744073709551616) (hT : Tab w) (hg : x % p63 < greatR)
    (hm : floatBits .mul .f64 (x % p63) 4636737291354636288 = some c) (hi : floatToIntVal .f64 c .i64 = some (n : Int)) (hn : n ≤ 9223372036854775807) :
    Calls Tryd.prog 22 #[.float .f64 x] w fun e w' => e = .returned (.string ⟨((if negW x then [45] else []) ++ hund n).toArray⟩) ∧ Below w.heap.size w w' := by
  have hlt : x % p63 < infR := Nat.lt_trans hg (by decide)
  have hna : nanW x = false := by unfold nanW; simp; omega
  have hn2 : nanW (x % p63) = false := by unfold nanW; rw [Nat.mod_mod]; simp; omega
  have hd : decide (x % p63 = infR) = false := by simp; omega
  have hq := geq_great (x % p63) (Nat.mod_lt _ (by decide)) hn2
  rw [decide_eq_false (by omega)] at hq
  have HX := Lib.hid hx
  have HT := Lib.hid hT
  have HM := Lib.hid hm
  have HI := Lib.hid hi
  have hlen : (hund n).length ≤ 61 := by
    have l1 := digits_le (n / 100) (by omega)
    have l2 := digits_le (n % 100 / 10) (by omega)
    have l3 := digits_le (n % 10) (by omega)
    unfold hund
    simp
    omega
  have hrun := run_neg
  clear hg hx hn2 hlt hT hm hi
  cases hs : negW x
  · have hpos : Hid (x % p63 = x) := by
      show _ = _
      have := HX.out
      unfold negW at hs
      simp at hs
      unfold p63 at *
      omega
    go_enter Tryd.func22, Tryd.ntmps22
    go_wp2_with fail
    refine (isnan_any x _).mono ?_
    rintro e w1 ⟨rfl, rfl⟩
    go_wp2_with fail
    refine (isinf_pos x _).mono ?_
    rintro e w1 ⟨rfl, rfl⟩
    go_wp2_with fail
    refine (isinf_neg x _).mono ?_
    rintro e w1 ⟨rfl, rfl⟩
    go_wp2_with fail
    refine (abs_any x _ HX.out).mono ?_
    rintro e w1 ⟨rfl, rfl⟩
    go_wp2_with fail
    refine (signbit_any x _ HX.out).mono ?_
    rintro e w1 ⟨rfl, rfl⟩
    go_wp2_with fail
    refine (hundredths_any x c n _ HT.out (by rw [← HM.out, hpos.out]) HI.out hn).mono ?_
    rintro e w1 ⟨rfl, hb⟩
    have HB := Lib.hid hb
    clear hb
    go_wp2
    go_ret
    exact ⟨rfl, HB.out⟩
  · have hpos : Hid (x % p63 = negOf x) := by
      show _ = _
      have h1 := negOf_mod x
      have h2 := negOf_neg x
      have h3 := negOf_lt x HX.out
      rw [hs] at h2
      unfold negW at h2
      simp at h2
      unfold p63 at *
      omega
    go_enter Tryd.func22, Tryd.ntmps22
    go_wp2_with fail
    refine (isnan_any x _).mono ?_
    rintro e w1 ⟨rfl, rfl⟩
    go_wp2_with fail
    refine (isinf_pos x _).mono ?_
    rintro e w1 ⟨rfl, rfl⟩
    go_wp2_with fail
    refine (isinf_neg x _).mono ?_
    rintro e w1 ⟨rfl, rfl⟩
    go_wp2_with fail
    refine (abs_any x _ HX.out).mono ?_
    rintro e w1 ⟨rfl, rfl⟩
    go_wp2_with fail
    refine (signbit_any x _ HX.out).mono ?_
    rintro e w1 ⟨rfl, rfl⟩
    go_wp2_with fail
    refine (hundredths_any _ c n _ HT.out (by rw [← HM.out, hpos.out]) HI.out hn).mono ?_
    rintro e w1 ⟨rfl, hb⟩
    have HB := Lib.hid hb
    clear hb
    go_wp2
    go_ret
    refine ⟨?_, HB.out⟩
    show _ = Ending.returned (.string ⟨([45] ++ hund n).toArray⟩)
    rw [← bytes_append]
    rfl

/-- The law's example. -/
theorem share_some (a b : Int) (r : Nat) (w : World) (h : floatBits .quo .f64 (floatOfInt .f64 a) (floatOfInt .f64 b) = some r) : Calls Tryd.prog 10 #[.int .i64 a, .int .i64 b] w fun e w' => e = .returned (.float .f64 r) ∧ w = w' := by
  have H := fun t w => run_float_arith (P := Tryd.prog) w .quo t .f64 _ _ r h
  clear h
  go_enter Tryd.func10, Tryd.ntmps10
  go_wp2
  go_ret
  exact ⟨rfl, rfl⟩
theorem nanAt_nan (x y : Nat) (w : World) : nanW (nanAt x y w) = true ∧ nanAt x y w < 18446744073709551616 := by
  unfold nanAt nanW Question.cut infR p63
  generalize w.tape w.drawn (Question.nanBits FloatKind.f64 x y) = t
  simp only [decide_eq_true_eq, Nat.reducePow, Nat.reduceSub]
  have hu : t / 2 % 4503599627370495 < 4503599627370495 := Nat.mod_lt _ (by decide)
  generalize t / 2 % 4503599627370495 = u at hu
  rcases Nat.mod_two_eq_zero_or_one t with h | h <;> rw [h] <;> omega
theorem share_none (a b : Int) (w : World) (h : floatBits .quo .f64 (floatOfInt .f64 a) (floatOfInt .f64 b) = none) :
    Calls Tryd.prog 10 #[.int .i64 a, .int .i64 b] w fun e w' => e = .returned (.float .f64 (nanAt (floatOfInt .f64 a) (floatOfInt .f64 b) w)) ∧ w.drew = w' := by
  have H := fun t w => run_float_nan .quo (.inr (.inr rfl)) t _ _ w h
  clear h
  go_enter Tryd.func10, Tryd.ntmps10
  go_wp2
  go_ret
  exact ⟨rfl, rfl⟩
theorem below_drew (w : World) : Below w.heap.size w w.drew := ⟨rfl, rfl, rfl, Nat.le_refl _, fun _ _ => rfl⟩
set_option maxHeartbeats 400000 in
theorem awake_any (w : World) (hT : Tab w) : Calls Tryd.prog 11 #[] w fun e w' => e = .returned (.bool true) ∧ Below w.heap.size w w' := by
  have HT := Lib.hid hT
  have q1 : Hid (floatBits .quo .f64 (floatOfInt .f64 1) (floatOfInt .f64 3) = some 4599676419421066581) := by show _ = _; decide +kernel
  have q2 : Hid (floatBits .quo .f64 (floatOfInt .f64 0) (floatOfInt .f64 0) = none) := by show _ = _; decide +kernel
  have q3 : Hid (floatBits .mul .f64 (4599676419421066581 % p63) 4636737291354636288 = some 4629888066921343658) := by show _ = _; decide +kernel
  have q4 : Hid (floatToIntVal .f64 4629888066921343658 .i64 = some ((33 : Nat) : Int)) := by show _ = _; decide +kernel
  have q5 : Hid (((if negW 4599676419421066581 then [45] else []) ++ hund 33).toArray = #[48, 46, 51, 51]) := by show _ = _; decide +kernel
  clear hT
  go_enter Tryd.func11, Tryd.ntmps11
  go_wp2_with fail
  refine (share_some 1 3 _ _ q1.out).mono ?_
  rintro e w1 ⟨rfl, rfl⟩
  go_wp2_with fail
  refine (text_num _ _ 33 _ (by decide) HT.out (by decide) q3.out q4.out (by decide)).mono ?_
  rw [q5.out]
  rintro e w1 ⟨rfl, hb⟩
  have HB := Lib.hid hb
  clear hb
  go_wp2_with fail
  refine (share_none 0 0 _ q2.out).mono ?_
  rintro e w2 ⟨rfl, rfl⟩
  go_wp2_with fail
  refine (text_nan _ _ (nanAt_nan _ _ _).1).mono ?_
  rintro e w2 ⟨rfl, rfl⟩
  go_wp2
  go_ret
  exact ⟨rfl, HB.out.trans ((below_drew w1).mono HB.out.size)⟩
end Go.Proofs.YtkjnimmehjccbaaDoor
