/-
  GaugeOrders (tied card): for any three words and any byte the law returns true: gauge.Less puts any floats in one order. Conditions: the library's tables hold what the program's text lays (the card ties them).
-/
import Derived.Test.YtkjnimmehjccbaaDoorCards
import Derived.Test.YtkjnimmehjccbaaDoorTie
import Derived.WalkKit
import Derived.Test.YtkjnimmehjccbaaDoorMean
import Derived.ProofKit
import Derived.OpenShut
import Derived.ShutString
import Derived.ChangeOld
import Derived.Below
import Derived.Deep.DeepHandedRow
import Derived.Lib.LaidTab
import Derived.LaidSub
namespace Go.Proofs.YtkjnimmehjccbaaDoor.gaugeOrders
open Go.ChangeShapes Go.WideShapes Go.ChangeAt Go.RowKit
open Go.ChangeMaps (open_string shut_string)
set_option linter.unusedVariables false

theorem own : ownKnob Tryd.prog.godebug = none := by kernel_rfl
theorem laidOut : laidOutB Tryd.prog = true := by kernel_rfl
theorem gTabType : (Tryd.prog.globals[1]?).map (·.type) = some 58 := by kernel_rfl
theorem tab_of {W : World} (h : laidMetH Tryd.prog Rows.gaugeOrdersRow.laid W) : Tab W :=
  Lib.tabIs_of_head (rest := []) gPow gTabType Tryd.underlying58 Tryd.underlying26 (by kernel_rfl) (by kernel_rfl) (laidMetH.filter (fun x => x.1 == "internal/strconv.uint64pow10") h)
theorem less_is (a b : Nat) (v : Bool) (h : lessW a b = v) (w : World) (ha : a < 18446744073709551616) (hb : b < 18446744073709551616) : Calls Tryd.prog 19 #[.float .f64 a, .float .f64 b] w fun e w' => e = .returned (.bool v) ∧ w = w' := by
  subst h
  exact less_any a b w ha hb
/-- The law's seven floats, rising. -/
def seven : List Nat := [9221120237041090561, 18442240474082181120, 13830554455654793216, 9223372036854775808, 0, 4607182418800017408, 9218868437227405312]
theorem seven_less (i j : Nat) (hi : i < 7) (hj : j < 7) : lessW (seven.getD i 0) (seven.getD j 0) = decide (i < j) := by
  have h : ∀ i j : Fin 7, lessW (seven.getD i.val 0) (seven.getD j.val 0) = decide (i.val < j.val) := by decide +kernel
  exact h ⟨i, hi⟩ ⟨j, hj⟩
theorem seven_lt (i : Nat) (hi : i < 7) : seven.getD i 0 < 18446744073709551616 := by
  have h : ∀ i : Fin 7, seven.getD i.val 0 < 18446744073709551616 := by decide +kernel
  exact h ⟨i, hi⟩
theorem seven_cell (w : World) (i : Nat) (hi : i < 7) : (w.alloc (.cells ((seven.map F).toArray) 22)).cell? ⟨w.heap.size, i, none⟩ = some (F (seven.getD i 0)) := by
  rw [cell_of_row _ w.heap.size i _ 22 (0, 0) (heap_alloc_new w _)]
  have : i < seven.length := hi
  simp [List.getD, this]

set_option maxRecDepth 20000 in
set_option maxHeartbeats 2000000 in
theorem walk_nn (a b c near : Nat) (w : World) (hT : Tab w) (ha : a < 18446744073709551616) (hb : b < 18446744073709551616) (hc : c < 18446744073709551616) (hn : near ≤ 255) (s1 : (FloatKind.f64.format.order a a != some .eq) = true) (s2 : (FloatKind.f64.format.order b b != some .eq) = true) (l1 : lessW a b = false) (l2 : lessW b a = false) :
    Calls Tryd.prog 5 #[.int .u64 a, .int .u64 b, .int .u64 c, .int .u8 near] w fun e w' => e = .returned (.bool true) ∧ Below w.heap.size w w' := by
  have HT := Lib.hid hT
  have hrb := run_bits
  have L1 := Lib.hid l1
  have L2 := Lib.hid l2
  clear l1 l2
  have HA := Lib.hid ha
  have HB := Lib.hid hb
  have HC := Lib.hid hc
  have hrf := run_frombits
  have hci := seven_cell w (near % 7) (by omega)
  have hcj := seven_cell w (near / 7 % 7) (by omega)
  clear hT ha hb hc
  go_enter Tryd.func5, Tryd.ntmps5
  go_wp2_with fail
  refine (nan_any _).mono ?_
  rintro e w1 ⟨rfl, rfl⟩
  go_wp2_with fail
  refine (inf_neg _).mono ?_
  rintro e w1 ⟨rfl, rfl⟩
  go_wp2_with fail
  refine (copysign_neg _).mono ?_
  rintro e w1 ⟨rfl, rfl⟩
  go_wp2_with fail
  refine (inf_pos _).mono ?_
  rintro e w1 ⟨rfl, rfl⟩
  go_wp2_with fail
  rw [show ((near : Int) % 7) = ((near % 7 : Nat) : Int) from by omega, show ((near : Int) / 7 % 7) = ((near / 7 % 7 : Nat) : Int) from by omega]
  have hb1 : Below w.heap.size w (w.alloc (.cells ((seven.map F).toArray) 22)) := (Below.refl _ _).alloc (Nat.le_refl _) _
  have hwo : w.heap.size < (w.alloc (.cells ((seven.map F).toArray) 22)).heap.size := by simp
  have hw7 : (w.alloc (.cells ((seven.map F).toArray) 22)) = (w.alloc (.cells #[.float .f64 9221120237041090561, .float .f64 18442240474082181120, .float .f64 13830554455654793216, .float .f64 9223372036854775808, .float .f64 0, .float .f64 4607182418800017408, .float .f64 9218868437227405312] 22)) := rfl
  rw [hw7] at hci hcj hb1 hwo
  generalize (w.alloc (.cells #[.float .f64 9221120237041090561, .float .f64 18442240474082181120, .float .f64 13830554455654793216, .float .f64 9223372036854775808, .float .f64 0, .float .f64 4607182418800017408, .float .f64 9218868437227405312] 22)) = w7 at hci hcj hb1 hwo ⊢
  have hi7 : near % 7 < 7 := Nat.mod_lt _ (by decide)
  have hj7 : near / 7 % 7 < 7 := Nat.mod_lt _ (by decide)
  generalize near % 7 = i at *
  generalize near / 7 % 7 = j at *
  have hsl := seven_less i j hi7 hj7
  have hx := Lib.hid (seven_lt i hi7)
  have hy := Lib.hid (seven_lt j hj7)
  generalize seven.getD i 0 = x at *
  generalize seven.getD j 0 = y at *
  have HB1 := Lib.hid hb1
  clear hb1 hw7 hwo
  unfold F at hci hcj
  have hii : (i : Int) < 7 := by omega
  have hjj : (j : Int) < 7 := by omega
  obtain ⟨β, hβ⟩ : ∃ β, decide (i < j) = β := ⟨_, rfl⟩
  have hg : decide ((i : Int) < (j : Int)) = β := by rw [← hβ, decide_eq_decide]; omega
  have hsl' := Lib.hid (hsl.trans hβ)
  clear hsl
  go_quiet ((with_reducible exact quiet_left (less_is x y β hsl'.out _ hx.out hy.out)))
  go_wp2_with fail
  refine (less_is a b false L1.out _ HA.out HB.out).mono ?_
  rintro e w2 ⟨rfl, rfl⟩
  go_wp2_with fail
  refine (less_is b a false L2.out _ HB.out HA.out).mono ?_
  rintro e w2 ⟨rfl, rfl⟩
  go_wp2_with fail
  refine (awake_any _ (HT.out.old (below_drewN' HB1.out nq))).mono ?_
  rintro e w2 ⟨rfl, hb⟩
  have HB2 := Lib.hid ((below_drewN' HB1.out nq).trans (hb.mono (below_drewN' HB1.out nq).size))
  clear hb
  go_wp2_with fail
  refine (less_is a b false L1.out _ HA.out HB.out).mono ?_
  rintro e w3 ⟨rfl, rfl⟩
  go_wp2
  go_ret
  exact ⟨rfl, HB2.out⟩

set_option maxRecDepth 20000 in
set_option maxHeartbeats 2000000 in
theorem walk_n1 (a b c near : Nat) (w : World) (hT : Tab w) (ha : a < 18446744073709551616) (hb : b < 18446744073709551616) (hc : c < 18446744073709551616) (hn : near ≤ 255) (s1 : (FloatKind.f64.format.order a a != some .eq) = true) (s2 : (FloatKind.f64.format.order b b != some .eq) = false) (hab : ((a : Int) == (b : Int)) = false) (l1 : lessW a b = true) (l2 : lessW b a = false) (l3 : lessW b c = false) :
    Calls Tryd.prog 5 #[.int .u64 a, .int .u64 b, .int .u64 c, .int .u8 near] w fun e w' => e = .returned (.bool true) ∧ Below w.heap.size w w' := by
  have HT := Lib.hid hT
  have hrb := run_bits
  have L1 := Lib.hid l1
  have L2 := Lib.hid l2
  have L3 := Lib.hid l3
  clear l1 l2 l3
  have HA := Lib.hid ha
  have HB := Lib.hid hb
  have HC := Lib.hid hc
  have hrf := run_frombits
  have hci := seven_cell w (near % 7) (by omega)
  have hcj := seven_cell w (near / 7 % 7) (by omega)
  clear hT ha hb hc
  go_enter Tryd.func5, Tryd.ntmps5
  go_wp2_with fail
  refine (nan_any _).mono ?_
  rintro e w1 ⟨rfl, rfl⟩
  go_wp2_with fail
  refine (inf_neg _).mono ?_
  rintro e w1 ⟨rfl, rfl⟩
  go_wp2_with fail
  refine (copysign_neg _).mono ?_
  rintro e w1 ⟨rfl, rfl⟩
  go_wp2_with fail
  refine (inf_pos _).mono ?_
  rintro e w1 ⟨rfl, rfl⟩
  go_wp2_with fail
  rw [show ((near : Int) % 7) = ((near % 7 : Nat) : Int) from by omega, show ((near : Int) / 7 % 7) = ((near / 7 % 7 : Nat) : Int) from by omega]
  have hb1 : Below w.heap.size w (w.alloc (.cells ((seven.map F).toArray) 22)) := (Below.refl _ _).alloc (Nat.le_refl _) _
  have hwo : w.heap.size < (w.alloc (.cells ((seven.map F).toArray) 22)).heap.size := by simp
  have hw7 : (w.alloc (.cells ((seven.map F).toArray) 22)) = (w.alloc (.cells #[.float .f64 9221120237041090561, .float .f64 18442240474082181120, .float .f64 13830554455654793216, .float .f64 9223372036854775808, .float .f64 0, .float .f64 4607182418800017408, .float .f64 9218868437227405312] 22)) := rfl
  rw [hw7] at hci hcj hb1 hwo
  generalize (w.alloc (.cells #[.float .f64 9221120237041090561, .float .f64 18442240474082181120, .float .f64 13830554455654793216, .float .f64 9223372036854775808, .float .f64 0, .float .f64 4607182418800017408, .float .f64 9218868437227405312] 22)) = w7 at hci hcj hb1 hwo ⊢
  have hi7 : near % 7 < 7 := Nat.mod_lt _ (by decide)
  have hj7 : near / 7 % 7 < 7 := Nat.mod_lt _ (by decide)
  generalize near % 7 = i at *
  generalize near / 7 % 7 = j at *
  have hsl := seven_less i j hi7 hj7
  have hx := Lib.hid (seven_lt i hi7)
  have hy := Lib.hid (seven_lt j hj7)
  generalize seven.getD i 0 = x at *
  generalize seven.getD j 0 = y at *
  have HB1 := Lib.hid hb1
  clear hb1 hw7 hwo
  unfold F at hci hcj
  have hii : (i : Int) < 7 := by omega
  have hjj : (j : Int) < 7 := by omega
  obtain ⟨β, hβ⟩ : ∃ β, decide (i < j) = β := ⟨_, rfl⟩
  have hg : decide ((i : Int) < (j : Int)) = β := by rw [← hβ, decide_eq_decide]; omega
  have hsl' := Lib.hid (hsl.trans hβ)
  clear hsl
  go_quiet ((with_reducible exact quiet_left (less_is x y β hsl'.out _ hx.out hy.out)))
  go_wp2_with fail
  refine (less_is a b true L1.out _ HA.out HB.out).mono ?_
  rintro e w2 ⟨rfl, rfl⟩
  go_wp2_with fail
  refine (less_is b a false L2.out _ HB.out HA.out).mono ?_
  rintro e w2 ⟨rfl, rfl⟩
  go_wp2_with fail
  refine (awake_any _ (HT.out.old (below_drewN' HB1.out nq))).mono ?_
  rintro e w2 ⟨rfl, hb⟩
  have HB2 := Lib.hid ((below_drewN' HB1.out nq).trans (hb.mono (below_drewN' HB1.out nq).size))
  clear hb
  go_wp2_with fail
  refine (less_is a b true L1.out _ HA.out HB.out).mono ?_
  rintro e w3 ⟨rfl, rfl⟩
  go_wp2_with fail
  refine (less_is b c false L3.out _ HB.out HC.out).mono ?_
  rintro e w3 ⟨rfl, rfl⟩
  go_wp2
  go_ret
  exact ⟨rfl, HB2.out⟩

set_option maxRecDepth 20000 in
set_option maxHeartbeats 2000000 in
theorem walk_n2 (a b c near : Nat) (w : World) (hT : Tab w) (ha : a < 18446744073709551616) (hb : b < 18446744073709551616) (hc : c < 18446744073709551616) (hn : near ≤ 255) (s1 : (FloatKind.f64.format.order a a != some .eq) = true) (s2 : (FloatKind.f64.format.order b b != some .eq) = false) (hab : ((a : Int) == (b : Int)) = false) (l1 : lessW a b = true) (l2 : lessW b a = false) (l3 : lessW b c = true) (l4 : lessW a c = true) :
    Calls Tryd.prog 5 #[.int .u64 a, .int .u64 b, .int .u64 c, .int .u8 near] w fun e w' => e = .returned (.bool true) ∧ Below w.heap.size w w' := by
  have HT := Lib.hid hT
  have hrb := run_bits
  have L1 := Lib.hid l1
  have L2 := Lib.hid l2
  have L3 := Lib.hid l3
  have L4 := Lib.hid l4
  clear l1 l2 l3 l4
  have HA := Lib.hid ha
  have HB := Lib.hid hb
  have HC := Lib.hid hc
  have hrf := run_frombits
  have hci := seven_cell w (near % 7) (by omega)
  have hcj := seven_cell w (near / 7 % 7) (by omega)
  clear hT ha hb hc
  go_enter Tryd.func5, Tryd.ntmps5
  go_wp2_with fail
  refine (nan_any _).mono ?_
  rintro e w1 ⟨rfl, rfl⟩
  go_wp2_with fail
  refine (inf_neg _).mono ?_
  rintro e w1 ⟨rfl, rfl⟩
  go_wp2_with fail
  refine (copysign_neg _).mono ?_
  rintro e w1 ⟨rfl, rfl⟩
  go_wp2_with fail
  refine (inf_pos _).mono ?_
  rintro e w1 ⟨rfl, rfl⟩
  go_wp2_with fail
  rw [show ((near : Int) % 7) = ((near % 7 : Nat) : Int) from by omega, show ((near : Int) / 7 % 7) = ((near / 7 % 7 : Nat) : Int) from by omega]
  have hb1 : Below w.heap.size w (w.alloc (.cells ((seven.map F).toArray) 22)) := (Below.refl _ _).alloc (Nat.le_refl _) _
  have hwo : w.heap.size < (w.alloc (.cells ((seven.map F).toArray) 22)).heap.size := by simp
  have hw7 : (w.alloc (.cells ((seven.map F).toArray) 22)) = (w.alloc (.cells #[.float .f64 9221120237041090561, .float .f64 18442240474082181120, .float .f64 13830554455654793216, .float .f64 9223372036854775808, .float .f64 0, .float .f64 4607182418800017408, .float .f64 9218868437227405312] 22)) := rfl
  rw [hw7] at hci hcj hb1 hwo
  generalize (w.alloc (.cells #[.float .f64 9221120237041090561, .float .f64 18442240474082181120, .float .f64 13830554455654793216, .float .f64 9223372036854775808, .float .f64 0, .float .f64 4607182418800017408, .float .f64 9218868437227405312] 22)) = w7 at hci hcj hb1 hwo ⊢
  have hi7 : near % 7 < 7 := Nat.mod_lt _ (by decide)
  have hj7 : near / 7 % 7 < 7 := Nat.mod_lt _ (by decide)
  generalize near % 7 = i at *
  generalize near / 7 % 7 = j at *
  have hsl := seven_less i j hi7 hj7
  have hx := Lib.hid (seven_lt i hi7)
  have hy := Lib.hid (seven_lt j hj7)
  generalize seven.getD i 0 = x at *
  generalize seven.getD j 0 = y at *
  have HB1 := Lib.hid hb1
  clear hb1 hw7 hwo
  unfold F at hci hcj
  have hii : (i : Int) < 7 := by omega
  have hjj : (j : Int) < 7 := by omega
  obtain ⟨β, hβ⟩ : ∃ β, decide (i < j) = β := ⟨_, rfl⟩
  have hg : decide ((i : Int) < (j : Int)) = β := by rw [← hβ, decide_eq_decide]; omega
  have hsl' := Lib.hid (hsl.trans hβ)
  clear hsl
  go_quiet ((with_reducible exact quiet_left (less_is x y β hsl'.out _ hx.out hy.out)))
  go_wp2_with fail
  refine (less_is a b true L1.out _ HA.out HB.out).mono ?_
  rintro e w2 ⟨rfl, rfl⟩
  go_wp2_with fail
  refine (less_is b a false L2.out _ HB.out HA.out).mono ?_
  rintro e w2 ⟨rfl, rfl⟩
  go_wp2_with fail
  refine (awake_any _ (HT.out.old (below_drewN' HB1.out nq))).mono ?_
  rintro e w2 ⟨rfl, hb⟩
  have HB2 := Lib.hid ((below_drewN' HB1.out nq).trans (hb.mono (below_drewN' HB1.out nq).size))
  clear hb
  go_wp2_with fail
  refine (less_is a b true L1.out _ HA.out HB.out).mono ?_
  rintro e w3 ⟨rfl, rfl⟩
  go_wp2_with fail
  refine (less_is b c true L3.out _ HB.out HC.out).mono ?_
  rintro e w3 ⟨rfl, rfl⟩
  go_wp2_with fail
  refine (less_is a c true L4.out _ HA.out HC.out).mono ?_
  rintro e w3 ⟨rfl, rfl⟩
  go_wp2
  go_ret
  exact ⟨rfl, HB2.out⟩

set_option maxRecDepth 20000 in
set_option maxHeartbeats 2000000 in
theorem walk_m (a b c near : Nat) (w : World) (hT : Tab w) (ha : a < 18446744073709551616) (hb : b < 18446744073709551616) (hc : c < 18446744073709551616) (hn : near ≤ 255) (s1 : (FloatKind.f64.format.order a a != some .eq) = false) (s2 : (FloatKind.f64.format.order b b != some .eq) = true) (hab : ((a : Int) == (b : Int)) = false) (l1 : lessW a b = false) (l2 : lessW b a = true) :
    Calls Tryd.prog 5 #[.int .u64 a, .int .u64 b, .int .u64 c, .int .u8 near] w fun e w' => e = .returned (.bool true) ∧ Below w.heap.size w w' := by
  have HT := Lib.hid hT
  have hrb := run_bits
  have L1 := Lib.hid l1
  have L2 := Lib.hid l2
  clear l1 l2
  have HA := Lib.hid ha
  have HB := Lib.hid hb
  have HC := Lib.hid hc
  have hrf := run_frombits
  have hci := seven_cell w (near % 7) (by omega)
  have hcj := seven_cell w (near / 7 % 7) (by omega)
  clear hT ha hb hc
  go_enter Tryd.func5, Tryd.ntmps5
  go_wp2_with fail
  refine (nan_any _).mono ?_
  rintro e w1 ⟨rfl, rfl⟩
  go_wp2_with fail
  refine (inf_neg _).mono ?_
  rintro e w1 ⟨rfl, rfl⟩
  go_wp2_with fail
  refine (copysign_neg _).mono ?_
  rintro e w1 ⟨rfl, rfl⟩
  go_wp2_with fail
  refine (inf_pos _).mono ?_
  rintro e w1 ⟨rfl, rfl⟩
  go_wp2_with fail
  rw [show ((near : Int) % 7) = ((near % 7 : Nat) : Int) from by omega, show ((near : Int) / 7 % 7) = ((near / 7 % 7 : Nat) : Int) from by omega]
  have hb1 : Below w.heap.size w (w.alloc (.cells ((seven.map F).toArray) 22)) := (Below.refl _ _).alloc (Nat.le_refl _) _
  have hwo : w.heap.size < (w.alloc (.cells ((seven.map F).toArray) 22)).heap.size := by simp
  have hw7 : (w.alloc (.cells ((seven.map F).toArray) 22)) = (w.alloc (.cells #[.float .f64 9221120237041090561, .float .f64 18442240474082181120, .float .f64 13830554455654793216, .float .f64 9223372036854775808, .float .f64 0, .float .f64 4607182418800017408, .float .f64 9218868437227405312] 22)) := rfl
  rw [hw7] at hci hcj hb1 hwo
  generalize (w.alloc (.cells #[.float .f64 9221120237041090561, .float .f64 18442240474082181120, .float .f64 13830554455654793216, .float .f64 9223372036854775808, .float .f64 0, .float .f64 4607182418800017408, .float .f64 9218868437227405312] 22)) = w7 at hci hcj hb1 hwo ⊢
  have hi7 : near % 7 < 7 := Nat.mod_lt _ (by decide)
  have hj7 : near / 7 % 7 < 7 := Nat.mod_lt _ (by decide)
  generalize near % 7 = i at *
  generalize near / 7 % 7 = j at *
  have hsl := seven_less i j hi7 hj7
  have hx := Lib.hid (seven_lt i hi7)
  have hy := Lib.hid (seven_lt j hj7)
  generalize seven.getD i 0 = x at *
  generalize seven.getD j 0 = y at *
  have HB1 := Lib.hid hb1
  clear hb1 hw7 hwo
  unfold F at hci hcj
  have hii : (i : Int) < 7 := by omega
  have hjj : (j : Int) < 7 := by omega
  obtain ⟨β, hβ⟩ : ∃ β, decide (i < j) = β := ⟨_, rfl⟩
  have hg : decide ((i : Int) < (j : Int)) = β := by rw [← hβ, decide_eq_decide]; omega
  have hsl' := Lib.hid (hsl.trans hβ)
  clear hsl
  go_quiet ((with_reducible exact quiet_left (less_is x y β hsl'.out _ hx.out hy.out)))
  go_wp2_with fail
  refine (less_is a b false L1.out _ HA.out HB.out).mono ?_
  rintro e w2 ⟨rfl, rfl⟩
  go_wp2_with fail
  refine (less_is b a true L2.out _ HB.out HA.out).mono ?_
  rintro e w2 ⟨rfl, rfl⟩
  go_wp2_with fail
  refine (awake_any _ (HT.out.old (below_drewN' HB1.out nq))).mono ?_
  rintro e w2 ⟨rfl, hb⟩
  have HB2 := Lib.hid ((below_drewN' HB1.out nq).trans (hb.mono (below_drewN' HB1.out nq).size))
  clear hb
  go_wp2_with fail
  refine (less_is a b false L1.out _ HA.out HB.out).mono ?_
  rintro e w3 ⟨rfl, rfl⟩
  go_wp2
  go_ret
  exact ⟨rfl, HB2.out⟩

set_option maxRecDepth 20000 in
set_option maxHeartbeats 2000000 in
theorem walk_e (a c near : Nat) (w : World) (hT : Tab w) (ha : a < 18446744073709551616) (hc : c < 18446744073709551616) (hn : near ≤ 255) (s1 : (FloatKind.f64.format.order a a != some .eq) = false) (l1 : lessW a a = false) (l2 : lessW a a = false) :
    Calls Tryd.prog 5 #[.int .u64 a, .int .u64 a, .int .u64 c, .int .u8 near] w fun e w' => e = .returned (.bool true) ∧ Below w.heap.size w w' := by
  have HT := Lib.hid hT
  have hrb := run_bits
  have L1 := Lib.hid l1
  have L2 := Lib.hid l2
  clear l1 l2
  have HA := Lib.hid ha
  have HB := Lib.hid ha
  have HC := Lib.hid hc
  have hrf := run_frombits
  have hci := seven_cell w (near % 7) (by omega)
  have hcj := seven_cell w (near / 7 % 7) (by omega)
  clear hT ha hc
  go_enter Tryd.func5, Tryd.ntmps5
  go_wp2_with fail
  refine (nan_any _).mono ?_
  rintro e w1 ⟨rfl, rfl⟩
  go_wp2_with fail
  refine (inf_neg _).mono ?_
  rintro e w1 ⟨rfl, rfl⟩
  go_wp2_with fail
  refine (copysign_neg _).mono ?_
  rintro e w1 ⟨rfl, rfl⟩
  go_wp2_with fail
  refine (inf_pos _).mono ?_
  rintro e w1 ⟨rfl, rfl⟩
  go_wp2_with fail
  rw [show ((near : Int) % 7) = ((near % 7 : Nat) : Int) from by omega, show ((near : Int) / 7 % 7) = ((near / 7 % 7 : Nat) : Int) from by omega]
  have hb1 : Below w.heap.size w (w.alloc (.cells ((seven.map F).toArray) 22)) := (Below.refl _ _).alloc (Nat.le_refl _) _
  have hwo : w.heap.size < (w.alloc (.cells ((seven.map F).toArray) 22)).heap.size := by simp
  have hw7 : (w.alloc (.cells ((seven.map F).toArray) 22)) = (w.alloc (.cells #[.float .f64 9221120237041090561, .float .f64 18442240474082181120, .float .f64 13830554455654793216, .float .f64 9223372036854775808, .float .f64 0, .float .f64 4607182418800017408, .float .f64 9218868437227405312] 22)) := rfl
  rw [hw7] at hci hcj hb1 hwo
  generalize (w.alloc (.cells #[.float .f64 9221120237041090561, .float .f64 18442240474082181120, .float .f64 13830554455654793216, .float .f64 9223372036854775808, .float .f64 0, .float .f64 4607182418800017408, .float .f64 9218868437227405312] 22)) = w7 at hci hcj hb1 hwo ⊢
  have hi7 : near % 7 < 7 := Nat.mod_lt _ (by decide)
  have hj7 : near / 7 % 7 < 7 := Nat.mod_lt _ (by decide)
  generalize near % 7 = i at *
  generalize near / 7 % 7 = j at *
  have hsl := seven_less i j hi7 hj7
  have hx := Lib.hid (seven_lt i hi7)
  have hy := Lib.hid (seven_lt j hj7)
  generalize seven.getD i 0 = x at *
  generalize seven.getD j 0 = y at *
  have HB1 := Lib.hid hb1
  clear hb1 hw7 hwo
  unfold F at hci hcj
  have hii : (i : Int) < 7 := by omega
  have hjj : (j : Int) < 7 := by omega
  obtain ⟨β, hβ⟩ : ∃ β, decide (i < j) = β := ⟨_, rfl⟩
  have hg : decide ((i : Int) < (j : Int)) = β := by rw [← hβ, decide_eq_decide]; omega
  have hsl' := Lib.hid (hsl.trans hβ)
  clear hsl
  go_quiet ((with_reducible exact quiet_left (less_is x y β hsl'.out _ hx.out hy.out)))
  go_wp2_with fail
  refine (less_is a a false L1.out _ HA.out HB.out).mono ?_
  rintro e w2 ⟨rfl, rfl⟩
  go_wp2_with fail
  refine (less_is a a false L2.out _ HB.out HA.out).mono ?_
  rintro e w2 ⟨rfl, rfl⟩
  go_wp2_with fail
  refine (awake_any _ (HT.out.old (below_drewN' HB1.out nq))).mono ?_
  rintro e w2 ⟨rfl, hb⟩
  have HB2 := Lib.hid ((below_drewN' HB1.out nq).trans (hb.mono (below_drewN' HB1.out nq).size))
  clear hb
  go_wp2_with fail
  refine (less_is a a false L1.out _ HA.out HB.out).mono ?_
  rintro e w3 ⟨rfl, rfl⟩
  go_wp2
  go_ret
  exact ⟨rfl, HB2.out⟩

set_option maxRecDepth 20000 in
set_option maxHeartbeats 2000000 in
theorem walk_l1 (a b c near : Nat) (w : World) (hT : Tab w) (ha : a < 18446744073709551616) (hb : b < 18446744073709551616) (hc : c < 18446744073709551616) (hn : near ≤ 255) (s1 : (FloatKind.f64.format.order a a != some .eq) = false) (s2 : (FloatKind.f64.format.order b b != some .eq) = false) (hab : ((a : Int) == (b : Int)) = false) (l1 : lessW a b = true) (l2 : lessW b a = false) (l3 : lessW b c = false) :
    Calls Tryd.prog 5 #[.int .u64 a, .int .u64 b, .int .u64 c, .int .u8 near] w fun e w' => e = .returned (.bool true) ∧ Below w.heap.size w w' := by
  have HT := Lib.hid hT
  have hrb := run_bits
  have L1 := Lib.hid l1
  have L2 := Lib.hid l2
  have L3 := Lib.hid l3
  clear l1 l2 l3
  have HA := Lib.hid ha
  have HB := Lib.hid hb
  have HC := Lib.hid hc
  have hrf := run_frombits
  have hci := seven_cell w (near % 7) (by omega)
  have hcj := seven_cell w (near / 7 % 7) (by omega)
  clear hT ha hb hc
  go_enter Tryd.func5, Tryd.ntmps5
  go_wp2_with fail
  refine (nan_any _).mono ?_
  rintro e w1 ⟨rfl, rfl⟩
  go_wp2_with fail
  refine (inf_neg _).mono ?_
  rintro e w1 ⟨rfl, rfl⟩
  go_wp2_with fail
  refine (copysign_neg _).mono ?_
  rintro e w1 ⟨rfl, rfl⟩
  go_wp2_with fail
  refine (inf_pos _).mono ?_
  rintro e w1 ⟨rfl, rfl⟩
  go_wp2_with fail
  rw [show ((near : Int) % 7) = ((near % 7 : Nat) : Int) from by omega, show ((near : Int) / 7 % 7) = ((near / 7 % 7 : Nat) : Int) from by omega]
  have hb1 : Below w.heap.size w (w.alloc (.cells ((seven.map F).toArray) 22)) := (Below.refl _ _).alloc (Nat.le_refl _) _
  have hwo : w.heap.size < (w.alloc (.cells ((seven.map F).toArray) 22)).heap.size := by simp
  have hw7 : (w.alloc (.cells ((seven.map F).toArray) 22)) = (w.alloc (.cells #[.float .f64 9221120237041090561, .float .f64 18442240474082181120, .float .f64 13830554455654793216, .float .f64 9223372036854775808, .float .f64 0, .float .f64 4607182418800017408, .float .f64 9218868437227405312] 22)) := rfl
  rw [hw7] at hci hcj hb1 hwo
  generalize (w.alloc (.cells #[.float .f64 9221120237041090561, .float .f64 18442240474082181120, .float .f64 13830554455654793216, .float .f64 9223372036854775808, .float .f64 0, .float .f64 4607182418800017408, .float .f64 9218868437227405312] 22)) = w7 at hci hcj hb1 hwo ⊢
  have hi7 : near % 7 < 7 := Nat.mod_lt _ (by decide)
  have hj7 : near / 7 % 7 < 7 := Nat.mod_lt _ (by decide)
  generalize near % 7 = i at *
  generalize near / 7 % 7 = j at *
  have hsl := seven_less i j hi7 hj7
  have hx := Lib.hid (seven_lt i hi7)
  have hy := Lib.hid (seven_lt j hj7)
  generalize seven.getD i 0 = x at *
  generalize seven.getD j 0 = y at *
  have HB1 := Lib.hid hb1
  clear hb1 hw7 hwo
  unfold F at hci hcj
  have hii : (i : Int) < 7 := by omega
  have hjj : (j : Int) < 7 := by omega
  obtain ⟨β, hβ⟩ : ∃ β, decide (i < j) = β := ⟨_, rfl⟩
  have hg : decide ((i : Int) < (j : Int)) = β := by rw [← hβ, decide_eq_decide]; omega
  have hsl' := Lib.hid (hsl.trans hβ)
  clear hsl
  go_quiet ((with_reducible exact quiet_left (less_is x y β hsl'.out _ hx.out hy.out)))
  go_wp2_with fail
  refine (less_is a b true L1.out _ HA.out HB.out).mono ?_
  rintro e w2 ⟨rfl, rfl⟩
  go_wp2_with fail
  refine (less_is b a false L2.out _ HB.out HA.out).mono ?_
  rintro e w2 ⟨rfl, rfl⟩
  go_wp2_with fail
  refine (awake_any _ (HT.out.old (below_drewN' HB1.out nq))).mono ?_
  rintro e w2 ⟨rfl, hb⟩
  have HB2 := Lib.hid ((below_drewN' HB1.out nq).trans (hb.mono (below_drewN' HB1.out nq).size))
  clear hb
  go_wp2_with fail
  refine (less_is a b true L1.out _ HA.out HB.out).mono ?_
  rintro e w3 ⟨rfl, rfl⟩
  go_wp2_with fail
  refine (less_is b c false L3.out _ HB.out HC.out).mono ?_
  rintro e w3 ⟨rfl, rfl⟩
  go_wp2
  go_ret
  exact ⟨rfl, HB2.out⟩

set_option maxRecDepth 20000 in
set_option maxHeartbeats 2000000 in
theorem walk_l2 (a b c near : Nat) (w : World) (hT : Tab w) (ha : a < 18446744073709551616) (hb : b < 18446744073709551616) (hc : c < 18446744073709551616) (hn : near ≤ 255) (s1 : (FloatKind.f64.format.order a a != some .eq) = false) (s2 : (FloatKind.f64.format.order b b != some .eq) = false) (hab : ((a : Int) == (b : Int)) = false) (l1 : lessW a b = true) (l2 : lessW b a = false) (l3 : lessW b c = true) (l4 : lessW a c = true) :
    Calls Tryd.prog 5 #[.int .u64 a, .int .u64 b, .int .u64 c, .int .u8 near] w fun e w' => e = .returned (.bool true) ∧ Below w.heap.size w w' := by
  have HT := Lib.hid hT
  have hrb := run_bits
  have L1 := Lib.hid l1
  have L2 := Lib.hid l2
  have L3 := Lib.hid l3
  have L4 := Lib.hid l4
  clear l1 l2 l3 l4
  have HA := Lib.hid ha
  have HB := Lib.hid hb
  have HC := Lib.hid hc
  have hrf := run_frombits
  have hci := seven_cell w (near % 7) (by omega)
  have hcj := seven_cell w (near / 7 % 7) (by omega)
  clear hT ha hb hc
  go_enter Tryd.func5, Tryd.ntmps5
  go_wp2_with fail
  refine (nan_any _).mono ?_
  rintro e w1 ⟨rfl, rfl⟩
  go_wp2_with fail
  refine (inf_neg _).mono ?_
  rintro e w1 ⟨rfl, rfl⟩
  go_wp2_with fail
  refine (copysign_neg _).mono ?_
  rintro e w1 ⟨rfl, rfl⟩
  go_wp2_with fail
  refine (inf_pos _).mono ?_
  rintro e w1 ⟨rfl, rfl⟩
  go_wp2_with fail
  rw [show ((near : Int) % 7) = ((near % 7 : Nat) : Int) from by omega, show ((near : Int) / 7 % 7) = ((near / 7 % 7 : Nat) : Int) from by omega]
  have hb1 : Below w.heap.size w (w.alloc (.cells ((seven.map F).toArray) 22)) := (Below.refl _ _).alloc (Nat.le_refl _) _
  have hwo : w.heap.size < (w.alloc (.cells ((seven.map F).toArray) 22)).heap.size := by simp
  have hw7 : (w.alloc (.cells ((seven.map F).toArray) 22)) = (w.alloc (.cells #[.float .f64 9221120237041090561, .float .f64 18442240474082181120, .float .f64 13830554455654793216, .float .f64 9223372036854775808, .float .f64 0, .float .f64 4607182418800017408, .float .f64 9218868437227405312] 22)) := rfl
  rw [hw7] at hci hcj hb1 hwo
  generalize (w.alloc (.cells #[.float .f64 9221120237041090561, .float .f64 18442240474082181120, .float .f64 13830554455654793216, .float .f64 9223372036854775808, .float .f64 0, .float .f64 4607182418800017408, .float .f64 9218868437227405312] 22)) = w7 at hci hcj hb1 hwo ⊢
  have hi7 : near % 7 < 7 := Nat.mod_lt _ (by decide)
  have hj7 : near / 7 % 7 < 7 := Nat.mod_lt _ (by decide)
  generalize near % 7 = i at *
  generalize near / 7 % 7 = j at *
  have hsl := seven_less i j hi7 hj7
  have hx := Lib.hid (seven_lt i hi7)
  have hy := Lib.hid (seven_lt j hj7)
  generalize seven.getD i 0 = x at *
  generalize seven.getD j 0 = y at *
  have HB1 := Lib.hid hb1
  clear hb1 hw7 hwo
  unfold F at hci hcj
  have hii : (i : Int) < 7 := by omega
  have hjj : (j : Int) < 7 := by omega
  obtain ⟨β, hβ⟩ : ∃ β, decide (i < j) = β := ⟨_, rfl⟩
  have hg : decide ((i : Int) < (j : Int)) = β := by rw [← hβ, decide_eq_decide]; omega
  have hsl' := Lib.hid (hsl.trans hβ)
  clear hsl
  go_quiet ((with_reducible exact quiet_left (less_is x y β hsl'.out _ hx.out hy.out)))
  go_wp2_with fail
  refine (less_is a b true L1.out _ HA.out HB.out).mono ?_
  rintro e w2 ⟨rfl, rfl⟩
  go_wp2_with fail
  refine (less_is b a false L2.out _ HB.out HA.out).mono ?_
  rintro e w2 ⟨rfl, rfl⟩
  go_wp2_with fail
  refine (awake_any _ (HT.out.old (below_drewN' HB1.out nq))).mono ?_
  rintro e w2 ⟨rfl, hb⟩
  have HB2 := Lib.hid ((below_drewN' HB1.out nq).trans (hb.mono (below_drewN' HB1.out nq).size))
  clear hb
  go_wp2_with fail
  refine (less_is a b true L1.out _ HA.out HB.out).mono ?_
  rintro e w3 ⟨rfl, rfl⟩
  go_wp2_with fail
  refine (less_is b c true L3.out _ HB.out HC.out).mono ?_
  rintro e w3 ⟨rfl, rfl⟩
  go_wp2_with fail
  refine (less_is a c true L4.out _ HA.out HC.out).mono ?_
  rintro e w3 ⟨rfl, rfl⟩
  go_wp2
  go_ret
  exact ⟨rfl, HB2.out⟩

set_option maxRecDepth 20000 in
set_option maxHeartbeats 2000000 in
theorem walk_g (a b c near : Nat) (w : World) (hT : Tab w) (ha : a < 18446744073709551616) (hb : b < 18446744073709551616) (hc : c < 18446744073709551616) (hn : near ≤ 255) (s1 : (FloatKind.f64.format.order a a != some .eq) = false) (s2 : (FloatKind.f64.format.order b b != some .eq) = false) (hab : ((a : Int) == (b : Int)) = false) (l1 : lessW a b = false) (l2 : lessW b a = true) :
    Calls Tryd.prog 5 #[.int .u64 a, .int .u64 b, .int .u64 c, .int .u8 near] w fun e w' => e = .returned (.bool true) ∧ Below w.heap.size w w' := by
  have HT := Lib.hid hT
  have hrb := run_bits
  have L1 := Lib.hid l1
  have L2 := Lib.hid l2
  clear l1 l2
  have HA := Lib.hid ha
  have HB := Lib.hid hb
  have HC := Lib.hid hc
  have hrf := run_frombits
  have hci := seven_cell w (near % 7) (by omega)
  have hcj := seven_cell w (near / 7 % 7) (by omega)
  clear hT ha hb hc
  go_enter Tryd.func5, Tryd.ntmps5
  go_wp2_with fail
  refine (nan_any _).mono ?_
  rintro e w1 ⟨rfl, rfl⟩
  go_wp2_with fail
  refine (inf_neg _).mono ?_
  rintro e w1 ⟨rfl, rfl⟩
  go_wp2_with fail
  refine (copysign_neg _).mono ?_
  rintro e w1 ⟨rfl, rfl⟩
  go_wp2_with fail
  refine (inf_pos _).mono ?_
  rintro e w1 ⟨rfl, rfl⟩
  go_wp2_with fail
  rw [show ((near : Int) % 7) = ((near % 7 : Nat) : Int) from by omega, show ((near : Int) / 7 % 7) = ((near / 7 % 7 : Nat) : Int) from by omega]
  have hb1 : Below w.heap.size w (w.alloc (.cells ((seven.map F).toArray) 22)) := (Below.refl _ _).alloc (Nat.le_refl _) _
  have hwo : w.heap.size < (w.alloc (.cells ((seven.map F).toArray) 22)).heap.size := by simp
  have hw7 : (w.alloc (.cells ((seven.map F).toArray) 22)) = (w.alloc (.cells #[.float .f64 9221120237041090561, .float .f64 18442240474082181120, .float .f64 13830554455654793216, .float .f64 9223372036854775808, .float .f64 0, .float .f64 4607182418800017408, .float .f64 9218868437227405312] 22)) := rfl
  rw [hw7] at hci hcj hb1 hwo
  generalize (w.alloc (.cells #[.float .f64 9221120237041090561, .float .f64 18442240474082181120, .float .f64 13830554455654793216, .float .f64 9223372036854775808, .float .f64 0, .float .f64 4607182418800017408, .float .f64 9218868437227405312] 22)) = w7 at hci hcj hb1 hwo ⊢
  have hi7 : near % 7 < 7 := Nat.mod_lt _ (by decide)
  have hj7 : near / 7 % 7 < 7 := Nat.mod_lt _ (by decide)
  generalize near % 7 = i at *
  generalize near / 7 % 7 = j at *
  have hsl := seven_less i j hi7 hj7
  have hx := Lib.hid (seven_lt i hi7)
  have hy := Lib.hid (seven_lt j hj7)
  generalize seven.getD i 0 = x at *
  generalize seven.getD j 0 = y at *
  have HB1 := Lib.hid hb1
  clear hb1 hw7 hwo
  unfold F at hci hcj
  have hii : (i : Int) < 7 := by omega
  have hjj : (j : Int) < 7 := by omega
  obtain ⟨β, hβ⟩ : ∃ β, decide (i < j) = β := ⟨_, rfl⟩
  have hg : decide ((i : Int) < (j : Int)) = β := by rw [← hβ, decide_eq_decide]; omega
  have hsl' := Lib.hid (hsl.trans hβ)
  clear hsl
  go_quiet ((with_reducible exact quiet_left (less_is x y β hsl'.out _ hx.out hy.out)))
  go_wp2_with fail
  refine (less_is a b false L1.out _ HA.out HB.out).mono ?_
  rintro e w2 ⟨rfl, rfl⟩
  go_wp2_with fail
  refine (less_is b a true L2.out _ HB.out HA.out).mono ?_
  rintro e w2 ⟨rfl, rfl⟩
  go_wp2_with fail
  refine (awake_any _ (HT.out.old (below_drewN' HB1.out nq))).mono ?_
  rintro e w2 ⟨rfl, hb⟩
  have HB2 := Lib.hid ((below_drewN' HB1.out nq).trans (hb.mono (below_drewN' HB1.out nq).size))
  clear hb
  go_wp2_with fail
  refine (less_is a b false L1.out _ HA.out HB.out).mono ?_
  rintro e w3 ⟨rfl, rfl⟩
  go_wp2
  go_ret
  exact ⟨rfl, HB2.out⟩

theorem walk (a0 : Int) (a1 : Int) (a2 : Int) (a3 : Int) (w0 : (Lit.int .u64 a0).wf = true) (w1 : (Lit.int .u64 a1).wf = true) (w2 : (Lit.int .u64 a2).wf = true) (w3 : (Lit.int .u8 a3).wf = true) (w : World) (hT : Tab w) :
    Calls Tryd.prog 5 #[.int .u64 a0, .int .u64 a1, .int .u64 a2, .int .u8 a3] w fun e w' => e = .returned (.bool true) ∧ Below w.heap.size w w' := by
  have u64 : ∀ x : Int, (Lit.int .u64 x).wf = true → 0 ≤ x ∧ x < 18446744073709551616 := fun x h => by
    simp [Lit.wf, IntKind.min, IntKind.max, IntKind.bits, IntKind.signed] at h
    omega
  have b0 := u64 _ w0
  have b1 := u64 _ w1
  have b2 := u64 _ w2
  have b3 := bounds_u8 w3
  obtain ⟨a, rfl⟩ := Int.eq_ofNat_of_zero_le b0.1
  obtain ⟨b, rfl⟩ := Int.eq_ofNat_of_zero_le b1.1
  obtain ⟨c, rfl⟩ := Int.eq_ofNat_of_zero_le b2.1
  obtain ⟨n, rfl⟩ := Int.eq_ofNat_of_zero_le b3.1
  have ha : a < 18446744073709551616 := by omega
  have hb : b < 18446744073709551616 := by omega
  have hc : c < 18446744073709551616 := by omega
  have hn : n ≤ 255 := by omega
  have s1 := ord_self a
  have s2 := ord_self b
  have hne : ∀ {x y : Nat}, nanW x ≠ nanW y → ((x : Int) == (y : Int)) = false := fun {x y} h => by
    simp only [beq_eq_false_iff_ne, ne_eq, Int.natCast_inj]
    rintro rfl
    exact h rfl
  cases na : nanW a <;> cases nb : nanW b <;> rw [na] at s1 <;> rw [nb] at s2
  · by_cases hab : a = b
    · subst hab
      have hl : lessW a a = false := by unfold lessW; simp
      exact walk_e a c n w hT ha hc hn s1 hl hl
    · have hab' : ((a : Int) == (b : Int)) = false := by simp only [beq_eq_false_iff_ne, ne_eq, Int.natCast_inj]; exact hab
      have hr : rank a ≠ rank b := fun h => hab (rank_inj ha hb na nb h)
      by_cases hlt : rank a < rank b
      · have l1 : lessW a b = true := decide_eq_true hlt
        have l2 : lessW b a = false := decide_eq_false (by omega)
        cases l3 : lessW b c
        · exact walk_l1 a b c n w hT ha hb hc hn s1 s2 hab' l1 l2 l3
        · have l3' := of_decide_eq_true l3
          exact walk_l2 a b c n w hT ha hb hc hn s1 s2 hab' l1 l2 l3 (decide_eq_true (by omega))
      · exact walk_g a b c n w hT ha hb hc hn s1 s2 hab' (decide_eq_false hlt) (decide_eq_true (by omega))
  · have h1 := lessW_nan a b (.inr nb)
    have h2 := lessW_nan b a (.inl nb)
    rw [nb] at h1
    rw [na] at h2
    exact walk_m a b c n w hT ha hb hc hn s1 s2 (hne (by rw [na, nb]; simp)) h1 h2
  · have h1 := lessW_nan a b (.inl na)
    have h2 := lessW_nan b a (.inr na)
    rw [nb] at h1
    rw [na] at h2
    cases l3 : lessW b c
    · exact walk_n1 a b c n w hT ha hb hc hn s1 s2 (hne (by rw [na, nb]; simp)) h1 h2 l3
    · have l3' := of_decide_eq_true l3
      have l1' := of_decide_eq_true h1
      exact walk_n2 a b c n w hT ha hb hc hn s1 s2 (hne (by rw [na, nb]; simp)) h1 h2 l3 (decide_eq_true (by omega))
  · have h1 := lessW_nan a b (.inl na)
    have h2 := lessW_nan b a (.inl nb)
    rw [nb] at h1
    rw [na] at h2
    exact walk_nn a b c n w hT ha hb hc hn s1 s2 h1 h2

theorem contract (H : Type) (enc : TypeId × Value → H) (W : World) (base : Nat) (args : Array Value) (ds gs : List (DataW H)) (before : List MemPlace)
    (hval : ∀ (j : Nat) t v, Tryd.f5.params[j]? = some t → args[j]? = some v → Value.okWide Tryd.prog W .any base t v)
    (hW : DataW.Whole enc Tryd.prog Tryd.f5.params.toList Rows.gaugeOrdersSpec.vars false W args.toList ds gs before) (hL : laidMetH Tryd.prog Rows.gaugeOrdersRow.laid W) :
    Calls Tryd.prog 5 args W fun e W' => ∃ v, e = .returned v ∧ Rows.gaugeOrdersSpec.post enc Tryd.prog Tryd.f5 false true false false W args v W' := by
  have hW' := hW
  obtain ⟨p, q, hA0, hV, rfl, hfz, hnd⟩ := hW
  have hA : DataW.TrodAll enc Tryd.prog W 0 (fun _ => true) true Tryd.f5.params.toList args.toList ds p := hA0
  rw [Tryd.params5] at hA hval
  obtain ⟨v0, vs0, d0, ds0, p0, q0, hargs, rfl, rfl, h0, r0⟩ := trodAll_cons hA
  obtain ⟨v1, vs1, d1, ds1, p1, q1, rfl, rfl, rfl, h1, r1⟩ := trodAll_cons r0
  obtain ⟨v2, vs2, d2, ds2, p2, q2, rfl, rfl, rfl, h2, r2⟩ := trodAll_cons r1
  obtain ⟨v3, vs3, d3, ds3, p3, q3, rfl, rfl, rfl, h3, r3⟩ := trodAll_cons r2
  obtain ⟨rfl, rfl, rfl⟩ := trodAll_nil r3
  obtain rfl : args = #[v0, v1, v2, v3] := by cases args; simp_all
  obtain ⟨rfl, rfl⟩ := trodVars_none hV
  obtain ⟨a0, rfl, rfl, rfl, w0⟩ := open_int Tryd.underlying26 (hval 0 26 v0 rfl rfl) h0
  obtain ⟨a1, rfl, rfl, rfl, w1⟩ := open_int Tryd.underlying26 (hval 1 26 v1 rfl rfl) h1
  obtain ⟨a2, rfl, rfl, rfl, w2⟩ := open_int Tryd.underlying26 (hval 2 26 v2 rfl rfl) h2
  obtain ⟨a3, rfl, rfl, rfl, w3⟩ := open_int Tryd.underlying5 (hval 3 5 v3 rfl rfl) h3
  clear hA0
  refine (walk a0 a1 a2 a3 w0 w1 w2 w3 W (tab_of hL)).mono fun e W' ⟨he, bel⟩ => ?_
  subst he
  exact ⟨_, rfl, _, _, _, [], _, [], hW', (trodAll_cons_mk (shut_bool Tryd.underlying4 _) trodAll_mk0), (trodAll_cons_mk (shut_int Tryd.underlying26 w0) (trodAll_cons_mk (shut_int Tryd.underlying26 w1) (trodAll_cons_mk (shut_int Tryd.underlying26 w2) (trodAll_cons_mk (shut_int Tryd.underlying5 w3) trodAll_mk0)))), rfl, bel.frame _, fun h => by cases h⟩


noncomputable def laidWorld (os : Os) : World :=
  { World.holding Tryd.prog os ⟨#[], #[], []⟩ with heap := ((((World.holding Tryd.prog os ⟨#[], #[], []⟩).heap.modify 2 (fun o => match o with | .cells _ t frozen => .cells #[.int .u8 0, .int .u8 1, .int .u8 28, .int .u8 2, .int .u8 29, .int .u8 14, .int .u8 24, .int .u8 3, .int .u8 30, .int .u8 22, .int .u8 20, .int .u8 15, .int .u8 25, .int .u8 17, .int .u8 4, .int .u8 8, .int .u8 31, .int .u8 27, .int .u8 13, .int .u8 23, .int .u8 21, .int .u8 19, .int .u8 16, .int .u8 7, .int .u8 26, .int .u8 12, .int .u8 18, .int .u8 6, .int .u8 11, .int .u8 5, .int .u8 10, .int .u8 9] t frozen | o => o)).modify 3 (fun o => match o with | .cells _ t frozen => .cells #[.int .u8 0, .int .u8 1, .int .u8 56, .int .u8 2, .int .u8 57, .int .u8 49, .int .u8 28, .int .u8 3, .int .u8 61, .int .u8 58, .int .u8 42, .int .u8 50, .int .u8 38, .int .u8 29, .int .u8 17, .int .u8 4, .int .u8 62, .int .u8 47, .int .u8 59, .int .u8 36, .int .u8 45, .int .u8 43, .int .u8 51, .int .u8 22, .int .u8 53, .int .u8 39, .int .u8 33, .int .u8 30, .int .u8 24, .int .u8 18, .int .u8 12, .int .u8 5, .int .u8 63, .int .u8 55, .int .u8 48, .int .u8 27, .int .u8 60, .int .u8 41, .int .u8 37, .int .u8 16, .int .u8 46, .int .u8 35, .int .u8 44, .int .u8 21, .int .u8 52, .int .u8 32, .int .u8 23, .int .u8 11, .int .u8 54, .int .u8 26, .int .u8 40, .int .u8 15, .int .u8 34, .int .u8 20, .int .u8 31, .int .u8 10, .int .u8 25, .int .u8 14, .int .u8 19, .int .u8 9, .int .u8 13, .int .u8 8, .int .u8 7, .int .u8 6] t frozen | o => o)).modify 1 (fun o => match o with | .cells _ t frozen => .cells #[.int .u64 1, .int .u64 10, .int .u64 100, .int .u64 1000, .int .u64 10000, .int .u64 100000, .int .u64 1000000, .int .u64 10000000, .int .u64 100000000, .int .u64 1000000000, .int .u64 10000000000, .int .u64 100000000000, .int .u64 1000000000000, .int .u64 10000000000000, .int .u64 100000000000000, .int .u64 1000000000000000, .int .u64 10000000000000000, .int .u64 100000000000000000, .int .u64 1000000000000000000, .int .u64 10000000000000000000] t frozen | o => o)) }
theorem laid_met (os : Os) : laidMet Tryd.prog Rows.gaugeOrdersRow.laid ((laidWorld os).forCall (fun _ _ => 0) ⟨#[], #[.int .u64 0, .int .u64 0, .int .u64 0, .int .u8 0], []⟩).memory :=
  laidMet_of_run' 8 (by kernel_rfl) (by kernel_rfl)
theorem reads (os : Os) {H : Type} (enc : TypeId × Value → H) : ∃ places, DataW.whole enc Tryd.prog ((laidWorld os).forCall (fun _ _ => 0) ⟨#[], #[.int .u64 0, .int .u64 0, .int .u64 0, .int .u8 0], []⟩).memory Tryd.f5.params.toList Rows.gaugeOrdersSpec.vars false (#[.int .u64 0, .int .u64 0, .int .u64 0, .int .u8 0] : Array Value).toList 8 = some ([.lit (.int .u64 0), .lit (.int .u64 0), .lit (.int .u64 0), .lit (.int .u8 0)], [], places) :=
  ⟨[], by kernel_rfl⟩

set_option maxRecDepth 100000 in
theorem lifted (os : Os) (started : os.Started) (H : Type) (enc : TypeId × Value → H) (F : Stop.Interp) :
    ReturnsInHanded {} Tryd.checked os 5 .any ((OpenSpec.ofChange Rows.gaugeOrdersSpec).preRow enc Tryd.prog Tryd.f5 Rows.gaugeOrdersRow.domain false Rows.gaugeOrdersRow.laid) (((OpenSpec.ofChange Rows.gaugeOrdersSpec).at F).post enc Tryd.prog Tryd.f5 false true false false) := by
  obtain ⟨places, hx⟩ := reads os enc
  refine returnsInHanded_of_row (C := Tryd.checked) (s := OpenSpec.ofChange Rows.gaugeOrdersSpec) own started (by kernel_rfl) Tryd.func5
    (witness_row_at (enc := enc) (C := Tryd.checked) false (laidWorld os) #[.int .u64 0, .int .u64 0, .int .u64 0, .int .u8 0] rfl (by kernel_rfl) (by kernel_rfl) (by kernel_rfl)
      (OpenSpec.preRow_of_cond 8 hx (by kernel_rfl) (fun k hk => by cases hk) (by kernel_rfl) (laid_met os))) ?_
  intro W base args ds gs before hval hW _ _ _ hL _ _
  exact contract H enc W base args ds gs before hval hW hL

theorem said : Rows.GaugeOrdersSaid :=
  OpenClaim.holds_of_cond 5 Tryd.f5 rfl rfl rfl rfl rfl rfl rfl ⟨rfl, rfl, rfl, rfl, rfl⟩ rfl rfl rfl rfl rfl (by kernel_rfl) Tryd.func5 (by kernel_rfl)
    (of_decide_eq_true (by kernel_rfl)) (by unfold Func.isWrapper; first | (rw [if_pos (by decide +kernel)]; kernel_rfl) | (rw [if_neg (by decide +kernel)]; exact ⟨rfl, rfl⟩))
    (fun os started H enc _ F => by rw [OpenClaim.pre_eq_preRow]; exact lifted os started H enc F)

theorem plain (f : FuncId) (fn : Func) (hf : Tryd.pinned.checked.prog.funcNamed "weathervane/weathervanelaw04.GaugeOrders" = some f) (hfn : Tryd.pinned.checked.prog.funcs[f]? = some fn) :
    false = Tryd.pinned.checked.prog.looks [] ∧ ∀ (j : Nat) t, fn.params[j]? = some t → Tryd.pinned.checked.prog.wantsStandIn t = false := by
  obtain rfl : f = 5 := Option.some.inj ((show Tryd.prog.funcNamed "weathervane/weathervanelaw04.GaugeOrders" = some 5 by kernel_rfl).symm.trans hf) |>.symm
  obtain rfl : fn = Tryd.f5 := (Option.some.inj (Tryd.func5.symm.trans hfn)).symm
  refine ⟨by kernel_rfl, fun j t ht => ?_⟩
  rw [Tryd.params5] at ht
  have ht2 : t = 26 ∨ t = 5 := by simpa using Array.mem_of_getElem? ht
  rcases ht2 with rfl | rfl
  · exact (show Tryd.prog.wantsStandIn 26 = false by kernel_rfl)
  · exact (show Tryd.prog.wantsStandIn 5 = false by kernel_rfl)
end Go.Proofs.YtkjnimmehjccbaaDoor.gaugeOrders
namespace Go.Proofs.YtkjnimmehjccbaaDoor
theorem gaugeOrders_holds : Rows.GaugeOrdersCardSaid :=
  Claim7.holds_tied_plain_at .later [] _ _ _ _ gaugeOrders.said (fun _ h => by cases h) (by kernel_rfl) (fun _ h => by cases h) gaugeOrders_row_tie rfl ⟨rfl, rfl⟩ (by kernel_rfl) rfl gaugeOrders.plain (by kernel_rfl)
#print axioms gaugeOrders_holds
end Go.Proofs.YtkjnimmehjccbaaDoor
