/-
  CoilSizes: for every uint8 the law returns true and leaves its argument as it was: the length of a number's bytes grows by one at each power of 128. Conditions: none.
-/
import Derived.Test.YtcafanekckkdoaaRows
import Derived.WalkKit
import Derived.Test.YtcafanekckkdoaaSize
import Derived.ProofKit
import Derived.OpenShut
import Derived.Below
import Derived.ChangeOld
import Derived.ShutString
namespace Go.Proofs.Ytcafanekckkdoaa.coilSizes
open Go.ChangeShapes Go.WideShapes Go.ChangeAt Go.RowKit
open Go.ChangeMaps (open_string shut_string)
set_option linter.unusedVariables false      -- a walk need not use every 'w<i>' (that an integer argument fits its kind)

theorem own : ownKnob Try.prog.godebug = none := by kernel_rfl

set_option maxHeartbeats 4000000 in
theorem walk (a0 : Int) (w0 : (Lit.int .u8 a0).wf = true) (w : World) :
    Calls Try.prog 8 #[.int .u8 a0] w fun e w' => e = .returned (.bool true) ∧ Below w.heap.size w w' := by
  have hb := bounds_u8 w0
  have hj : a0 % 9 = 0 ∨ a0 % 9 = 1 ∨ a0 % 9 = 2 ∨ a0 % 9 = 3 ∨ a0 % 9 = 4 ∨ a0 % 9 = 5 ∨ a0 % 9 = 6 ∨ a0 % 9 = 7 ∨ a0 % 9 = 8 := by omega
  clear w0
  have h0 : 0 ≤ a0 := by omega
  have s0 : sizeN 127 = 1 := by decide +kernel
  have t0 : sizeN 128 = 2 := by decide +kernel
  have s1 : sizeN 16383 = 2 := by decide +kernel
  have t1 : sizeN 16384 = 3 := by decide +kernel
  have s2 : sizeN 2097151 = 3 := by decide +kernel
  have t2 : sizeN 2097152 = 4 := by decide +kernel
  have s3 : sizeN 268435455 = 4 := by decide +kernel
  have t3 : sizeN 268435456 = 5 := by decide +kernel
  have s4 : sizeN 34359738367 = 5 := by decide +kernel
  have t4 : sizeN 34359738368 = 6 := by decide +kernel
  have s5 : sizeN 4398046511103 = 6 := by decide +kernel
  have t5 : sizeN 4398046511104 = 7 := by decide +kernel
  have s6 : sizeN 562949953421311 = 7 := by decide +kernel
  have t6 : sizeN 562949953421312 = 8 := by decide +kernel
  have s7 : sizeN 72057594037927935 = 8 := by decide +kernel
  have t7 : sizeN 72057594037927936 = 9 := by decide +kernel
  have s8 : sizeN 9223372036854775807 = 9 := by decide +kernel
  have t8 : sizeN 9223372036854775808 = 10 := by decide +kernel
  have u : sizeN 18446744073709551615 = 10 := by decide +kernel
  have v : sizeN 0 = 1 := by decide +kernel
  rcases hj with hj | hj | hj | hj | hj | hj | hj | hj | hj
  all_goals
    go_enter Try.func8, Try.ntmps8
    go_wp2_with fail
    refine (awake_any _).mono ?_
    rintro e w1 ⟨rfl, hb⟩
    have HB := Lib.hid hb
    clear hb
    go_wp2_with fail
    refine (size_any _ _ (by omega) (by omega)).mono ?_
    rintro e w2 ⟨rfl, rfl⟩
    go_wp2_with fail
    refine (size_any _ _ (by omega) (by omega)).mono ?_
    rintro e w2 ⟨rfl, rfl⟩
    go_wp2_with fail
    refine (size_any _ _ (by omega) (by omega)).mono ?_
    rintro e w2 ⟨rfl, rfl⟩
    go_wp2_with fail
    refine (size_any _ _ (by omega) (by omega)).mono ?_
    rintro e w2 ⟨rfl, rfl⟩
    go_wp2
    go_ret
    exact ⟨rfl, HB⟩

set_option maxRecDepth 100000 in
theorem lifted (os : Os) (started : os.Started) (H : Type) (enc : TypeId × Value → H) :
    ReturnsInHanded {} Try.checked os 8 .any (Rows.coilSizesSpec.pre6 enc Try.prog Try.f8 Rows.coilSizesRow.domain false) (Rows.coilSizesSpec.post enc Try.prog Try.f8 false true false false) := by
  refine returnsInHanded_of_change (C := Try.checked) own started (by kernel_rfl) Try.func8
    (ChangeSpec.witness6 (enc := enc) (C := Try.checked) false ⟨#[], #[.int .u8 0], []⟩ 8 (by kernel_rfl) (by kernel_rfl) (by kernel_rfl) (by kernel_rfl)) ?_
  intro W base args ds gs before hval0 hW hcnd _
  have hval : ∀ (j : Nat) t v, Try.f8.params[j]? = some t → args[j]? = some v → Value.okWide Try.prog W .any base t v := hval0
  have hW' := hW
  obtain ⟨p, q, hA0, hV, rfl, hfz, hnd⟩ := hW
  have hA : DataW.TrodAll enc Try.prog W 0 (fun _ => true) true Try.f8.params.toList args.toList ds p := hA0
  rw [Try.params8] at hA hval
  obtain ⟨v0, vs0, d0, ds0, p0, q0, hargs, rfl, rfl, h0, r0⟩ := trodAll_cons hA
  obtain ⟨rfl, rfl, rfl⟩ := trodAll_nil r0
  obtain rfl : args = #[v0] := by cases args; simp_all
  obtain ⟨rfl, rfl⟩ := trodVars_none hV
  obtain ⟨a0, rfl, rfl, rfl, w0⟩ := open_int Try.underlying5 (hval 0 5 v0 rfl rfl) h0
  clear hA0 hval0
  refine (walk a0 w0 W).mono fun e W' ⟨he, bel⟩ => ?_
  subst he
  exact ⟨_, rfl, _, _, _, [], _, [], hW', (trodAll_cons_mk (shut_bool Try.underlying4 _) trodAll_mk0), (trodAll_cons_mk (shut_int Try.underlying5 w0) trodAll_mk0), rfl, bel.frame _, fun h => by cases h⟩

theorem over : Rows.coilSizesRow.holds Try.pinned (OpenSpec.ofChange Rows.coilSizesSpec) :=
  OpenClaim.holds_of_wide 8 Try.f8 rfl rfl rfl rfl rfl rfl rfl ⟨rfl, rfl, rfl, rfl, rfl⟩ rfl rfl rfl rfl rfl (by kernel_rfl) Try.func8 (by kernel_rfl)
    (of_decide_eq_true (by kernel_rfl)) (by unfold Func.isWrapper; first | (rw [if_pos (by decide +kernel)]; kernel_rfl) | (rw [if_neg (by decide +kernel)]; exact ⟨rfl, rfl⟩))
    (fun os started H enc _ => lifted os started H enc)

theorem proved : Rows.CoilSizesSaid :=
  over
end Go.Proofs.Ytcafanekckkdoaa.coilSizes
namespace Go.Proofs.Ytcafanekckkdoaa
theorem coilSizes_holds : Rows.CoilSizesSaid := coilSizes.proved
#print axioms coilSizes_holds
end Go.Proofs.Ytcafanekckkdoaa
