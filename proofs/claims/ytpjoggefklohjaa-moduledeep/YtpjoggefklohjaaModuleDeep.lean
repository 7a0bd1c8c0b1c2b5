/-
  ModuleDeep: for every uint16 the law returns true and leaves its argument as it was: of blocks in one another Count counts those that stand in at most a thousand. Conditions: none.
-/
import Derived.Test.YtpjoggefklohjaaRows
import Derived.WalkKit
import Derived.Test.YtpjoggefklohjaaBd
import Derived.ProofKit
import Derived.OpenShut
import Derived.Below
import Derived.ChangeOld
import Derived.ShutString
namespace Go.Proofs.Ytpjoggefklohjaa.moduleDeep
open Go.ChangeShapes Go.WideShapes Go.ChangeAt Go.RowKit
open Go.ChangeMaps (open_string shut_string)
set_option linter.unusedVariables false      -- a walk need not use every 'w<i>' (that an integer argument fits its kind)

theorem own : ownKnob Try.prog.godebug = none := by kernel_rfl

theorem u16_of_wf {x : Int} (h : (Lit.int .u16 x).wf = true) : 0 ≤ x ∧ x ≤ 65535 := by
  simpa [Lit.wf, IntKind.min, IntKind.max, IntKind.bits, IntKind.signed] using h
/-- Blocks in one another. -/
def nest : Nat → Bd
  | 0 => Bd.one 2 .nil
  | n + 1 => Bd.one 7 (nest n)
theorem nest_len (n : Nat) : (nest n).len = 1 := by cases n <;> rfl
theorem nest_size (n : Nat) : (nest n).size = n + 1 := by
  induction n with
  | zero => rfl
  | succ n ih => show (nest n).size + Bd.nil.size + 1 = _; rw [ih]; rfl
theorem nest_cnt (n : Nat) : ∀ d, d ≤ 1000 → (nest n).cnt d = min n (1000 - d) + 1 := by
  induction n with
  | zero => intro d _; show 1 + (if (2 : Int) = 7 ∧ d < 1000 then _ else 0) + 0 = _; rw [if_neg (by omega)]; omega
  | succ n ih =>
    intro d hd
    show 1 + (if (7 : Int) = 7 ∧ d < 1000 then (nest n).cnt (d + 1) else 0) + 0 = _
    by_cases h : d < 1000
    · rw [if_pos ⟨rfl, h⟩, ih (d + 1) (by omega)]; omega
    · rw [if_neg (fun e => h e.2)]; omega

set_option maxRecDepth 20000 in
set_option maxHeartbeats 1000000 in
theorem walk (a0 : Int) (w0 : (Lit.int .u16 a0).wf = true) (w : World) :
    Calls Try.prog 4 #[.int .u16 a0] w fun e w' => e = .returned (.bool true) ∧ Below w.heap.size w w' := by
  have hr := u16_of_wf w0
  obtain ⟨n, rfl⟩ : ∃ n : Nat, a0 = n := ⟨a0.toNat, by omega⟩
  clear w0
  have hk : ((n : Int).tmod 1200) = ((n % 1200 : Nat) : Int) := by rw [Int.tmod_eq_emod_of_nonneg (by omega)]; omega
  have hkl : n % 1200 < 1200 := Nat.mod_lt _ (by decide)
  generalize n % 1200 = k at *
  go_enter Try.func4, Try.ntmps4
  go_wp2_with fail
  refine (awake_any _).mono ?_
  rintro e w1 ⟨rfl, hb⟩
  have HB := Lib.hid hb
  clear hb
  have HV : Hid (BodyV _ _ (nest 0)) := body_one w1 2 none 0 .nil (BodyV.nil _ _)
  go_wp2_with fail
  go_loopw [4, 5] (fun s4 s5 wr => ∃ (i b : Nat), i ≤ k ∧ s5 = .int .i64 i ∧ s4 = .slice (some ⟨b, 0, none⟩) 1 1 ∧ Hid (BodyV wr (some ⟨b, 0, none⟩) (nest i)) ∧ Hid (Below w.heap.size w wr)) (fun _ s5 _ => k - (intOf s5).toNat)
  case atStart => exact ⟨0, _, Nat.zero_le _, rfl, rfl, HV, HB.out.alloc HB.out.size _⟩
  case round =>
    obtain ⟨i, b, hi, rfl, rfl, hV, hB⟩ := hrel
    by_cases hlt : i < k
    · have HV2 := Lib.hid (body_one wr 7 _ 1 _ hV.out)
      go_wp2
      go_roundw
      case rel =>
        refine ⟨i + 1, _, by omega, by go_num, rfl, ?_, hB.out.alloc hB.out.size _⟩
        have h := HV2.out
        rw [nest_len] at h
        exact h
      case measure => simp [intOf]; omega
    · obtain rfl : i = k := by omega
      have hC := count_any _ 1 _ _ hV.out (by rw [nest_size]; omega)
      rw [nest_cnt i 0 (by omega), nest_len] at hC
      have HC := Lib.hid hC
      clear hC
      go_wp2_with fail
      refine HC.out.mono ?_
      rintro e w2 ⟨rfl, hB2⟩
      have HB2 := Lib.hid (hB.out.trans (hB2.mono hB.out.size))
      clear hB2
      have hmin : ((min i (1000 - 0) + 1 : Nat) : Int) = if (i : Int) + 1 ≤ 1001 then (i : Int) + 1 else 1001 := by split <;> omega
      by_cases hle : (i : Int) + 1 ≤ 1001
      · rw [if_pos hle] at hmin
        go_wp2
        go_ret
        exact ⟨by simp, HB2.out⟩
      · rw [if_neg hle] at hmin
        go_wp2
        go_ret
        exact ⟨by simp, HB2.out⟩

set_option maxRecDepth 100000 in
theorem lifted (os : Os) (started : os.Started) (H : Type) (enc : TypeId × Value → H) :
    ReturnsInHanded {} Try.checked os 4 .any (Rows.moduleDeepSpec.pre6 enc Try.prog Try.f4 Rows.moduleDeepRow.domain false) (Rows.moduleDeepSpec.post enc Try.prog Try.f4 false true false false) := by
  refine returnsInHanded_of_change (C := Try.checked) own started (by kernel_rfl) Try.func4
    (ChangeSpec.witness6 (enc := enc) (C := Try.checked) false ⟨#[], #[.int .u16 0], []⟩ 8 (by kernel_rfl) (by kernel_rfl) (by kernel_rfl) (by kernel_rfl)) ?_
  intro W base args ds gs before hval0 hW hcnd _
  have hval : ∀ (j : Nat) t v, Try.f4.params[j]? = some t → args[j]? = some v → Value.okWide Try.prog W .any base t v := hval0
  have hW' := hW
  obtain ⟨p, q, hA0, hV, rfl, hfz, hnd⟩ := hW
  have hA : DataW.TrodAll enc Try.prog W 0 (fun _ => true) true Try.f4.params.toList args.toList ds p := hA0
  rw [Try.params4] at hA hval
  obtain ⟨v0, vs0, d0, ds0, p0, q0, hargs, rfl, rfl, h0, r0⟩ := trodAll_cons hA
  obtain ⟨rfl, rfl, rfl⟩ := trodAll_nil r0
  obtain rfl : args = #[v0] := by cases args; simp_all
  obtain ⟨rfl, rfl⟩ := trodVars_none hV
  obtain ⟨a0, rfl, rfl, rfl, w0⟩ := open_int Try.underlying52 (hval 0 52 v0 rfl rfl) h0
  clear hA0 hval0
  refine (walk a0 w0 W).mono fun e W' ⟨he, bel⟩ => ?_
  subst he
  exact ⟨_, rfl, _, _, _, [], _, [], hW', (trodAll_cons_mk (shut_bool Try.underlying4 _) trodAll_mk0), (trodAll_cons_mk (shut_int Try.underlying52 w0) trodAll_mk0), rfl, bel.frame _, fun h => by cases h⟩

theorem over : Rows.moduleDeepRow.holds Try.pinned (OpenSpec.ofChange Rows.moduleDeepSpec) :=
  OpenClaim.holds_of_wide 4 Try.f4 rfl rfl rfl rfl rfl rfl rfl ⟨rfl, rfl, rfl, rfl, rfl⟩ rfl rfl rfl rfl rfl (by kernel_rfl) Try.func4 (by kernel_rfl)
    (of_decide_eq_true (by kernel_rfl)) (by unfold Func.isWrapper; first | (rw [if_pos (by decide +kernel)]; kernel_rfl) | (rw [if_neg (by decide +kernel)]; exact ⟨rfl, rfl⟩))
    (fun os started H enc _ => lifted os started H enc)

theorem proved : Rows.ModuleDeepSaid :=
  over
end Go.Proofs.Ytpjoggefklohjaa.moduleDeep
namespace Go.Proofs.Ytpjoggefklohjaa
theorem moduleDeep_holds : Rows.ModuleDeepSaid := moduleDeep.proved
#print axioms moduleDeep_holds
end Go.Proofs.Ytpjoggefklohjaa
