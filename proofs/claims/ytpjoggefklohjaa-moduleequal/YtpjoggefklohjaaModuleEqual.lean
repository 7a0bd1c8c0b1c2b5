/-
  ModuleEqual: for every two drafts and every uint8 the law returns true and leaves its arguments as they were: two modules are one just if all of them is, for module.Equal, module.SameBody and the reference alike. Conditions: none.
-/
import Derived.Test.YtpjoggefklohjaaRows
import Derived.WalkKit
import Derived.Test.YtpjoggefklohjaaQz
import Derived.Test.YtpjoggefklohjaaOb
import Derived.ProofKit
import Derived.OpenShut
import Derived.Below
import Derived.ChangeOld
import Derived.ShutString
namespace Go.Proofs.Ytpjoggefklohjaa.moduleEqual
open Go.ChangeShapes Go.WideShapes Go.ChangeAt Go.RowKit
open Go.ChangeMaps (open_string shut_string)
set_option linter.unusedVariables false

theorem own : ownKnob Try.prog.godebug = none := by kernel_rfl
theorem laidOut : laidOutB Try.prog = true := by kernel_rfl

set_option maxRecDepth 100000 in
theorem lifted (os : Os) (started : os.Started) (H : Type) (enc : TypeId × Value → H) :
    ReturnsInHanded {} Try.checked os 5 .any (Rows.moduleEqualSpec.pre6 enc Try.prog Try.f5 Rows.moduleEqualRow.domain false) (Rows.moduleEqualSpec.post enc Try.prog Try.f5 false true false false) := by
  refine returnsInHanded_of_change (C := Try.checked) own started (by kernel_rfl) Try.func5
    (ChangeSpec.witness6 (enc := enc) (C := Try.checked) false ⟨#[], #[.agg #[.int .u8 0, .int .u8 0, .int .u8 0, .slice none 0 0], .agg #[.int .u8 0, .int .u8 0, .int .u8 0, .slice none 0 0], .int .u8 0], []⟩ 8 (by kernel_rfl) (by kernel_rfl) (by kernel_rfl) (by kernel_rfl)) ?_
  intro W base args ds gs before hval0 hW hcnd _
  have hval : ∀ (j : Nat) t v, Try.f5.params[j]? = some t → args[j]? = some v → Value.okWide Try.prog W .any base t v := hval0
  have hW' := hW
  obtain ⟨p, q, hA0, hV, rfl, hfz, hnd⟩ := hW
  have hA : DataW.TrodAll enc Try.prog W 0 (fun _ => true) true Try.f5.params.toList args.toList ds p := hA0
  rw [Try.params5] at hA hval
  obtain ⟨v0, vs0, d0, ds0, p0, q0, hargs, rfl, rfl, h0, r0⟩ := trodAll_cons hA
  obtain ⟨v1, vs1, d1, ds1, p1, q1, hargs1, rfl, rfl, h1, r1⟩ := trodAll_cons r0
  obtain ⟨v2, vs2, d2, ds2, p2, q2, hargs2, rfl, rfl, h2, r2⟩ := trodAll_cons r1
  obtain ⟨rfl, rfl, rfl⟩ := trodAll_nil r2
  obtain rfl : args = #[v0, v1, v2] := by cases args; simp_all
  obtain ⟨rfl, rfl⟩ := trodVars_none hV
  obtain ⟨a2, rfl, rfl, rfl, w2⟩ := open_int Try.underlying5 (hval 2 5 v2 rfl rfl) h2
  have k0 := h0
  have k1 := h1
  have lt0 : ∀ x ∈ p0, x.block < W.heap.size := by obtain ⟨m, hm⟩ := k0; exact DataW.trod_lt m _ _ _ hm
  have lt1 : ∀ x ∈ p1, x.block < W.heap.size := by obtain ⟨m, hm⟩ := k1; exact DataW.trod_lt m _ _ _ hm
  obtain ⟨cells, rfl, hsz⟩ := okWide_struct Try.underlying25 (hval 0 25 v0 rfl rfl)
  obtain ⟨cells1, rfl, hsz1⟩ := okWide_struct Try.underlying25 (hval 1 25 v1 rfl rfl)
  obtain ⟨fuel, hf⟩ := h0
  obtain ⟨G, F, E, Aa, ca, acts, hcs, hG, hF, hE, hAc, hac, hal⟩ := open_draft hf
  obtain rfl : cells = #[.int .u8 (G : Int), .int .u8 (F : Int), .int .u8 (E : Int), .slice Aa acts.length ca] := by
    cases cells; simpa [Value.cells] using hcs
  obtain ⟨fuel1, hf1⟩ := h1
  obtain ⟨G', F', E', Ab, cb, acts', hcs1, hG', hF', hE', hAc', hac', hal'⟩ := open_draft hf1
  obtain rfl : cells1 = #[.int .u8 (G' : Int), .int .u8 (F' : Int), .int .u8 (E' : Int), .slice Ab acts'.length cb] := by
    cases cells1; simpa [Value.cells] using hcs1
  obtain ⟨n2, rfl, hn2⟩ := u8_nat w2
  clear hA0 hval0
  refine (equal_walk G F E G' F' E' n2 Aa Ab acts.length ca acts'.length cb acts acts' W hG hF hE hG' hF' hE' hn2 rfl rfl hal hal' hAc hAc' hac hac').mono fun e W' ⟨he, bel⟩ => ?_
  subst he
  exact ⟨_, rfl, _, _, _, [], _, [], hW', (trodAll_cons_mk (shut_bool Try.underlying4 _) trodAll_mk0), (trodAll_cons_mk (Below.trod laidOut (by kernel_rfl) (of_decide_eq_true (by kernel_rfl)) k0 bel lt0) (trodAll_cons_mk (Below.trod laidOut (by kernel_rfl) (of_decide_eq_true (by kernel_rfl)) k1 bel lt1) (trodAll_cons_mk (shut_int Try.underlying5 w2) trodAll_mk0))), rfl, bel.frame _, fun h => by cases h⟩

theorem over : Rows.moduleEqualRow.holds Try.pinned (OpenSpec.ofChange Rows.moduleEqualSpec) :=
  OpenClaim.holds_of_wide 5 Try.f5 rfl rfl rfl rfl rfl rfl rfl ⟨rfl, rfl, rfl, rfl, rfl⟩ rfl rfl rfl rfl rfl (by kernel_rfl) Try.func5 (by kernel_rfl)
    (of_decide_eq_true (by kernel_rfl)) (by unfold Func.isWrapper; first | (rw [if_pos (by decide +kernel)]; kernel_rfl) | (rw [if_neg (by decide +kernel)]; exact ⟨rfl, rfl⟩))
    (fun os started H enc _ => lifted os started H enc)

theorem proved : Rows.ModuleEqualSaid :=
  over
end Go.Proofs.Ytpjoggefklohjaa.moduleEqual
namespace Go.Proofs.Ytpjoggefklohjaa
theorem moduleEqual_holds : Rows.ModuleEqualSaid := moduleEqual.proved
#print axioms moduleEqual_holds
end Go.Proofs.Ytpjoggefklohjaa
