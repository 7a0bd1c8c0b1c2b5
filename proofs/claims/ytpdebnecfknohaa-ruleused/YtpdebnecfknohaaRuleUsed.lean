/-
  RuleUsed: for every draft and every reference the law returns true and leaves its arguments as they were: the numbers of the strings that are used, in order; which references are variables. Conditions: none.
-/
import Derived.Test.YtpdebnecfknohaaRows
import Derived.WalkKit
import Derived.Test.YtpdebnecfknohaaUa
import Derived.Test.YtpdebnecfknohaaOb
import Derived.ProofKit
import Derived.OpenShut
import Derived.Below
import Derived.ChangeOld
import Derived.ShutString
namespace Go.Proofs.Ytpdebnecfknohaa.ruleUsed
open Go.ChangeShapes Go.WideShapes Go.ChangeAt Go.RowKit
open Go.ChangeMaps (open_string shut_string)
set_option linter.unusedVariables false

theorem cells46 : Try.prog.cellsOf 46 = 2 := by kernel_rfl
theorem cells3' : Try.prog.cellsOf 3 = 1 := by kernel_rfl
theorem cells5' : Try.prog.cellsOf 5 = 1 := by kernel_rfl
set_option maxRecDepth 20000 in
theorem open_ref46 {H : Type} {enc : TypeId × Value → H} {w : World} {base : Nat} {spare : Nat → Bool} {held : Bool} {fuel : Nat} {cs : List Value} {x : DataW H × List MemPlace} (h : DataW.trod enc Try.prog w base spare held fuel 46 cs = some x) :
    ∃ k i : Int, cs = [.int .u8 k, .int .i64 i] := by
  obtain ⟨xs, n, _, hx, hl, hxl, hg⟩ := DataW.trod_struct Try.underlying46 h
  rw [cells46] at hl
  match xs, hxl, cs, hl with
  | [y0, y1], _, [c0, c1], _ =>
    have g0 : DataW.trod enc Try.prog w base spare held n 5 ((List.drop 0 [c0, c1]).take (Try.prog.cellsOf 5)) = some y0 := hg 0 _ rfl
    have g1 : DataW.trod enc Try.prog w base spare held n 3 ((List.drop 1 [c0, c1]).take (Try.prog.cellsOf 3)) = some y1 := hg 1 _ rfl
    rw [cells5'] at g0
    rw [cells3'] at g1
    obtain ⟨z0, h0, _, w0⟩ := DataW.trod_int Try.underlying5 (g0)
    obtain ⟨z1, h1, _, w1⟩ := DataW.trod_int Try.underlying3 (g1)
    simp at h0 h1
    exact ⟨_, _, by rw [h0, h1]⟩
theorem own : ownKnob Try.prog.godebug = none := by kernel_rfl
theorem laidOut : laidOutB Try.prog = true := by kernel_rfl

set_option maxRecDepth 100000 in
theorem lifted (os : Os) (started : os.Started) (H : Type) (enc : TypeId × Value → H) :
    ReturnsInHanded {} Try.checked os 7 .any (Rows.ruleUsedSpec.pre6 enc Try.prog Try.f7 Rows.ruleUsedRow.domain false) (Rows.ruleUsedSpec.post enc Try.prog Try.f7 false true false false) := by
  refine returnsInHanded_of_change (C := Try.checked) own started (by kernel_rfl) Try.func7
    (ChangeSpec.witness6 (enc := enc) (C := Try.checked) false ⟨#[], #[.agg #[.int .u8 0, .int .u8 0, .int .u8 0, .slice none 0 0], .agg #[.int .u8 0, .int .i64 0]], []⟩ 8 (by kernel_rfl) (by kernel_rfl) (by kernel_rfl) (by kernel_rfl)) ?_
  intro W base args ds gs before hval0 hW hcnd _
  have hval : ∀ (j : Nat) t v, Try.f7.params[j]? = some t → args[j]? = some v → Value.okWide Try.prog W .any base t v := hval0
  have hW' := hW
  obtain ⟨p, q, hA0, hV, rfl, hfz, hnd⟩ := hW
  have hA : DataW.TrodAll enc Try.prog W 0 (fun _ => true) true Try.f7.params.toList args.toList ds p := hA0
  rw [Try.params7] at hA hval
  obtain ⟨v0, vs0, d0, ds0, p0, q0, hargs, rfl, rfl, h0, r0⟩ := trodAll_cons hA
  obtain ⟨v1, vs1, d1, ds1, p1, q1, hargs1, rfl, rfl, h1, r1⟩ := trodAll_cons r0
  obtain ⟨rfl, rfl, rfl⟩ := trodAll_nil r1
  obtain rfl : args = #[v0, v1] := by cases args; simp_all
  obtain ⟨rfl, rfl⟩ := trodVars_none hV
  have k0 := h0
  have k1 := h1
  have lt0 : ∀ x ∈ p0, x.block < W.heap.size := by obtain ⟨m, hm⟩ := k0; exact DataW.trod_lt m _ _ _ hm
  have lt1 : ∀ x ∈ p1, x.block < W.heap.size := by obtain ⟨m, hm⟩ := k1; exact DataW.trod_lt m _ _ _ hm
  obtain ⟨cells, rfl, hsz⟩ := okWide_struct Try.underlying24 (hval 0 24 v0 rfl rfl)
  obtain ⟨cells1, rfl, hsz1⟩ := okWide_struct Try.underlying46 (hval 1 46 v1 rfl rfl)
  obtain ⟨fuel, hf⟩ := h0
  obtain ⟨G, F, E, Aa, ca, acts, hcs, hG, hF, hE, hAc, hac, hal⟩ := open_draft hf
  obtain rfl : cells = #[.int .u8 (G : Int), .int .u8 (F : Int), .int .u8 (E : Int), .slice Aa acts.length ca] := by
    cases cells; simpa [Value.cells] using hcs
  obtain ⟨fuel1, hf1⟩ := h1
  obtain ⟨kk, ri, hcs1⟩ := open_ref46 hf1
  obtain rfl : cells1 = #[.int .u8 kk, .int .i64 ri] := by
    cases cells1; simpa [Value.cells] using hcs1
  clear hA0 hval0
  refine (usedlaw_walk G F E kk ri Aa acts.length ca acts W hG hF hE rfl hal hAc hac).mono fun e W' ⟨he, bel⟩ => ?_
  subst he
  exact ⟨_, rfl, _, _, _, [], _, [], hW', (trodAll_cons_mk (shut_bool Try.underlying4 _) trodAll_mk0), (trodAll_cons_mk (Below.trod laidOut (by kernel_rfl) (of_decide_eq_true (by kernel_rfl)) k0 bel lt0) (trodAll_cons_mk (Below.trod laidOut (by kernel_rfl) (of_decide_eq_true (by kernel_rfl)) k1 bel lt1) trodAll_mk0)), rfl, bel.frame _, fun h => by cases h⟩

theorem over : Rows.ruleUsedRow.holds Try.pinned (OpenSpec.ofChange Rows.ruleUsedSpec) :=
  OpenClaim.holds_of_wide 7 Try.f7 rfl rfl rfl rfl rfl rfl rfl ⟨rfl, rfl, rfl, rfl, rfl⟩ rfl rfl rfl rfl rfl (by kernel_rfl) Try.func7 (by kernel_rfl)
    (of_decide_eq_true (by kernel_rfl)) (by unfold Func.isWrapper; first | (rw [if_pos (by decide +kernel)]; kernel_rfl) | (rw [if_neg (by decide +kernel)]; exact ⟨rfl, rfl⟩))
    (fun os started H enc _ => lifted os started H enc)

theorem proved : Rows.RuleUsedSaid :=
  over
end Go.Proofs.Ytpdebnecfknohaa.ruleUsed
namespace Go.Proofs.Ytpdebnecfknohaa
theorem ruleUsed_holds : Rows.RuleUsedSaid := ruleUsed.proved
#print axioms ruleUsed_holds
end Go.Proofs.Ytpdebnecfknohaa
