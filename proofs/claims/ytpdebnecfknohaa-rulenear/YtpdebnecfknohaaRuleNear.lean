/-
  RuleNear: for every draft, every change, every number and every reference the law returns true and leaves its arguments as they were: of a module that Make makes, one thing of which is another one, rule.Tree and rule.Check tell the first rule that it breaks, and where, as the reference does. Conditions: none.
-/
import Derived.Test.YtpdebnecfknohaaRows
import Derived.WalkKit
import Derived.ProofKit
import Derived.OpenShut
import Derived.Below
import Derived.ChangeOld
import Derived.ShutString
import Derived.SliceStrings
import Derived.Test.YtpdebnecfknohaaNeA
import Derived.Test.YtpdebnecfknohaaNeC
import Derived.Test.YtpdebnecfknohaaNz
import Derived.Test.YtpdebnecfknohaaNeB
import Derived.Test.YtpdebnecfknohaaRn00
import Derived.Test.YtpdebnecfknohaaRn01
import Derived.Test.YtpdebnecfknohaaRn02
import Derived.Test.YtpdebnecfknohaaRn03
import Derived.Test.YtpdebnecfknohaaRn04
import Derived.Test.YtpdebnecfknohaaRn05
import Derived.Test.YtpdebnecfknohaaRn06
import Derived.Test.YtpdebnecfknohaaRn07
import Derived.Test.YtpdebnecfknohaaRn08
import Derived.Test.YtpdebnecfknohaaRn09
import Derived.Test.YtpdebnecfknohaaRn10
import Derived.Test.YtpdebnecfknohaaRn11
import Derived.Test.YtpdebnecfknohaaRn12
import Derived.Test.YtpdebnecfknohaaRn13
import Derived.Test.YtpdebnecfknohaaRn14
namespace Go.Proofs.Ytpdebnecfknohaa.ruleNear
open Go.ChangeShapes Go.WideShapes Go.ChangeAt Go.RowKit
open Go.ChangeMaps (open_string shut_string)
set_option linter.unusedVariables false

theorem own : ownKnob Try.prog.godebug = none := by kernel_rfl
theorem laidOut : laidOutB Try.prog = true := by kernel_rfl
theorem bs_mk (s : ByteArray) : s = bs s.data.toList := by cases s; rfl
theorem cells46 : Try.prog.cellsOf 46 = 2 := by kernel_rfl
theorem cells3' : Try.prog.cellsOf 3 = 1 := by kernel_rfl
theorem cells5' : Try.prog.cellsOf 5 = 1 := by kernel_rfl
set_option maxRecDepth 20000 in
theorem open_ref46 {H : Type} {enc : TypeId × Value → H} {w : World} {base : Nat} {spare : Nat → Bool} {held : Bool} {fuel : Nat} {cs : List Value} {x : DataW H × List MemPlace} (h : DataW.trod enc Try.prog w base spare held fuel 46 cs = some x) :
    ∃ k i : Int, cs = [.int .u8 k, .int .i64 i] ∧ (0 ≤ k ∧ k ≤ 255) ∧ (-9223372036854775808 ≤ i ∧ i ≤ 9223372036854775807) := by
  obtain ⟨xs, n, _, hx, hl, hxl, hg⟩ := DataW.trod_struct Try.underlying46 h
  rw [cells46] at hl
  match xs, hxl, cs, hl with
  | [y0, y1], _, [c0, c1], _ =>
    have g0 : DataW.trod enc Try.prog w base spare held n 5 ((List.drop 0 [c0, c1]).take (Try.prog.cellsOf 5)) = some y0 := hg 0 _ rfl
    have g1 : DataW.trod enc Try.prog w base spare held n 3 ((List.drop 1 [c0, c1]).take (Try.prog.cellsOf 3)) = some y1 := hg 1 _ rfl
    rw [cells5'] at g0
    rw [cells3'] at g1
    obtain ⟨z0, h0, _, w0⟩ := DataW.trod_int Try.underlying5 (g0)
    obtain ⟨z1, h1, _, w1⟩ := DataW.trod_int Try.underlying3 (g1)
    simp at h0 h1
    exact ⟨_, _, by rw [h0, h1], okU8_of_wf w0, okI64_of_wf w1⟩

set_option maxRecDepth 100000 in
theorem lifted (os : Os) (started : os.Started) (H : Type) (enc : TypeId × Value → H) :
    ReturnsInHanded {} Try.checked os 5 .any (Rows.ruleNearSpec.pre6 enc Try.prog Try.f5 Rows.ruleNearRow.domain false) (Rows.ruleNearSpec.post enc Try.prog Try.f5 false true false false) := by
  refine returnsInHanded_of_change (C := Try.checked) own started (by kernel_rfl) Try.func5
    (ChangeSpec.witness6 (enc := enc) (C := Try.checked) false ⟨#[], #[.agg #[.int .u8 0, .int .u8 0, .int .u8 0, .slice none 0 0], .int .u8 0, .int .u8 0, .int .i64 0, .agg #[.int .u8 0, .int .i64 0]], []⟩ 8 (by kernel_rfl) (by kernel_rfl) (by kernel_rfl) (by kernel_rfl)) ?_
  intro W base args ds gs before hval0 hW hcnd _
  have hval : ∀ (j : Nat) t v, Try.f5.params[j]? = some t → args[j]? = some v → Value.okWide Try.prog W .any base t v := hval0
  have hW' := hW
  obtain ⟨p, q, hA0, hV, rfl, hfz, hnd⟩ := hW
  have hA : DataW.TrodAll enc Try.prog W 0 (fun _ => true) true Try.f5.params.toList args.toList ds p := hA0
  rw [Try.params5] at hA hval
  obtain ⟨v0, vs0, d0, ds0, p0, q0, hargs0, rfl, rfl, h0, r0⟩ := trodAll_cons hA
  obtain ⟨v1, vs1, d1, ds1, p1, q1, hargs1, rfl, rfl, h1, r1⟩ := trodAll_cons r0
  obtain ⟨v2, vs2, d2, ds2, p2, q2, hargs2, rfl, rfl, h2, r2⟩ := trodAll_cons r1
  obtain ⟨v3, vs3, d3, ds3, p3, q3, hargs3, rfl, rfl, h3, r3⟩ := trodAll_cons r2
  obtain ⟨v4, vs4, d4, ds4, p4, q4, hargs4, rfl, rfl, h4, r4⟩ := trodAll_cons r3
  obtain ⟨rfl, rfl, rfl⟩ := trodAll_nil r4
  obtain rfl : args = #[v0, v1, v2, v3, v4] := by cases args; simp_all
  obtain ⟨rfl, rfl⟩ := trodVars_none hV
  have k0 := h0
  have lt0 : ∀ x ∈ p0, x.block < W.heap.size := by obtain ⟨m, hm⟩ := k0; exact DataW.trod_lt m _ _ _ hm
  obtain ⟨a1, rfl, rfl, rfl, w1⟩ := open_int Try.underlying5 (hval 1 5 v1 rfl rfl) h1
  obtain ⟨a2, rfl, rfl, rfl, w2⟩ := open_int Try.underlying5 (hval 2 5 v2 rfl rfl) h2
  obtain ⟨a3, rfl, rfl, rfl, w3⟩ := open_int Try.underlying3 (hval 3 3 v3 rfl rfl) h3
  have k4 := h4
  have lt4 : ∀ x ∈ p4, x.block < W.heap.size := by obtain ⟨m, hm⟩ := k4; exact DataW.trod_lt m _ _ _ hm
  obtain ⟨cells0, rfl, hsz0⟩ := okWide_struct Try.underlying24 (hval 0 24 v0 rfl rfl)
  obtain ⟨fuel0, hf0⟩ := h0
  obtain ⟨G0, F0, E0, Aa0, ca0, acts0, hcs0, hG0, hF0, hE0, hAc0, hac0, hal0⟩ := open_draft hf0
  obtain rfl : cells0 = #[.int .u8 (G0 : Int), .int .u8 (F0 : Int), .int .u8 (E0 : Int), .slice Aa0 acts0.length ca0] := by
    cases cells0; simpa [Value.cells] using hcs0
  obtain ⟨n1, rfl, hn1⟩ := u8_nat w1
  obtain ⟨n2, rfl, hn2⟩ := u8_nat w2
  obtain ⟨cells4, rfl, hsz4⟩ := okWide_struct Try.underlying46 (hval 4 46 v4 rfl rfl)
  obtain ⟨fuel4, hf4⟩ := h4
  obtain ⟨kk4, ri4, hcs4, hkk4, hri4⟩ := open_ref46 hf4
  obtain rfl : cells4 = #[.int .u8 kk4, .int .i64 ri4] := by
    cases cells4; simpa [Value.cells] using hcs4
  clear hA0 hval0
  refine (near_walk G0 F0 E0 Aa0 acts0.length ca0 n1 n2 a3 kk4 ri4 acts0 W hG0 hF0 hE0 hn1 hn2 (okI64_of_wf w3) hkk4 hri4 rfl hal0 hAc0 hac0).mono fun e W' ⟨he, bel⟩ => ?_
  subst he
  exact ⟨_, rfl, _, _, _, [], _, [], hW', (trodAll_cons_mk (shut_bool Try.underlying4 _) trodAll_mk0), (trodAll_cons_mk (Below.trod laidOut (by kernel_rfl) (of_decide_eq_true (by kernel_rfl)) k0 bel lt0) (trodAll_cons_mk (shut_int Try.underlying5 w1) (trodAll_cons_mk (shut_int Try.underlying5 w2) (trodAll_cons_mk (shut_int Try.underlying3 w3) (trodAll_cons_mk (Below.trod laidOut (by kernel_rfl) (of_decide_eq_true (by kernel_rfl)) k4 bel lt4) trodAll_mk0))))), rfl, bel.frame _, fun h => by cases h⟩

theorem over : Rows.ruleNearRow.holds Try.pinned (OpenSpec.ofChange Rows.ruleNearSpec) :=
  OpenClaim.holds_of_wide 5 Try.f5 rfl rfl rfl rfl rfl rfl rfl ⟨rfl, rfl, rfl, rfl, rfl⟩ rfl rfl rfl rfl rfl (by kernel_rfl) Try.func5 (by kernel_rfl)
    (of_decide_eq_true (by kernel_rfl)) (by unfold Func.isWrapper; first | (rw [if_pos (by decide +kernel)]; kernel_rfl) | (rw [if_neg (by decide +kernel)]; exact ⟨rfl, rfl⟩))
    (fun os started H enc _ => lifted os started H enc)

theorem proved : Rows.RuleNearSaid :=
  over
end Go.Proofs.Ytpdebnecfknohaa.ruleNear
namespace Go.Proofs.Ytpdebnecfknohaa
theorem ruleNear_holds : Rows.RuleNearSaid := ruleNear.proved
#print axioms ruleNear_holds
end Go.Proofs.Ytpdebnecfknohaa
