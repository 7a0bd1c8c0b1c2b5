/-
  ModuleBlocks: for every statement and every uint8 the law returns true and leaves its arguments as they were: statements in a block, and beside it, are apart, and are counted. Conditions: none.
-/
import Derived.Test.YtpjoggefklohjaaRows
import Derived.WalkKit
import Derived.Test.YtpjoggefklohjaaBw
import Derived.ProofKit
import Derived.OpenShut
import Derived.Below
import Derived.ChangeOld
import Derived.ShutString
namespace Go.Proofs.Ytpjoggefklohjaa.moduleBlocks
open Go.ChangeShapes Go.WideShapes Go.ChangeAt Go.RowKit
open Go.ChangeMaps (open_string shut_string)
set_option linter.unusedVariables false

theorem own : ownKnob Try.prog.godebug = none := by kernel_rfl
theorem laidOut : laidOutB Try.prog = true := by kernel_rfl

theorem walk (k a1 a2 b1 b2 n : Int) (xs : List (Int × Int)) (t : Bd) (Aa As : Option Addr) (ca cs : Nat) (w : World) (hA : ArgsAt w (.slice Aa xs.length ca) xs) (hx : xs.length ≤ 9223372036854775807) (ht : t.len ≤ 9223372036854775807) (hn : 0 ≤ n ∧ n ≤ 255) :
    Calls Try.prog 7 #[.agg #[.int .u8 k, .int .u8 a1, .int .i64 a2, .int .u8 b1, .int .i64 b2, .slice Aa xs.length ca, .slice As t.len cs], .int .u8 n] w fun e w' => e = .returned (.bool true) ∧ Below w.heap.size w w' := by
  by_cases h : 20 < xs.length ∨ 0 < t.len
  · exact blocks_out k a1 a2 b1 b2 n Aa As xs.length ca t.len cs w h hx ht
  · have h0 : t.len = 0 := by omega
    rw [h0]
    exact blocks_in k a1 a2 b1 b2 n xs Aa As ca cs w hA (by omega) hn

set_option maxRecDepth 100000 in
theorem lifted (os : Os) (started : os.Started) (H : Type) (enc : TypeId × Value → H) :
    ReturnsInHanded {} Try.checked os 7 .any (Rows.moduleBlocksSpec.pre6 enc Try.prog Try.f7 Rows.moduleBlocksRow.domain false) (Rows.moduleBlocksSpec.post enc Try.prog Try.f7 false true false false) := by
  refine returnsInHanded_of_change (C := Try.checked) own started (by kernel_rfl) Try.func7
    (ChangeSpec.witness6 (enc := enc) (C := Try.checked) false ⟨#[], #[.agg #[.int .u8 0, .int .u8 0, .int .i64 0, .int .u8 0, .int .i64 0, .slice none 0 0, .slice none 0 0], .int .u8 0], []⟩ 8 (by kernel_rfl) (by kernel_rfl) (by kernel_rfl) (by kernel_rfl)) ?_
  intro W base args ds gs before hval0 hW hcnd _
  have hval : ∀ (j : Nat) t v, Try.f7.params[j]? = some t → args[j]? = some v → Value.okWide Try.prog W .any base t v := hval0
  have hW' := hW
  obtain ⟨p, q, hA0, hV, rfl, hfz, hnd⟩ := hW
  have hA : DataW.TrodAll enc Try.prog W 0 (fun _ => true) true Try.f7.params.toList args.toList ds p := hA0
  rw [Try.params7] at hA hval
  obtain ⟨v0, vs0, d0, ds0, p0, q0, hargs, rfl, rfl, h0, r0⟩ := trodAll_cons hA
  obtain ⟨v1, vs1, d1, ds1, p1, q1, hargs1, rfl, rfl, h1, r1⟩ := trodAll_cons r0
  obtain ⟨rfl, rfl, rfl⟩ := trodAll_nil r1
  obtain rfl : args = #[v0, v1] := by cases args; simp_all
  obtain ⟨rfl, rfl⟩ := trodVars_none hV
  obtain ⟨a1, rfl, rfl, rfl, w1⟩ := open_int Try.underlying5 (hval 1 5 v1 rfl rfl) h1
  have k0 := h0
  have lt0 : ∀ x ∈ p0, x.block < W.heap.size := by obtain ⟨m, hm⟩ := k0; exact DataW.trod_lt m _ _ _ hm
  obtain ⟨cells, rfl, hsz⟩ := okWide_struct Try.underlying46 (hval 0 46 v0 rfl rfl)
  obtain ⟨fuel, hf⟩ := h0
  obtain ⟨z0, z1, z2, z3, z4, xs, t, hs⟩ := open_stmt (fun n _ => open_body n) hf
  obtain ⟨Aa, ca, As, cs, hcs, hAr, hT⟩ := hs.cells
  obtain rfl : cells = #[.int .u8 z0, .int .u8 z1, .int .i64 z2, .int .u8 z3, .int .i64 z4, .slice Aa xs.length ca, .slice As t.len cs] := by
    cases cells; simpa [Value.cells] using hcs
  clear hA0 hval0
  refine (walk z0 z1 z2 z3 z4 a1 xs t Aa As ca cs W hAr hs.args.2 hs.len (okU8_of_wf w1)).mono fun e W' ⟨he, bel⟩ => ?_
  subst he
  exact ⟨_, rfl, _, _, _, [], _, [], hW', (trodAll_cons_mk (shut_bool Try.underlying4 _) trodAll_mk0), (trodAll_cons_mk (Below.trod laidOut (by kernel_rfl) (of_decide_eq_true (by kernel_rfl)) k0 bel lt0) (trodAll_cons_mk (shut_int Try.underlying5 w1) trodAll_mk0)), rfl, bel.frame _, fun h => by cases h⟩

theorem over : Rows.moduleBlocksRow.holds Try.pinned (OpenSpec.ofChange Rows.moduleBlocksSpec) :=
  OpenClaim.holds_of_wide 7 Try.f7 rfl rfl rfl rfl rfl rfl rfl ⟨rfl, rfl, rfl, rfl, rfl⟩ rfl rfl rfl rfl rfl (by kernel_rfl) Try.func7 (by kernel_rfl)
    (of_decide_eq_true (by kernel_rfl)) (by unfold Func.isWrapper; first | (rw [if_pos (by decide +kernel)]; kernel_rfl) | (rw [if_neg (by decide +kernel)]; exact ⟨rfl, rfl⟩))
    (fun os started H enc _ => lifted os started H enc)

theorem proved : Rows.ModuleBlocksSaid :=
  over
end Go.Proofs.Ytpjoggefklohjaa.moduleBlocks
namespace Go.Proofs.Ytpjoggefklohjaa
theorem moduleBlocks_holds : Rows.ModuleBlocksSaid := moduleBlocks.proved
#print axioms moduleBlocks_holds
end Go.Proofs.Ytpjoggefklohjaa
