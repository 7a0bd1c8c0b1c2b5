/-
  CanonRaw: for every module the law returns true and leaves its argument as it was: of a module that breaks a rule of trees canon.Of tells that rule, and where; of any other it answers what the document's canon is, which breaks no rule. Conditions: none.
-/
import Derived.Test.YtpdebnecfknohaaRows
import Derived.WalkKit
import Derived.ProofKit
import Derived.OpenShut
import Derived.Below
import Derived.ChangeOld
import Derived.ShutString
import Derived.Test.YtpdebnecfknohaaPr00
import Derived.Test.YtpdebnecfknohaaPr01
import Derived.Test.YtpdebnecfknohaaPr02
import Derived.Test.YtpdebnecfknohaaPr03
import Derived.Test.YtpdebnecfknohaaPr04
import Derived.Test.YtpdebnecfknohaaPr05
import Derived.Test.YtpdebnecfknohaaPr06
import Derived.Test.YtpdebnecfknohaaPr07
import Derived.Test.YtpdebnecfknohaaPr08
import Derived.Test.YtpdebnecfknohaaPr09
import Derived.Test.YtpdebnecfknohaaPr10
import Derived.Test.YtpdebnecfknohaaPr11
import Derived.Test.YtpdebnecfknohaaPr12
import Derived.Test.YtpdebnecfknohaaPr13
import Derived.Test.YtpdebnecfknohaaPr14
namespace Go.Proofs.Ytpdebnecfknohaa.canonRaw
open Go.ChangeShapes Go.WideShapes Go.ChangeAt Go.RowKit
open Go.ChangeMaps (open_string shut_string)
set_option linter.unusedVariables false

theorem own : ownKnob Try.prog.godebug = none := by kernel_rfl
theorem laidOut : laidOutB Try.prog = true := by kernel_rfl

set_option maxRecDepth 100000 in
theorem lifted (os : Os) (started : os.Started) (H : Type) (enc : TypeId × Value → H) :
    ReturnsInHanded {} Try.checked os 11 .any (Rows.canonRawSpec.pre6 enc Try.prog Try.f11 Rows.canonRawRow.domain false) (Rows.canonRawSpec.post enc Try.prog Try.f11 false true false false) := by
  refine returnsInHanded_of_change (C := Try.checked) own started (by kernel_rfl) Try.func11
    (ChangeSpec.witness6 (enc := enc) (C := Try.checked) false ⟨#[], #[.agg #[.slice none 0 0, .slice none 0 0, .slice none 0 0, .slice none 0 0]], []⟩ 8 (by kernel_rfl) (by kernel_rfl) (by kernel_rfl) (by kernel_rfl)) ?_
  intro W base args ds gs before hval0 hW hcnd _
  have hval : ∀ (j : Nat) t v, Try.f11.params[j]? = some t → args[j]? = some v → Value.okWide Try.prog W .any base t v := hval0
  have hW' := hW
  obtain ⟨p, q, hA0, hV, rfl, hfz, hnd⟩ := hW
  have hA : DataW.TrodAll enc Try.prog W 0 (fun _ => true) true Try.f11.params.toList args.toList ds p := hA0
  rw [Try.params11] at hA hval
  obtain ⟨v0, vs0, d0, ds0, p0, q0, hargs, rfl, rfl, h0, r0⟩ := trodAll_cons hA
  obtain ⟨rfl, rfl, rfl⟩ := trodAll_nil r0
  obtain rfl : args = #[v0] := by cases args; simp_all
  obtain ⟨rfl, rfl⟩ := trodVars_none hV
  have k0 := h0
  have lt0 : ∀ x ∈ p0, x.block < W.heap.size := by obtain ⟨m, hm⟩ := k0; exact DataW.trod_lt m _ _ _ hm
  obtain ⟨cells, rfl, hsz⟩ := okWide_struct Try.underlying30 (hval 0 30 v0 rfl rfl)
  obtain ⟨fuel, hf⟩ := h0
  obtain ⟨M, As, Ag, Af, Ae, c0, c1, c2, c3, hcs, hM, hg, he, hfn⟩ := open_md hf
  obtain rfl : cells = #[.slice As M.strs.length c0, .slice Ag M.globs.length c1, .slice Af M.funcs.length c2, .slice Ae M.ents.length c3] := by
    cases cells; simpa [Value.cells] using hcs
  clear hA0 hval0
  have hIn : M.In2 := ⟨hg, he, fun n hn => by
    obtain ⟨f, hf, rfl⟩ := List.mem_map.1 hn
    exact (hfn f hf).1.2.2.2.1, fun f hf => by
    obtain ⟨⟨f1, f2, f3, _, _⟩, f4⟩ := hfn f hf
    exact ⟨f1, f2, f3⟩⟩
  refine (canonRaw_walk M As Ag Af Ae c0 c1 c2 c3 W hIn hM).mono fun e W' ⟨he, bel⟩ => ?_
  subst he
  exact ⟨_, rfl, _, _, _, [], _, [], hW', (trodAll_cons_mk (shut_bool Try.underlying4 _) trodAll_mk0), (trodAll_cons_mk (Below.trod laidOut (by kernel_rfl) (of_decide_eq_true (by kernel_rfl)) k0 bel lt0) trodAll_mk0), rfl, bel.frame _, fun h => by cases h⟩

theorem over : Rows.canonRawRow.holds Try.pinned (OpenSpec.ofChange Rows.canonRawSpec) :=
  OpenClaim.holds_of_wide 11 Try.f11 rfl rfl rfl rfl rfl rfl rfl ⟨rfl, rfl, rfl, rfl, rfl⟩ rfl rfl rfl rfl rfl (by kernel_rfl) Try.func11 (by kernel_rfl)
    (of_decide_eq_true (by kernel_rfl)) (by unfold Func.isWrapper; first | (rw [if_pos (by decide +kernel)]; kernel_rfl) | (rw [if_neg (by decide +kernel)]; exact ⟨rfl, rfl⟩))
    (fun os started H enc _ => lifted os started H enc)

theorem proved : Rows.CanonRawSaid :=
  over
end Go.Proofs.Ytpdebnecfknohaa.canonRaw
namespace Go.Proofs.Ytpdebnecfknohaa
theorem canonRaw_holds : Rows.CanonRawSaid := canonRaw.proved
#print axioms canonRaw_holds
end Go.Proofs.Ytpdebnecfknohaa
