/-
  CanonOf: for every draft, turn and strings more the law returns true and leaves its arguments as they were: canon.Of answers the module that Make makes of the draft, and answers it again where its strings are turned about and some more stand ahead. Conditions: none.
-/
import Derived.Test.YtpdebnecfknohaaRows
import Derived.WalkKit
import Derived.ProofKit
import Derived.OpenShut
import Derived.Below
import Derived.ChangeOld
import Derived.ShutString
import Derived.SliceStrings
import Derived.Test.YtpdebnecfknohaaPc00
import Derived.Test.YtpdebnecfknohaaPc01
import Derived.Test.YtpdebnecfknohaaPc02
import Derived.Test.YtpdebnecfknohaaPc03
import Derived.Test.YtpdebnecfknohaaPc04
import Derived.Test.YtpdebnecfknohaaPc05
import Derived.Test.YtpdebnecfknohaaPc06
import Derived.Test.YtpdebnecfknohaaPc07
import Derived.Test.YtpdebnecfknohaaPc08
import Derived.Test.YtpdebnecfknohaaPc09
import Derived.Test.YtpdebnecfknohaaPc10
import Derived.Test.YtpdebnecfknohaaPc11
import Derived.Test.YtpdebnecfknohaaPc12
import Derived.Test.YtpdebnecfknohaaPc13
import Derived.Test.YtpdebnecfknohaaPc14
import Derived.Test.YtpdebnecfknohaaPc15
import Derived.Test.YtpdebnecfknohaaPc16
namespace Go.Proofs.Ytpdebnecfknohaa.canonOf
open Go.ChangeShapes Go.WideShapes Go.ChangeAt Go.RowKit
open Go.ChangeMaps (open_string shut_string)
set_option linter.unusedVariables false

theorem own : ownKnob Try.prog.godebug = none := by kernel_rfl
theorem laidOut : laidOutB Try.prog = true := by kernel_rfl
theorem bs_mk (s : ByteArray) : s = bs s.data.toList := by cases s; rfl

set_option maxRecDepth 100000 in
theorem lifted (os : Os) (started : os.Started) (H : Type) (enc : TypeId × Value → H) :
    ReturnsInHanded {} Try.checked os 10 .any (Rows.canonOfSpec.pre6 enc Try.prog Try.f10 Rows.canonOfRow.domain false) (Rows.canonOfSpec.post enc Try.prog Try.f10 false true false false) := by
  refine returnsInHanded_of_change (C := Try.checked) own started (by kernel_rfl) Try.func10
    (ChangeSpec.witness6 (enc := enc) (C := Try.checked) false ⟨#[], #[.agg #[.int .u8 0, .int .u8 0, .int .u8 0, .slice none 0 0], .int .u8 0, .slice none 0 0], []⟩ 8 (by kernel_rfl) (by kernel_rfl) (by kernel_rfl) (by kernel_rfl)) ?_
  intro W base args ds gs before hval0 hW hcnd _
  have hval : ∀ (j : Nat) t v, Try.f10.params[j]? = some t → args[j]? = some v → Value.okWide Try.prog W .any base t v := hval0
  have hW' := hW
  obtain ⟨p, q, hA0, hV, rfl, hfz, hnd⟩ := hW
  have hA : DataW.TrodAll enc Try.prog W 0 (fun _ => true) true Try.f10.params.toList args.toList ds p := hA0
  rw [Try.params10] at hA hval
  obtain ⟨v0, vs0, d0, ds0, p0, q0, hargs0, rfl, rfl, h0, r0⟩ := trodAll_cons hA
  obtain ⟨v1, vs1, d1, ds1, p1, q1, hargs1, rfl, rfl, h1, r1⟩ := trodAll_cons r0
  obtain ⟨v2, vs2, d2, ds2, p2, q2, hargs2, rfl, rfl, h2, r2⟩ := trodAll_cons r1
  obtain ⟨rfl, rfl, rfl⟩ := trodAll_nil r2
  obtain rfl : args = #[v0, v1, v2] := by cases args; simp_all
  obtain ⟨rfl, rfl⟩ := trodVars_none hV
  have k0 := h0
  have lt0 : ∀ x ∈ p0, x.block < W.heap.size := by obtain ⟨m, hm⟩ := k0; exact DataW.trod_lt m _ _ _ hm
  obtain ⟨a1, rfl, rfl, rfl, w1⟩ := open_int Try.underlying5 (hval 1 5 v1 rfl rfl) h1
  have k2 := h2
  have lt2 : ∀ x ∈ p2, x.block < W.heap.size := by obtain ⟨m, hm⟩ := k2; exact DataW.trod_lt m _ _ _ hm
  obtain ⟨cells0, rfl, hsz0⟩ := okWide_struct Try.underlying24 (hval 0 24 v0 rfl rfl)
  obtain ⟨fuel0, hf0⟩ := h0
  obtain ⟨G0, F0, E0, Aa0, ca0, acts0, hcs0, hG0, hF0, hE0, hAc0, hac0, hal0⟩ := open_draft hf0
  obtain rfl : cells0 = #[.int .u8 (G0 : Int), .int .u8 (F0 : Int), .int .u8 (E0 : Int), .slice Aa0 acts0.length ca0] := by
    cases cells0; simpa [Value.cells] using hcs0
  obtain ⟨n1, rfl, hn1⟩ := u8_nat w1
  obtain ⟨A2, n2, c2, rfl⟩ := okWide_slice Try.underlying26 (hval 2 26 v2 rfl rfl)
  obtain ⟨l2, hl2, hs2, hc2, hx2, hb2⟩ : ∃ l : List (List UInt8), n2 = l.length ∧ RdS (fun _ => True) W A2 n2 1 (strV l) ∧ n2 ≤ c2 ∧ (∀ x ∈ l, x.length ≤ maxLen) ∧ n2 ≤ 9223372036854775807 := by
    obtain ⟨fuel, hf⟩ := h2
    rcases open_strings Try.underlying26 Try.underlying9 (by kernel_rfl) hf with ⟨hcs, _⟩ | ⟨x, l, c, zs, hcs, _, hl, hm, hz, _, hcell, hwz⟩
    · simp [Value.cells] at hcs
      obtain ⟨rfl, rfl, rfl⟩ := hcs
      exact ⟨[], rfl, ⟨rfl, fun h => absurd h (by omega)⟩, Nat.le_refl _, fun x hx => by simp at hx, by omega⟩
    · simp [Value.cells] at hcs
      obtain ⟨rfl, rfl, rfl⟩ := hcs
      have hz' : zs.length = c2 := by simpa using hz
      refine ⟨(zs.take n2).map (fun s => s.data.toList), by simp; omega, ⟨by simp [strV]; omega, fun hp => ?_⟩, by omega, fun y hy => ?_, by unfold maxLen at hm; omega⟩
      · obtain ⟨b, off, spot⟩ := x
        have hspot : spot = none := by simpa [Addr.add] using World.cell?_spot (hcell 0 (by omega))
        subst hspot
        refine ⟨b, off, rfl, trivial, fun i u hi => ?_⟩
        have hil : i < ((zs.take n2).map (fun s => s.data.toList)).length := by
          have := (List.getElem?_eq_some_iff.1 hi).1
          simpa [strV] using this
        rw [strV_get _ i hil] at hi
        injection hi with hi
        subst hi
        have hi' : i < n2 := by simp at hil; omega
        rw [← Go.WideShapes.add_plain, hcell i (by omega), List.getElem_map, ← bs_mk]
        rw [List.getElem_take, List.getD_eq_getElem?_getD, List.getElem?_eq_getElem (show i < zs.length by omega)]
        rfl
      · obtain ⟨s, hs, rfl⟩ := List.mem_map.1 hy
        have := hwz s (List.mem_of_mem_take hs)
        show s.data.toList.length ≤ maxLen
        rw [Array.length_toList]
        exact this
  clear hA0 hval0
  refine (canonOf_walk G0 F0 E0 Aa0 A2 acts0.length ca0 n1 n2 c2 acts0 l2 W hG0 hF0 hE0 hn1 rfl hal0 hAc0 hac0 hl2.symm hb2 hs2).mono fun e W' ⟨he, bel⟩ => ?_
  subst he
  exact ⟨_, rfl, _, _, _, [], _, [], hW', (trodAll_cons_mk (shut_bool Try.underlying4 _) trodAll_mk0), (trodAll_cons_mk (Below.trod laidOut (by kernel_rfl) (of_decide_eq_true (by kernel_rfl)) k0 bel lt0) (trodAll_cons_mk (shut_int Try.underlying5 w1) (trodAll_cons_mk (Below.trod laidOut (by kernel_rfl) (of_decide_eq_true (by kernel_rfl)) k2 bel lt2) trodAll_mk0))), rfl, bel.frame _, fun h => by cases h⟩

theorem over : Rows.canonOfRow.holds Try.pinned (OpenSpec.ofChange Rows.canonOfSpec) :=
  OpenClaim.holds_of_wide 10 Try.f10 rfl rfl rfl rfl rfl rfl rfl ⟨rfl, rfl, rfl, rfl, rfl⟩ rfl rfl rfl rfl rfl (by kernel_rfl) Try.func10 (by kernel_rfl)
    (of_decide_eq_true (by kernel_rfl)) (by unfold Func.isWrapper; first | (rw [if_pos (by decide +kernel)]; kernel_rfl) | (rw [if_neg (by decide +kernel)]; exact ⟨rfl, rfl⟩))
    (fun os started H enc _ => lifted os started H enc)

theorem proved : Rows.CanonOfSaid :=
  over
end Go.Proofs.Ytpdebnecfknohaa.canonOf
namespace Go.Proofs.Ytpdebnecfknohaa
theorem canonOf_holds : Rows.CanonOfSaid := canonOf.proved
#print axioms canonOf_holds
end Go.Proofs.Ytpdebnecfknohaa
