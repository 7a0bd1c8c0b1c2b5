/-
  CanonTables: for every slice of strings the law returns true and leaves its argument as it was: a table answers each string's place among those that were gathered before it, each once, and all of them in that order; a nil one has none. Conditions: none.
-/
import Derived.Test.YtpdebnecfknohaaRows
import Derived.WalkKit
import Derived.Test.YtpdebnecfknohaaXl
import Derived.ProofKit
import Derived.OpenShut
import Derived.Below
import Derived.ChangeOld
import Derived.ShutString
import Derived.SliceStrings
namespace Go.Proofs.Ytpdebnecfknohaa.canonTables
open Go.ChangeShapes Go.WideShapes Go.ChangeAt Go.RowKit
open Go.ChangeMaps (open_string shut_string)
set_option linter.unusedVariables false

theorem own : ownKnob Try.prog.godebug = none := by kernel_rfl
theorem laidOut : laidOutB Try.prog = true := by kernel_rfl
theorem bs_mk (s : ByteArray) : s = bs s.data.toList := by cases s; rfl
set_option maxRecDepth 100000 in
theorem lifted (os : Os) (started : os.Started) (H : Type) (enc : TypeId × Value → H) :
    ReturnsInHanded {} Try.checked os 13 .any (Rows.canonTablesSpec.pre6 enc Try.prog Try.f13 Rows.canonTablesRow.domain false) (Rows.canonTablesSpec.post enc Try.prog Try.f13 false true false false) := by
  refine returnsInHanded_of_change (C := Try.checked) own started (by kernel_rfl) Try.func13
    (ChangeSpec.witness6 (enc := enc) (C := Try.checked) false ⟨#[], #[.slice none 0 0], []⟩ 8 (by kernel_rfl) (by kernel_rfl) (by kernel_rfl) (by kernel_rfl)) ?_
  intro W base args ds gs before hval0 hW hcnd _
  have hval : ∀ (j : Nat) t v, Try.f13.params[j]? = some t → args[j]? = some v → Value.okWide Try.prog W .any base t v := hval0
  have hW' := hW
  obtain ⟨p, q, hA0, hV, rfl, hfz, hnd⟩ := hW
  have hA : DataW.TrodAll enc Try.prog W 0 (fun _ => true) true Try.f13.params.toList args.toList ds p := hA0
  rw [Try.params13] at hA hval
  obtain ⟨v0, vs0, d0, ds0, p0, q0, hargs, rfl, rfl, h0, r0⟩ := trodAll_cons hA
  obtain ⟨rfl, rfl, rfl⟩ := trodAll_nil r0
  obtain rfl : args = #[v0] := by cases args; simp_all
  obtain ⟨rfl, rfl⟩ := trodVars_none hV
  have k0 := h0
  have lt0 : ∀ x ∈ p0, x.block < W.heap.size := by obtain ⟨m, hm⟩ := k0; exact DataW.trod_lt m _ _ _ hm
  obtain ⟨A0, n0, c0, rfl⟩ := okWide_slice Try.underlying26 (hval 0 26 v0 rfl rfl)
  obtain ⟨l0, hl0, hs0, hc0, hx0⟩ : ∃ l : List (List UInt8), n0 = l.length ∧ RdS (fun _ => True) W A0 n0 1 (strV l) ∧ n0 ≤ c0 ∧ ∀ x ∈ l, x.length ≤ maxLen := by
    obtain ⟨fuel, hf⟩ := h0
    rcases open_strings Try.underlying26 Try.underlying9 (by kernel_rfl) hf with ⟨hcs, _⟩ | ⟨x, l, c, zs, hcs, _, hl, hm, hz, _, hcell, hwz⟩
    · simp [Value.cells] at hcs
      obtain ⟨rfl, rfl, rfl⟩ := hcs
      exact ⟨[], rfl, ⟨rfl, fun h => absurd h (by omega)⟩, Nat.le_refl _, fun x hx => by simp at hx⟩
    · simp [Value.cells] at hcs
      obtain ⟨rfl, rfl, rfl⟩ := hcs
      have hz' : zs.length = c0 := by simpa using hz
      refine ⟨(zs.take n0).map (fun s => s.data.toList), by simp; omega, ⟨by simp [strV]; omega, fun hp => ?_⟩, by omega, fun y hy => ?_⟩
      · obtain ⟨b, off, spot⟩ := x
        have hspot : spot = none := by simpa [Addr.add] using World.cell?_spot (hcell 0 (by omega))
        subst hspot
        refine ⟨b, off, rfl, trivial, fun i u hi => ?_⟩
        have hil : i < ((zs.take n0).map (fun s => s.data.toList)).length := by
          have := (List.getElem?_eq_some_iff.1 hi).1
          simpa [strV] using this
        rw [strV_get _ i hil] at hi
        injection hi with hi
        subst hi
        have hi' : i < n0 := by simp at hil; omega
        rw [← Go.WideShapes.add_plain, hcell i (by omega), List.getElem_map, ← bs_mk]
        rw [List.getElem_take, List.getD_eq_getElem?_getD, List.getElem?_eq_getElem (show i < zs.length by omega)]
        rfl
      · obtain ⟨s, hs, rfl⟩ := List.mem_map.1 hy
        have := hwz s (List.mem_of_mem_take hs)
        show s.data.toList.length ≤ maxLen
        rw [Array.length_toList]
        exact this
  clear hA0 hval0
  refine (tables_walk A0 n0 c0 l0 W hs0 hl0 hc0 hx0).mono fun e W' ⟨he, bel⟩ => ?_
  subst he
  exact ⟨_, rfl, _, _, _, [], _, [], hW', (trodAll_cons_mk (shut_bool Try.underlying4 _) trodAll_mk0), (trodAll_cons_mk (Below.trod laidOut (by kernel_rfl) (of_decide_eq_true (by kernel_rfl)) k0 bel lt0) trodAll_mk0), rfl, bel.frame _, fun h => by cases h⟩

theorem over : Rows.canonTablesRow.holds Try.pinned (OpenSpec.ofChange Rows.canonTablesSpec) :=
  OpenClaim.holds_of_wide 13 Try.f13 rfl rfl rfl rfl rfl rfl rfl ⟨rfl, rfl, rfl, rfl, rfl⟩ rfl rfl rfl rfl rfl (by kernel_rfl) Try.func13 (by kernel_rfl)
    (of_decide_eq_true (by kernel_rfl)) (by unfold Func.isWrapper; first | (rw [if_pos (by decide +kernel)]; kernel_rfl) | (rw [if_neg (by decide +kernel)]; exact ⟨rfl, rfl⟩))
    (fun os started H enc _ => lifted os started H enc)

theorem proved : Rows.CanonTablesSaid :=
  over
end Go.Proofs.Ytpdebnecfknohaa.canonTables
namespace Go.Proofs.Ytpdebnecfknohaa
theorem canonTables_holds : Rows.CanonTablesSaid := canonTables.proved
#print axioms canonTables_holds
end Go.Proofs.Ytpdebnecfknohaa
