/-
  The document's example; near.
-/
import Derived.Test.YtkkkglmjipnfaaaDoorPop
namespace Go.Proofs.YtkkkglmjipnfaaaDoor
open Go.RowKit
set_option linter.unusedVariables false

/-- A row of ints that reads so, as All leaves it. -/
theorem AllPost.rd {L : Bks} {w w' : World} {e : Ending} (h : AllPost L w e w') : ∃ A c, e = .returned (.slice A (allF L).length c) ∧ IR w' A (allF L) ∧ (∀ a, A = some a → w.heap.size ≤ a.block) ∧ Below w.heap.size w w' := by
  obtain ⟨v, rfl, h1, h2⟩ := h
  obtain ⟨A, c, rfl, h3, h4⟩ := IR.own h1
  exact ⟨A, c, rfl, h3, h4, h2⟩

set_option maxRecDepth 20000 in
set_option maxHeartbeats 1000000 in
theorem awake_any (w : World) (hT : Tab w) : Calls Tryd.prog 10 #[] w fun e w' => e = .returned (.bool true) ∧ Below w.heap.size w w' := by
  have HT := Lib.hid hT
  clear hT
  have HB0 : Hid (Below w.heap.size w (w.alloc (.cells #[.int .i64 5, .int .i64 3, .int .i64 5] 3))) := (Below.refl _ _).alloc (Nat.le_refl _) _
  have HIR : Hid (IR (w.alloc (.cells #[.int .i64 5, .int .i64 3, .int .i64 5] 3)) (some ⟨w.heap.size, 0, none⟩) [5, 3, 5]) := fun _ => ⟨_, _, rfl, fun k hk => by
    rw [World.cell?_alloc_at]
    simp only [List.length_cons, List.length_nil] at hk
    rcases (by omega : k = 0 ∨ k = 1 ∨ k = 2) with rfl | rfl | rfl <;> rfl
    rfl⟩
  go_enter Tryd.func10, Tryd.ntmps10
  go_wp2_with fail
  generalize w.alloc (.cells #[.int .i64 5, .int .i64 3, .int .i64 5] 3) = w1 at *
  refine (of_any _ 3 [5, 3, 5] _ HIR.out (by decide) (fun h => by cases h) (by decide)).mono ?_
  rintro e w2 ⟨g, v, L, rfl, hS, hH, hL, hB⟩
  have HB2 := Lib.hid (HB0.out.trans (hB.mono HB0.out.size))
  obtain ⟨A, c, rfl, hR⟩ := hS.rd (by simp at hL; omega)
  have HR := Lib.hid hR
  have HE : Hid (allF L = [3, 5]) := rise_ext (rise_allF hS.good) (by decide) (fun m => by
    rw [mem_allF hS.good, hH]
    unfold inl
    simp
    omega)
  have hLL : L.length ≤ 1000 := by simp at hL; omega
  clear hS hH hB hR hL
  go_wp2_with fail
  refine (all_any _ _ _ _ _ HR.out hLL (HT.out.old HB2.out)).mono ?_
  rintro e w3 h
  obtain ⟨A3, c3, rfl, hI, _, hB3⟩ := h.rd
  have HB3 := Lib.hid (HB2.out.trans (hB3.mono HB2.out.size))
  rw [HE.out] at hI ⊢
  obtain ⟨b, o, rfl, hc⟩ := hI (by decide)
  have c0 := hc 0 (by decide)
  have c1 := hc 1 (by decide)
  simp only [List.getD_cons_zero, List.getD_cons_succ, Nat.add_zero] at c0 c1
  clear hc hI hB3 h
  go_wp2
  go_ret
  exact ⟨rfl, HB3.out⟩
end Go.Proofs.YtkkkglmjipnfaaaDoor
