
/-
  What the comparison of two lists of functions leaves, and of two modules.
-/
import Derived.Test.YtpdebnecfknohaaQf
namespace Go.Proofs.Ytpdebnecfknohaa
open Go.RowKit
set_option linter.unusedVariables false
set_option maxRecDepth 20000
set_option linter.unusedSimpArgs false

theorem FnsS.at_ {S : Nat → Prop} {w w' : World} {A : Option Addr} {L : List Fn} (h : FnsS S w A L) (hb : Below w.heap.size w w') (i : Nat) (hi : i < L.length) : ∃ b o A1 a1 A2 a2 A3 a3, A = some ⟨b, o, none⟩ ∧ b < w'.heap.size ∧ (w'.cell? ⟨b, o + i * 5, none⟩ = some (.int .i64 L[i].name) ∧ w'.cell? ⟨b, o + i * 5 + 1, none⟩ = some (.int .i64 L[i].params) ∧ w'.cell? ⟨b, o + i * 5 + 2, none⟩ = some (.slice A1 L[i].locals.length a1) ∧ w'.cell? ⟨b, o + i * 5 + 3, none⟩ = some (.slice A2 L[i].sites.length a2) ∧ w'.cell? ⟨b, o + i * 5 + 4, none⟩ = some (.slice A3 L[i].body.len a3)) ∧ RdS (fun _ => True) w' A1 L[i].locals.length 1 (intV L[i].locals) ∧ RdS (fun _ => True) w' A2 L[i].sites.length 1 (intV L[i].sites) ∧ BodyV w' A3 L[i].body := by
  obtain ⟨b, o, hA, _, hc⟩ := h (by omega)
  obtain ⟨cs, ⟨A1, a1, A2, a2, A3, a3, rfl, r1, r2, r3⟩, hat⟩ := hc i hi
  have hl : b < w.heap.size := World.block_lt_of_cell? w ⟨b, o + i * 5 + 0, none⟩ (hat 0 _ rfl)
  refine ⟨b, o, A1, a1, A2, a2, A3, a3, hA, Nat.lt_of_lt_of_le hl hb.size, ⟨cell_old hb hl (hat 0 _ rfl), cell_old hb hl (hat 1 _ rfl), cell_old hb hl (hat 2 _ rfl), cell_old hb hl (hat 3 _ rfl), cell_old hb hl (hat 4 _ rfl)⟩, (r1.old hb (by omega)).below (fun _ _ => trivial), (r2.old hb (by omega)).below (fun _ _ => trivial), r3.at_.old hb⟩

/-- A module that is read. -/
structure MdR (w : World) (As Ag Af Ae : Option Addr) (M : Md) : Prop where
  strs : RdS (fun _ => True) w As M.strs.length 1 (strV M.strs)
  globs : RdS (fun _ => True) w Ag M.globs.length 1 (intV M.globs)
  funcs : FnsS (fun _ => True) w Af M.funcs
  ents : RdS (fun _ => True) w Ae M.ents.length 1 (intV M.ents)
theorem MdR.old {w w' : World} {As Ag Af Ae : Option Addr} {M : Md} (h : MdR w As Ag Af Ae M) (hb : Below w.heap.size w w') : MdR w' As Ag Af Ae M :=
  ⟨h.strs.old hb (by omega), h.globs.old hb (by omega), h.funcs.old hb, h.ents.old hb (by omega)⟩
structure Md.Fit (M : Md) : Prop where
  strs : M.strs.length ≤ 1000000
  globs : M.globs.length ≤ 1000000
  funcs : M.funcs.length ≤ 1000000
  ents : M.ents.length ≤ 1000000
  fns : ∀ f ∈ M.funcs, f.Fit
def mdSame (M N : Md) : Bool := decide (M.strs = N.strs) && (decide (M.globs = N.globs) && (fnsSame M.funcs N.funcs && decide (M.ents = N.ents)))
theorem mdSame_refl (M : Md) : mdSame M M = true := by simp [mdSame, fnsSame_refl]

end Go.Proofs.Ytpdebnecfknohaa
