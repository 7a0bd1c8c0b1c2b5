
/-
  What EqualFunc of two bodies leaves.
-/
import Derived.Test.YtpdebnecfknohaaSb
namespace Go.Proofs.Ytpdebnecfknohaa
open Go.RowKit
set_option linter.unusedVariables false
set_option maxRecDepth 20000

theorem Bd.len_le : ∀ t : Bd, t.len ≤ t.size
  | .nil => Nat.le_refl _
  | .cons _ _ _ _ _ _ s r => by have := Bd.len_le r; simp only [Bd.len, Bd.size]; omega
/-- The longest row of arguments. -/
def Bd.wide : Bd → Nat
  | .nil => 0
  | .cons _ _ _ _ _ xs s r => xs.length + s.wide + r.wide
theorem Bd.wide_drop : ∀ (t : Bd) (i : Nat), (t.drop i).wide ≤ t.wide
  | t, 0 => by simp [Bd.drop]
  | .nil, i + 1 => by simp [Bd.drop]
  | .cons _ _ _ _ _ _ _ r, i + 1 => by have := Bd.wide_drop r i; simp only [Bd.drop, Bd.wide]; omega
theorem Bd.shal_lenne (t u : Bd) (h : t.len ≠ u.len) : t.shal u = false := by
  cases hs : t.shal u
  · rfl
  · exact absurd (Bd.shal_len t u hs) h

end Go.Proofs.Ytpdebnecfknohaa
