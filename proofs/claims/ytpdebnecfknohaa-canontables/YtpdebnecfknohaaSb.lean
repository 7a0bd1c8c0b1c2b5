
/-
  Bodies held against each other: what slices.Equal of references, sameButBody and EqualFunc leave.
-/
import Derived.Test.YtpdebnecfknohaaBd
import Derived.StillTactics
import Derived.Deep.Cut
namespace Go.Proofs.Ytpdebnecfknohaa
open Go.RowKit
set_option linter.unusedVariables false
set_option maxRecDepth 20000

/-- Are two bodies one? -/
def Bd.same : Bd → Bd → Bool
  | .nil, .nil => true
  | .cons k a1 a2 b1 b2 xs s r, .cons k' a1' a2' b1' b2' xs' s' r' => decide (k = k') && decide ((a1, a2) = (a1', a2')) && decide ((b1, b2) = (b1', b2')) && decide (xs = xs') && s.same s' && r.same r'
  | _, _ => false
/-- Are they one, whatever stands in their statements' bodies? -/
def Bd.shal : Bd → Bd → Bool
  | .nil, .nil => true
  | .cons k a1 a2 b1 b2 xs s r, .cons k' a1' a2' b1' b2' xs' s' r' => decide (k = k') && decide ((a1, a2) = (a1', a2')) && decide ((b1, b2) = (b1', b2')) && decide (xs = xs') && r.shal r'
  | _, _ => false
theorem Bd.same_refl : ∀ t : Bd, t.same t = true
  | .nil => rfl
  | .cons k a1 a2 b1 b2 xs s r => by simp [Bd.same, Bd.same_refl s, Bd.same_refl r]
theorem Bd.shal_len : ∀ (t u : Bd), t.shal u = true → t.len = u.len
  | .nil, .nil, _ => rfl
  | .cons _ _ _ _ _ _ _ r, .cons _ _ _ _ _ _ _ r', h => by
    simp only [Bd.shal, Bool.and_eq_true] at h
    simp only [Bd.len]
    rw [Bd.shal_len r r' h.2]
  | .nil, .cons _ _ _ _ _ _ _ _, h => by simp [Bd.shal] at h
  | .cons _ _ _ _ _ _ _ _, .nil, h => by simp [Bd.shal] at h
theorem Bd.same_shal : ∀ (t u : Bd), t.shal u = false → t.same u = false
  | .nil, .nil, h => by simp [Bd.shal] at h
  | .cons k a1 a2 b1 b2 xs s r, .cons k' a1' a2' b1' b2' xs' s' r', h => by
    simp only [Bd.shal, Bd.same] at h ⊢
    cases hr : r.shal r'
    · rw [Bd.same_shal r r' hr, Bool.and_false]
    · rw [hr, Bool.and_true] at h
      rw [h]; simp
  | .nil, .cons _ _ _ _ _ _ _ _, h => rfl
  | .cons _ _ _ _ _ _ _ _, .nil, h => rfl
theorem list_ext_args {L M : List (Int × Int)} (hl : L.length = M.length) (h : ∀ i, i < L.length → L.getD i (0, 0) = M.getD i (0, 0)) : L = M := by
  apply List.ext_getElem hl
  intro i h1 h2
  have := h i h1
  simpa [List.getD, h1, h2] using this

/-- A statement's own cells, but its body. -/
structure StV where
  k : Int
  a1 : Int
  a2 : Int
  b1 : Int
  b2 : Int
  xs : List (Int × Int)
def StV.eq (s t : StV) : Bool := decide (s.k = t.k) && decide ((s.a1, s.a2) = (t.a1, t.a2)) && decide ((s.b1, s.b2) = (t.b1, t.b2)) && decide (s.xs = t.xs)
end Go.Proofs.Ytpdebnecfknohaa
