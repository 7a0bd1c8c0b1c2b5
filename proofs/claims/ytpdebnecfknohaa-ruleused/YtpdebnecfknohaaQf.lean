
/-
  What the comparison of two functions leaves, and of two lists of functions.
-/
import Derived.Test.YtpdebnecfknohaaQs
namespace Go.Proofs.Ytpdebnecfknohaa
open Go.RowKit
set_option linter.unusedVariables false
set_option maxRecDepth 20000
set_option linter.unusedSimpArgs false

def fnSame (f g : Fn) : Bool := decide (f.name = g.name) && (decide (f.params = g.params) && (decide (f.locals = g.locals) && (decide (f.sites = g.sites) && f.body.same g.body)))
def fnsSame : List Fn → List Fn → Bool
  | [], [] => true
  | f :: l, g :: m => fnSame f g && fnsSame l m
  | _, _ => false
theorem fnsSame_len : ∀ l m : List Fn, l.length ≠ m.length → fnsSame l m = false
  | [], [], h => by simp at h
  | [], _ :: _, _ => rfl
  | _ :: _, [], _ => rfl
  | f :: l, g :: m, h => by simp only [fnsSame, fnsSame_len l m (by simpa using h), Bool.and_false]
theorem fnsSame_drop {l m : List Fn} {i : Nat} (h1 : i < l.length) (h2 : i < m.length) : fnsSame (l.drop i) (m.drop i) = (fnSame l[i] m[i] && fnsSame (l.drop (i + 1)) (m.drop (i + 1))) := by
  have e1 : l.drop i = l[i] :: l.drop (i + 1) := List.drop_eq_getElem_cons h1
  have e2 : m.drop i = m[i] :: m.drop (i + 1) := List.drop_eq_getElem_cons h2
  rw [e1, e2]
  rfl
theorem fnSame_refl (f : Fn) : fnSame f f = true := by simp [fnSame, Bd.same_refl]
theorem fnsSame_refl : ∀ l : List Fn, fnsSame l l = true
  | [] => rfl
  | f :: l => by simp [fnsSame, fnSame_refl, fnsSame_refl l]
/-- A truth, and what was there is as it was. -/
def BoB (w : World) (v : Bool) (e : Ending) (w' : World) : Prop := e = .returned (.bool v) ∧ Below w.heap.size w w'
theorem QuB.bo {w w' : World} {v : Bool} {e : Ending} (h : QuB w v e w') : BoB w v e w' := by
  obtain ⟨he, k, rfl⟩ := h
  exact ⟨he, below_dN _ _ _⟩
/-- No list is too long. -/
structure Fn.Fit (f : Fn) : Prop where
  locals : f.locals.length ≤ 1000000
  sites : f.sites.length ≤ 1000000
  size : f.body.size ≤ 10000000
  wide : f.body.wide ≤ 10000000

end Go.Proofs.Ytpdebnecfknohaa
