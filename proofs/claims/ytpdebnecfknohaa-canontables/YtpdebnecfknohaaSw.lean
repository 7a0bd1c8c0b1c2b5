
/-
  What SameBody leaves.
-/
import Derived.Test.YtpdebnecfknohaaEf
import Derived.Maps.AppendAt
import Derived.Lib.AppendZerosOnto
namespace Go.Proofs.Ytpdebnecfknohaa
open Go.RowKit
set_option linter.unusedVariables false
set_option maxRecDepth 20000

/-- Two bodies that are to be held against each other, with the slices that say them. -/
structure Pn where
  A : Option Addr
  B : Option Addr
  c : Nat
  d : Nat
  t : Bd
  u : Bd
def flatP : List Pn → List Value
  | [] => []
  | p :: P => .slice p.A p.t.len p.c :: .slice p.B p.u.len p.d :: flatP P
theorem flatP_len (P : List Pn) : (flatP P).length = P.length * 2 := by
  induction P with
  | nil => rfl
  | cons p P ih => simp only [flatP, List.length_cons, ih]; omega
theorem flatP_append (P Q : List Pn) : flatP (P ++ Q) = flatP P ++ flatP Q := by
  induction P with
  | nil => rfl
  | cons p P ih => simp [flatP, ih]
def OKp (w : World) (p : Pn) : Prop := BodyV w p.A p.t ∧ BodyV w p.B p.u ∧ p.t.wide ≤ 1000000000 ∧ p.u.wide ≤ 1000000000
def wtP : List Pn → Nat
  | [] => 0
  | p :: P => p.t.size + p.u.size + 1 + wtP P
theorem wtP_append (P Q : List Pn) : wtP (P ++ Q) = wtP P + wtP Q := by
  induction P with
  | nil => simp [wtP]
  | cons p P ih => simp only [List.cons_append, wtP, ih]; omega
theorem len_wtP (P : List Pn) : P.length ≤ wtP P := by
  induction P with
  | nil => simp [wtP]
  | cons p P ih => simp only [List.length_cons, wtP]; omega
def allP (P : List Pn) : Bool := P.all fun p => p.t.same p.u
theorem allP_append (P Q : List Pn) : allP (P ++ Q) = (allP P && allP Q) := by simp [allP]
theorem Bd.same_step {k a1 a2 b1 b2 : Int} {xs : List (Int × Int)} {s1 r1 : Bd} {k' a1' a2' b1' b2' : Int} {xs' : List (Int × Int)} {s2 r2 : Bd} (h : (Bd.cons k a1 a2 b1 b2 xs s1 r1).shal (.cons k' a1' a2' b1' b2' xs' s2 r2) = true) :
    (Bd.cons k a1 a2 b1 b2 xs s1 r1).same (.cons k' a1' a2' b1' b2' xs' s2 r2) = (s1.same s2 && r1.same r2) ∧ r1.shal r2 = true := by
  simp only [Bd.shal, Bool.and_eq_true] at h
  obtain ⟨⟨⟨⟨h1, h2⟩, h3⟩, h4⟩, h5⟩ := h
  refine ⟨?_, h5⟩
  simp only [Bd.same, h1, h2, h3, h4, Bool.true_and]
theorem Bd.same_empty (s1 s2 : Bd) (h1 : s1.len = 0) (h2 : s2.len = 0) : s1.same s2 = true := by
  cases s1 with
  | nil => cases s2 with
    | nil => rfl
    | cons => simp [Bd.len] at h2
  | cons => simp [Bd.len] at h1
theorem Bd.sub_wide (t : Bd) (i : Nat) {k a1 a2 b1 b2 : Int} {xs : List (Int × Int)} {s r : Bd} (h : t.drop i = .cons k a1 a2 b1 b2 xs s r) : s.wide ≤ t.wide := by
  have := Bd.wide_drop t i
  rw [h] at this
  simp only [Bd.wide] at this
  omega
theorem own_old {w w' : World} {base e size n : Nat} {v : Value} {xs : List Value} (h : w.ownsRow base e size v n xs) (hb : Below w.heap.size w w') : w'.ownsRow base e size v n xs := by
  refine ⟨h.1, ?_⟩
  rcases h.2 with h1 | ⟨k, cap, cur, hv, h2, hk, rest⟩
  · exact .inl h1
  · exact .inr ⟨k, cap, cur, hv, h2, (hb.block k (heap_ltM hk)).trans hk, rest⟩
theorem own_sliceM {w : World} {base n : Nat} {v : Value} {xs : List Value} {e size : Nat} (h : w.ownsRow base e size v n xs) (hn : v ≠ .slice none 0 0) : ∃ q cap, v = .slice (some ⟨q, 0, none⟩) n cap := by
  rcases h.2 with ⟨h1, _⟩ | ⟨k, cap, cur, hv, _⟩
  · exact absurd h1 hn
  · exact ⟨k, cap, hv⟩
theorem alloc_sizeM (w : World) (o : Obj) : (w.alloc o).heap.size = w.heap.size + 1 := by simp
theorem grown_belowM {B : Nat} {a w w' : World} {r : Option Nat} (hb : Below B a w) (hg : w.grownBy w' r) (hB : B ≤ w.heap.size) (hr : ∀ q, r = some q → B ≤ q) : Below B a w' := hb.grown hg hB hr

end Go.Proofs.Ytpdebnecfknohaa
