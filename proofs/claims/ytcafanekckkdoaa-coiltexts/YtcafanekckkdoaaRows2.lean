/-
  Numbers one behind the other as bytes: what a reader finds of them. Slices of integers that came in. Plain lists and readings, no conditions beyond those in each theorem.
-/
import Derived.Test.YtcafanekckkdoaaApp
import Derived.OpenShut
import Derived.Deep.QuietTactic
namespace Go.Proofs.Ytcafanekckkdoaa
open Go.RowKit

/-- The bytes of numbers, one behind the other. -/
def puts : List Nat → List Nat
  | [] => []
  | x :: l => put x ++ puts l

theorem puts_append (x y : List Nat) : puts (x ++ y) = puts x ++ puts y := by
  induction x with
  | nil => rfl
  | cons a x ih => simp [puts, ih]
theorem puts_snoc (x : List Nat) (a : Nat) : puts (x ++ [a]) = puts x ++ put a := by rw [puts_append]; simp [puts]
theorem puts_len (x : List Nat) (h : ∀ a ∈ x, a < 18446744073709551616) : (puts x).length ≤ 10 * x.length := by
  induction x with
  | nil => simp [puts]
  | cons a x ih =>
    have h1 := ih (fun b hb => h b (by simp [hb]))
    have h2 := (put_len a (h a (by simp))).2
    simp [puts]; omega
theorem puts_bytes (x : List Nat) : ∀ c ∈ puts x, c < 256 := by
  induction x with
  | nil => simp [puts]
  | cons a x ih =>
    intro c hc
    simp [puts] at hc
    rcases hc with hc | hc
    · exact put_bytes a c hc
    · exact ih c hc
theorem num_long (n : Nat) (hn : n < 18446744073709551616) (q : List Nat) (most : Nat) (h : most < n) : numF (put n ++ q) most = (0, [], 5) := by
  unfold numF
  rw [first_put n hn q]
  simp only [if_true]
  rw [if_pos h]

/-- A slice of integers that reads as xs. -/
def Ints (w : World) (k : IntKind) (a : Option Addr) (xs : List Int) : Prop :=
  0 < xs.length → ∃ b off, a = some ⟨b, off, none⟩ ∧ ∀ i, i < xs.length → w.cell? ⟨b, off + i, none⟩ = some (.int k (xs.getD i 0))

theorem Ints.old {w w' : World} {k : IntKind} {a : Option Addr} {xs : List Int} (h : Ints w k a xs) (hb : Below w.heap.size w w') : Ints w' k a xs := fun hp => by
  obtain ⟨b, off, e, hc⟩ := h hp
  exact ⟨b, off, e, fun i hi => (World.cell?_of_block (hb.block b (World.block_lt_of_cell? w ⟨b, off + i, none⟩ (hc i hi)))).trans (hc i hi)⟩

theorem quiet_left {P : Program} {f : FuncId} {args : Array Value} {w : World} {n : Nat} {v : Value}
    (h : Calls P f args (w.drewN n) fun e w' => e = .returned v ∧ w.drewN n = w') : Calls P f args (w.drewN n) fun e w'' => e = .returned v ∧ ∃ m, w'' = w.drewN m :=
  h.mono fun _ _ ⟨he, hm⟩ => ⟨he, n, hm.symm⟩
end Go.Proofs.Ytcafanekckkdoaa
