/-
  Two sets beside one another; slices of ints that came in.
-/
import Derived.Test.YtkkkglmjipnfaaaDoorKey
import Derived.OpenShut
namespace Go.Proofs.YtkkkglmjipnfaaaDoor
open Go.RowKit
set_option linter.unusedVariables false

/-- Two sets share nothing. -/
structure Apart (g1 : Nat) (v1 : Value) (g2 : Nat) (v2 : Value) : Prop where
  g : g1 ≠ g2
  a : v1.ownBlock ≠ some g2
  b : v2.ownBlock ≠ some g1
  r : ∀ q, v1.ownBlock = some q → v2.ownBlock ≠ some q
theorem Apart.symm {g1 g2 : Nat} {v1 v2 : Value} (h : Apart g1 v1 g2 v2) : Apart g2 v2 g1 v1 := ⟨h.g.symm, h.b, h.a, fun q h1 h2 => h.r q h2 h1⟩
/-- Another set's touch leaves this one. -/
theorem SetAt.touch {w w' : World} {base g1 g2 : Nat} {v1 v2 : Value} {M : Bks} (h : SetAt w base g2 v2 M) (ht : Touch w w' g1 v1.ownBlock) (ha : Apart g1 v1 g2 v2) : SetAt w' base g2 v2 M := by
  refine ⟨h.hb, ?_, ?_, h.isNil, h.ne, h.good⟩
  · rw [ht.block g2 h.lt ha.g.symm (fun e => ha.a e.symm)]; exact h.blk
  · refine ⟨h.own.1, ?_⟩
    rcases h.own.2 with h1 | ⟨k, cap, cur, hv, h2, hk, rest⟩
    · exact .inl h1
    · refine .inr ⟨k, cap, cur, hv, h2, ?_, rest⟩
      have ho : v2.ownBlock = some k := by rw [hv]; rfl
      rw [ht.block k (heap_lt hk) (fun e => ha.b (by rw [ho, e])) (fun e => ha.r k e.symm ho)]
      exact hk
theorem Apart.grow {w : World} {base g1 g2 : Nat} {v1 v1' v2 : Value} {M : Bks} (h : SetAt w base g2 v2 M) (ha : Apart g1 v1 g2 v2) (hv : v1'.ownBlock = v1.ownBlock ∨ ∃ k, v1'.ownBlock = some k ∧ w.heap.size ≤ k) : Apart g1 v1' g2 v2 := by
  rcases hv with hv | ⟨k, hv, hk⟩
  · exact ⟨ha.g, by rw [hv]; exact ha.a, ha.b, by rw [hv]; exact ha.r⟩
  · refine ⟨ha.g, ?_, ha.b, ?_⟩
    · rw [hv]; intro e; injection e with e; have := h.lt; omega
    · intro q hq e
      rw [hv] at hq; injection hq with hq
      have := (h.row_ge q e).2
      omega
/-- A new empty set. -/
theorem SetAt.fresh {w : World} {base : Nat} (h : base ≤ w.heap.size) : SetAt (w.alloc (.cells #[.slice none 0 0] 27)) base w.heap.size (.slice none 0 0) [] :=
  ⟨h, heap_alloc_new w _, World.ownsRow_nil _ _ _ _, fun _ => rfl, (fun h => by cases h), good_nil⟩

/-- A slice of ints that reads so. -/
def UR (k : IntKind) (w : World) (A : Option Addr) (l : List Int) : Prop := 0 < l.length → ∃ b o, A = some ⟨b, o, none⟩ ∧ ∀ i, i < l.length → w.cell? ⟨b, o + i, none⟩ = some (.int k (l.getD i 0))
theorem UR.old {k : IntKind} {w w' : World} {A : Option Addr} {l : List Int} (h : UR k w A l) (hb : Below w.heap.size w w') : UR k w' A l := fun hp => by
  obtain ⟨b, o, rfl, hc⟩ := h hp
  exact ⟨b, o, rfl, fun i hi => (World.cell?_of_block (hb.block b (World.block_lt_of_cell? w ⟨b, o + i, none⟩ (hc i hi)))).trans (hc i hi)⟩
theorem ur_of_row {k : IntKind} {w : World} {a : Option Addr} {len cap : Nat} {zs : List Int} (h : (a = none ∧ len = 0 ∧ cap = 0 ∧ zs = []) ∨
      ∃ x, a = some x ∧ len ≤ cap ∧ cap ≤ maxLen ∧ zs.length = cap ∧ (∀ i, i < zs.length → w.cell? (x.add i) = some (.int k (zs.getD i 0))) ∧ ∀ n ∈ zs, (Lit.int k n).wf = true) :
    ∃ l : List Int, l.length = len ∧ UR k w a l ∧ (∀ x ∈ l, (Lit.int k x).wf = true) ∧ len ≤ 9223372036854775807 ∧ (a = none → l = []) := by
  rcases h with ⟨rfl, rfl, rfl, rfl⟩ | ⟨x, rfl, h1, h2, h3, h4, h5⟩
  · exact ⟨[], rfl, fun h => by simp at h, by simp, by omega, fun _ => rfl⟩
  · refine ⟨zs.take len, by simp; omega, ?_, fun n hn => h5 n (List.mem_of_mem_take hn), by unfold maxLen at h2; omega, (fun h => by cases h)⟩
    intro hp
    have hp' : 0 < len := by simp at hp; omega
    obtain ⟨b, off, rfl, hc⟩ := Go.ints_at h4 (by omega)
    refine ⟨b, off, rfl, fun i hi => ?_⟩
    have hi' : i < len := by simp at hi; omega
    rw [hc i (by omega)]
    have e : (zs.take len).getD i 0 = zs.getD i 0 := by
      simp [List.getD, List.getElem?_take_of_lt hi']
    rw [e]
theorem inl_cons (l : List Int) (x m : Int) : inl (x :: l) m = (inl l m || (decide (0 ≤ x) && decide (m = x))) := by
  have e := inl_snoc l x m
  rw [← e]
  exact inl_perm (List.perm_append_comm (l₁ := [x]) (l₂ := l)) m
theorem drop_cons (l : List Int) (k : Nat) (h : k < l.length) : l.drop k = l.getD k 0 :: l.drop (k + 1) := by
  rw [List.drop_eq_getElem_cons h]; simp [h]
end Go.Proofs.YtkkkglmjipnfaaaDoor
