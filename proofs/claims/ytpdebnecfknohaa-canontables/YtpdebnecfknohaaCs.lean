
/-
  Strings gathered in their order: what the first loop of the reference's Canon keeps.
-/
import Derived.Test.YtpdebnecfknohaaUs
import Derived.Laws.Cover1
namespace Go.Proofs.Ytpdebnecfknohaa
open Go.RowKit
set_option linter.unusedVariables false
set_option maxRecDepth 20000

def gtF (a b : List UInt8) : Bool := !(Op.bytesLess a b || a == b)
/-- Two neighbours change places. -/
def swp (l : List (List UInt8)) (k : Nat) : List (List UInt8) := (l.set (k + 1) (l.getD k [])).set k (l.getD (k + 1) [])
/-- What stands at k goes down as long as what stands ahead is greater. -/
def bub : Nat → List (List UInt8) → List (List UInt8)
  | 0, l => l
  | k + 1, l => if gtF (l.getD k []) (l.getD (k + 1) []) = true then bub k (swp l k) else l
theorem swp_len (l : List (List UInt8)) (k : Nat) : (swp l k).length = l.length := by simp [swp]
theorem bub_len : ∀ (k : Nat) (l : List (List UInt8)), (bub k l).length = l.length
  | 0, l => rfl
  | k + 1, l => by
    simp only [bub]
    split
    · rw [bub_len k, swp_len]
    · rfl
/-- The strings that are used, of the first i. -/
def canL (g : List Int) (L : List Fn) (strs : List (List UInt8)) : Nat → List (List UInt8)
  | 0 => []
  | i + 1 => if usedF g L (i : Int) = true ∧ numF (canL g L strs i) (strs.getD i []) 0 < 0 then bub (canL g L strs i).length (canL g L strs i ++ [strs.getD i []]) else canL g L strs i
theorem canL_len (g : List Int) (L : List Fn) (strs : List (List UInt8)) (i : Nat) : (canL g L strs i).length ≤ i := by
  induction i with
  | zero => simp [canL]
  | succ i ih =>
    simp only [canL]
    split
    · rw [bub_len]; simp; omega
    · omega
theorem info9 : (Try.prog.info? 9).map (fun i => (i.zero, i.size, i.bytes)) = some (some (.string ⟨#[]⟩), 1, 16) := by kernel_rfl
/-- A string more. -/
theorem pushS (base : Nat) (v : Value) (l : List (List UInt8)) (x : List UInt8) (w : World) (h : w.ownsRow base 9 1 v l.length (strV l)) (hl : l.length ≤ 1000000) (hb : base ≤ w.heap.size) :
    ∃ q c w', (Builtin.append_ #[26, 26] 26 #[v, .slice (some ⟨w.heap.size, 0, none⟩) 1 1]).run Try.prog (w.alloc (.cells #[.string (bs x)] 9)) = .ok (.slice (some ⟨q, 0, none⟩) (l.length + 1) c) w' ∧ w'.ownsRow base 9 1 (.slice (some ⟨q, 0, none⟩) (l.length + 1) c) (l ++ [x]).length (strV (l ++ [x])) ∧ (w.alloc (.cells #[.string (bs x)] 9)).grownBy w' v.ownBlock ∧ (some q = v.ownBlock ∨ q = w.heap.size + 1) := by
  obtain ⟨i0, hi0, hz0, hz1, hz2⟩ := info_parts info9
  have hc : ∀ j u, ([.string (bs x)] : List Value)[j]? = some u → (w.alloc (.cells #[.string (bs x)] 9)).cell? ((⟨w.heap.size, 0, none⟩ : Addr).add j) = some u := by
    intro j u hj
    rw [Go.WideShapes.add_plain, cell_of_row _ w.heap.size _ _ 9 (0, 0) (heap_alloc_new w _), Nat.zero_add]
    simpa using hj
  obtain ⟨v5, w5, hr5, hO5, hg5, _, hat⟩ := run_append_own_at (P := Try.prog) (w.alloc (.cells #[.string (bs x)] 9)) base 26 26 9 i0 (.string ⟨#[]⟩) 1 16 Try.underlying26 hi0 hz0 hz1 hz2 rfl (by decide) v l.length _ (h.alloc _) ⟨w.heap.size, 0, none⟩ 1 1 [.string (bs x)] rfl hc (by intro u hu; simp at hu; subst hu; rfl) (by unfold maxLen; omega) (by omega) (by simp; omega)
  obtain ⟨q5, c5, rfl⟩ : ∃ q5 c5, v5 = .slice (some ⟨q5, 0, none⟩) (l.length + 1) c5 := by
    rcases hO5.2 with ⟨_, h1⟩ | ⟨k, cap, cur, hv, _⟩
    · omega
    · exact ⟨k, cap, hv⟩
  refine ⟨q5, c5, w5, hr5, ?_, hg5, ?_⟩
  · rw [show (l ++ [x]).length = l.length + 1 from by simp, show strV (l ++ [x]) = strV l ++ [.string (bs x)] from by simp [strV]]; exact hO5
  · rcases hat with h | h
    · exact .inl h
    · refine .inr ?_
      have : some q5 = some (w.heap.size + 1) := by rw [show (some q5 : Option Nat) = (Value.slice (some ⟨q5, 0, none⟩) (l.length + 1) c5).ownBlock from rfl, h]; simp
      injection this
/-- A row of the call's own: its cells, their marks, and one cell set. -/
theorem own_at {w : World} {base e n q c : Nat} {xs : List Value} (h : w.ownsRow base e 1 (.slice (some ⟨q, 0, none⟩) n c) n xs) (hn : 0 < n) : n ≤ c ∧ base ≤ q ∧ q < w.heap.size ∧ (∀ j u, xs[j]? = some u → w.cell? ⟨q, j, none⟩ = some u ∧ w.frozen? ⟨q, j, none⟩ = false) ∧ ∀ j u, j < n → (w.setCell ⟨q, j, none⟩ u).ownsRow base e 1 (.slice (some ⟨q, 0, none⟩) n c) n (xs.set j u) := by
  have hR := (RdS.own h).2 hn
  rcases h.2 with ⟨_, h0⟩ | ⟨q', cap, cur, hv, h2, hk, h3, h4, h5, h6⟩
  · omega
  · injection hv with hv1 _ hv3
    injection hv1 with hv1
    injection hv1 with hv1
    subst hv1
    subst hv3
    refine ⟨h3, h2, heap_ltM hk, fun j u hj => ⟨?_, by simp [World.frozen?, hk]⟩, fun j u hj => ⟨by rw [List.length_set]; exact h.1, .inr ⟨q, c, cur.setIfInBounds j u, rfl, h2, ?_, h3, h4, by simpa using h5, ?_⟩⟩⟩
    · obtain ⟨b, o, hA, _, hc⟩ := hR
      injection hA with hA
      injection hA with hA1 hA2
      subst hA1; subst hA2
      have := hc j u hj
      rwa [Nat.zero_add] at this
    · simp [World.setCell, Array.getElem?_modify, hk]
    · rw [Array.toList_setIfInBounds, List.take_set, h6]
end Go.Proofs.Ytpdebnecfknohaa
