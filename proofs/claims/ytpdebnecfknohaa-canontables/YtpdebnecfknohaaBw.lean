
/-
  The walk of ModuleBlocks.
-/
import Derived.Test.YtpdebnecfknohaaRp
import Derived.Test.YtpdebnecfknohaaRs
import Derived.Test.YtpdebnecfknohaaOp
namespace Go.Proofs.Ytpdebnecfknohaa
open Go.RowKit
set_option linter.unusedVariables false
set_option maxRecDepth 20000

theorem sevens_body {w : World} {base n : Nat} (k a1 a2 b1 b2 : Int) (xs : List (Int × Int)) (Aa As : Option Addr) (ca cs : Nat) (ha : ArgsAt w (.slice Aa xs.length ca) xs) {A : Option Addr} {c : Nat}
    (h : w.ownsRow base 50 7 (.slice A n c) n (sevens k a1 a2 b1 b2 (.slice Aa xs.length ca) (.slice As 0 cs) n)) : BodyV w A (Bd.rep k a1 a2 b1 b2 xs n) := by
  intro hp
  rw [rep_len] at hp
  rcases h.2 with ⟨h1, h2⟩ | ⟨q, cap, cur, hv, _⟩
  · omega
  · injection hv with hv
    subst hv
    refine ⟨q, 0, rfl, sevens_at k a1 a2 b1 b2 xs _ As cs ha q n 0 (own_cellsM h)⟩

theorem own_formM {w : World} {base n : Nat} {v : Value} {xs : List Value} {e size : Nat} (h : w.ownsRow base e size v n xs) (hn : 0 < n) : ∃ q cap, v = .slice (some ⟨q, 0, none⟩) n cap ∧ base ≤ q ∧ q < w.heap.size := by
  rcases h.2 with ⟨_, h1⟩ | ⟨k, cap, cur, hv, h2, hk, _⟩
  · omega
  · exact ⟨k, cap, hv, h2, heap_ltM hk⟩
theorem append_noneM (w : World) (q n c : Nat) (h : n ≤ c) : (Builtin.append_ #[38, 38] 38 #[.slice (some ⟨q, 0, none⟩) n c, .slice none 0 0]).run Try.prog w = .ok (.slice (some ⟨q, 0, none⟩) n c) w := by
  obtain ⟨i0, hi0, _⟩ := info_parts info50
  simp [Builtin.append_, run_underlying Try.underlying38, sizeOf, typeInfo, hi0, Builtin.lenOf, Builtin.firstCells, storeCells, h]

def outB (k a1 a2 b1 b2 : Int) (xs : List (Int × Int)) (n : Nat) : Bd := .cons 7 0 0 0 0 [] .nil (Bd.rep k a1 a2 b1 b2 xs n)
theorem out_body {w : World} {base n : Nat} (k a1 a2 b1 b2 : Int) (xs : List (Int × Int)) (Aa As : Option Addr) (ca cs : Nat) (ha : ArgsAt w (.slice Aa xs.length ca) xs) {A : Option Addr} {c : Nat}
    (h : w.ownsRow base 50 7 (.slice A (1 + n) c) (1 + n) (seven 7 0 0 0 0 (.slice none 0 0) (.slice none 0 0) ++ sevens k a1 a2 b1 b2 (.slice Aa xs.length ca) (.slice As 0 cs) n)) : BodyV w A (outB k a1 a2 b1 b2 xs n) := by
  intro hp
  rcases h.2 with ⟨h1, h2⟩ | ⟨q, cap, cur, hv, _⟩
  · omega
  · injection hv with hv
    subst hv
    have g := own_cellsM h
    refine ⟨q, 0, rfl, ⟨g 0 _ rfl, g 1 _ rfl, g 2 _ rfl, g 3 _ rfl, g 4 _ rfl⟩, ⟨_, g 5 _ rfl, ⟨none, 0, rfl, fun h => by simp at h⟩⟩, ⟨none, 0, g 6 _ rfl, fun h => by simp [Bd.len] at h⟩, ?_⟩
    refine sevens_at k a1 a2 b1 b2 xs _ As cs ha q n 7 fun j u hj => ?_
    have := g (7 + j) u (by rw [List.getElem?_append_right (by simp [seven])]; simpa [seven] using hj)
    rwa [Nat.zero_add] at this

theorem rep_same_nil (k a1 a2 b1 b2 : Int) (xs : List (Int × Int)) (n : Nat) : (Bd.rep k a1 a2 b1 b2 xs n).same .nil = decide (n = 0) := by
  cases n <;> simp [Bd.rep, Bd.same]
end Go.Proofs.Ytpdebnecfknohaa
