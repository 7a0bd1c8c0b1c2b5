/-
  The walk of ModuleFlat's inner loop: what one body comes to.
-/
import Derived.Test.YtpjoggefklohjaaFr
namespace Go.Proofs.Ytpjoggefklohjaa
open Go.RowKit
set_option linter.unusedVariables false

/-- One statement that was read, in a row of its own. -/
theorem one_body {w w' : World} {g : Nat} {k a1 a2 b1 b2 : Int} {xs : List (Int × Int)} {sub : Bd} {Aa Ab : Option Addr} {ca cb : Nat} (hg : Blk w' g 46 #[.int .u8 k, .int .u8 a1, .int .i64 a2, .int .u8 b1, .int .i64 b2, .slice Aa xs.length ca, .slice Ab sub.len cb]) (hb : Below w.heap.size w w') (ha : ArgsAt w (.slice Aa xs.length ca) xs) (hs : BodyV w Ab sub) :
    BodyV w' (some ⟨g, 0, none⟩) (.cons k a1 a2 b1 b2 xs sub .nil) := by
  intro _
  obtain ⟨p0, p1, p2, p3, p4, p5, p6⟩ := hg.c7
  exact ⟨g, 0, rfl, ⟨p0, p1, p2, p3, p4⟩, ⟨_, p5, ha.old hb⟩, ⟨Ab, cb, p6, hs.old hb⟩, trivial⟩
theorem Bd.flat_size : ∀ (t : Bd) (d : Nat), ∀ x ∈ t.flat d, x.sub.size ≤ t.size ∧ x.sub.wide + x.xs.length ≤ t.wide
  | .nil, _, x, h => by simp [Bd.flat] at h
  | .cons k a1 a2 b1 b2 xs sub rest, d, x, h => by
    simp only [Bd.flat, List.mem_cons, List.mem_append] at h
    simp only [Bd.size, Bd.wide]
    rcases h with rfl | h | h
    · dsimp only; omega
    · split at h
      · have := Bd.flat_size sub (d + 1) x h; omega
      · simp at h
    · have := Bd.flat_size rest d x h; omega
end Go.Proofs.Ytpjoggefklohjaa
