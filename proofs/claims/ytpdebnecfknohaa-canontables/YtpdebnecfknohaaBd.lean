
/-
  A body of statements, as a tree and as it lies in memory; what Count leaves.
-/
import Derived.Test.YtpdebnecfknohaaChecked
import Derived.WalkKit
import Derived.WalkLawsBesides
import Derived.Lib.Hide
import Derived.Below
import Derived.IntWalk
import Derived.Laws.OwnMore
import Derived.Laws.Rows
import Derived.Deep.QuietTactic
import Derived.BigQuiet
import Derived.Deep.LoopGhost
namespace Go.Proofs.Ytpdebnecfknohaa
open Go.RowKit
set_option linter.unusedVariables false
set_option maxRecDepth 20000

/-- A body: none, or a statement (its kind, its references, its arguments, its own body) ahead of a body. -/
inductive Bd where
  | nil : Bd
  | cons (k a1 a2 b1 b2 : Int) (args : List (Int × Int)) (sub rest : Bd) : Bd
def Bd.len : Bd → Nat
  | .nil => 0
  | .cons _ _ _ _ _ _ _ rest => rest.len + 1
def Bd.size : Bd → Nat
  | .nil => 0
  | .cons _ _ _ _ _ _ sub rest => sub.size + rest.size + 1
def Bd.drop : Nat → Bd → Bd
  | 0, b => b
  | n + 1, .nil => .nil
  | n + 1, .cons _ _ _ _ _ _ _ rest => rest.drop n
/-- How many statements are listed. -/
def Bd.cnt : Nat → Bd → Nat
  | _, .nil => 0
  | deep, .cons k _ _ _ _ _ sub rest => 1 + (if k = 7 ∧ deep < 1000 then sub.cnt (deep + 1) else 0) + rest.cnt deep
/-- References in a row. -/
def ArgsAt (w : World) (v : Value) (l : List (Int × Int)) : Prop := ∃ A c, v = .slice A l.length c ∧ (0 < l.length → ∃ b o, A = some ⟨b, o, none⟩ ∧ ∀ i, i < l.length → w.cell? ⟨b, o + i * 2, none⟩ = some (.int .u8 (l.getD i (0, 0)).1) ∧ w.cell? ⟨b, o + i * 2 + 1, none⟩ = some (.int .i64 (l.getD i (0, 0)).2))
/-- Statements from a place on. -/
def BdAt (w : World) : Nat → Nat → Bd → Prop
  | _, _, .nil => True
  | b, o, .cons k a1 a2 b1 b2 args sub rest => (w.cell? ⟨b, o, none⟩ = some (.int .u8 k) ∧ w.cell? ⟨b, o + 1, none⟩ = some (.int .u8 a1) ∧ w.cell? ⟨b, o + 2, none⟩ = some (.int .i64 a2) ∧ w.cell? ⟨b, o + 3, none⟩ = some (.int .u8 b1) ∧ w.cell? ⟨b, o + 4, none⟩ = some (.int .i64 b2)) ∧
      (∃ va, w.cell? ⟨b, o + 5, none⟩ = some va ∧ ArgsAt w va args) ∧
      (∃ A c, w.cell? ⟨b, o + 6, none⟩ = some (.slice A sub.len c) ∧ (0 < sub.len → ∃ b' o', A = some ⟨b', o', none⟩ ∧ BdAt w b' o' sub)) ∧ BdAt w b (o + 7) rest
/-- A slice that reads as a body. -/
def BodyV (w : World) (A : Option Addr) (t : Bd) : Prop := 0 < t.len → ∃ b o, A = some ⟨b, o, none⟩ ∧ BdAt w b o t
theorem cell_old {w w' : World} {B : Nat} (hb : Below B w w') {b o : Nat} {v : Value} (hB : b < B) (h : w.cell? ⟨b, o, none⟩ = some v) : w'.cell? ⟨b, o, none⟩ = some v :=
  (World.cell?_of_block (hb.block b hB)).trans h
theorem ArgsAt.old {w w' : World} {v : Value} {l : List (Int × Int)} (h : ArgsAt w v l) (hb : Below w.heap.size w w') : ArgsAt w' v l := by
  obtain ⟨A, c, hv, h⟩ := h
  refine ⟨A, c, hv, fun hp => ?_⟩
  obtain ⟨b, o, hA, hc⟩ := h hp
  exact ⟨b, o, hA, fun i hi => ⟨cell_old hb (World.block_lt_of_cell? w ⟨b, o + i * 2, none⟩ (hc i hi).1) (hc i hi).1, cell_old hb (World.block_lt_of_cell? w ⟨b, o + i * 2, none⟩ (hc i hi).1) (hc i hi).2⟩⟩
theorem BdAt.old {w w' : World} (hb : Below w.heap.size w w') : ∀ (t : Bd) (b o : Nat), BdAt w b o t → BdAt w' b o t
  | .nil, _, _, _ => trivial
  | .cons k a1 a2 b1 b2 args sub rest, b, o, h => by
    obtain ⟨⟨h1, h2, h3, h4, h5⟩, ⟨va, h6, h7⟩, ⟨A, c, h8, h9⟩, h10⟩ := h
    have hl := World.block_lt_of_cell? w ⟨b, o, none⟩ h1
    refine ⟨⟨cell_old hb hl h1, cell_old hb hl h2, cell_old hb hl h3, cell_old hb hl h4, cell_old hb hl h5⟩, ⟨va, cell_old hb hl h6, h7.old hb⟩, ⟨A, c, cell_old hb hl h8, fun hp => ?_⟩, BdAt.old hb rest b _ h10⟩
    obtain ⟨b', o', hA, h11⟩ := h9 hp
    exact ⟨b', o', hA, BdAt.old hb sub b' o' h11⟩
theorem BodyV.old {w w' : World} {A : Option Addr} {t : Bd} (h : BodyV w A t) (hb : Below w.heap.size w w') : BodyV w' A t := fun hp => by
  obtain ⟨b, o, hA, h1⟩ := h hp
  exact ⟨b, o, hA, BdAt.old hb t b o h1⟩
theorem BdAt.drop {w : World} : ∀ (t : Bd) (b o i : Nat), BdAt w b o t → BdAt w b (o + i * 7) (t.drop i)
  | t, b, o, 0, h => by simpa [Bd.drop] using h
  | .nil, b, o, i + 1, h => by simp [Bd.drop, BdAt]
  | .cons _ _ _ _ _ _ _ rest, b, o, i + 1, h => by
    have := BdAt.drop rest b (o + 7) i h.2.2.2
    rw [show o + (i + 1) * 7 = o + 7 + i * 7 from by omega]
    exact this
theorem Bd.len_drop : ∀ (t : Bd) (i : Nat), (t.drop i).len = t.len - i
  | t, 0 => by simp [Bd.drop]
  | .nil, i + 1 => by simp [Bd.drop, Bd.len]
  | .cons _ _ _ _ _ _ _ rest, i + 1 => by simp [Bd.drop, Bd.len, Bd.len_drop rest i]
theorem Bd.size_drop : ∀ (t : Bd) (i : Nat), (t.drop i).size ≤ t.size
  | t, 0 => by simp [Bd.drop]
  | .nil, i + 1 => by simp [Bd.drop]
  | .cons _ _ _ _ _ _ _ rest, i + 1 => by have := Bd.size_drop rest i; simp [Bd.drop, Bd.size]; omega
theorem Bd.drop_succ : ∀ (t : Bd) (i : Nat) {k a1 a2 b1 b2 args sub rest}, t.drop i = .cons k a1 a2 b1 b2 args sub rest → t.drop (i + 1) = rest
  | t, 0, k, a1, a2, b1, b2, args, sub, rest, h => by simp only [Bd.drop] at h; subst h; rfl
  | .nil, i + 1, k, a1, a2, b1, b2, args, sub, rest, h => by simp [Bd.drop] at h
  | .cons _ _ _ _ _ _ _ r, i + 1, k, a1, a2, b1, b2, args, sub, rest, h => by
    simp only [Bd.drop] at h ⊢
    exact Bd.drop_succ r i h
theorem Bd.drop_cons (t : Bd) (i : Nat) (h : i < t.len) : ∃ k a1 a2 b1 b2 args sub rest, t.drop i = .cons k a1 a2 b1 b2 args sub rest := by
  have := Bd.len_drop t i
  cases hd : t.drop i with
  | nil => rw [hd] at this; simp [Bd.len] at this; omega
  | cons k a1 a2 b1 b2 args sub rest => exact ⟨_, _, _, _, _, _, _, _, rfl⟩
theorem Bd.drop_end (t : Bd) (i : Nat) (h : t.len ≤ i) : t.drop i = .nil := by
  have := Bd.len_drop t i
  cases hd : t.drop i with
  | nil => rfl
  | cons k a1 a2 b1 b2 args sub rest => rw [hd] at this; simp [Bd.len] at this; omega
theorem Bd.cnt_le (t : Bd) : ∀ d, t.cnt d ≤ t.size := by
  induction t with
  | nil => intro d; simp [Bd.cnt]
  | cons k a1 a2 b1 b2 args sub rest ih1 ih2 =>
    intro d
    have h1 := ih1 (d + 1)
    have h2 := ih2 d
    simp only [Bd.cnt, Bd.size]
    split <;> omega

/-- A cell of the call's own that counts. -/
def Ctr (w : World) (g : Nat) (m : Nat) : Prop := w.heap[g]? = some (.cells #[.int .i64 (m : Int)] 3 (0, 0))
theorem Ctr.cell {w : World} {g m : Nat} (h : Ctr w g m) : w.cell? ⟨g, 0, none⟩ = some (.int .i64 (m : Int)) := by rw [cell_of_row w g 0 _ 3 (0, 0) h]; rfl
def stv (k a1 a2 b1 b2 : Int) (va vs : Value) : Value := .agg #[.int .u8 k, .int .u8 a1, .int .i64 a2, .int .u8 b1, .int .i64 b2, va, vs]

theorem heap_ltM {w : World} {g : Nat} {o : Obj} (h : w.heap[g]? = some o) : g < w.heap.size := by
  rcases Nat.lt_or_ge g w.heap.size with h1 | h1
  · exact h1
  · rw [Array.getElem?_eq_none h1] at h; cases h

/-- One block has turned, and there may be new ones. -/
structure Turn (w w' : World) (g : Nat) : Prop where
  os : w'.os = w.os
  tape : w'.tape = w.tape
  output : w'.output = w.output
  size : w.heap.size ≤ w'.heap.size
  block : ∀ k, k < w.heap.size → k ≠ g → w'.heap[k]? = w.heap[k]?
theorem Turn.below {B : Nat} {a w w' : World} {g : Nat} (h : Turn w w' g) (hb : Below B a w) (hg : B ≤ g) (hB : B ≤ w.heap.size) : Below B a w' :=
  ⟨h.os.trans hb.os, h.tape.trans hb.tape, h.output.trans hb.output, Nat.le_trans hb.size h.size, fun k hk => (h.block k (by omega) (by omega)).trans (hb.block k hk)⟩

/-- A statement with nothing in it but its kind, and its body. -/
def Bd.one (k : Int) (sub : Bd) : Bd := .cons k 0 0 0 0 [] sub .nil
theorem body_one (w : World) (k : Int) (A : Option Addr) (c : Nat) (sub : Bd) (h : BodyV w A sub) :
    BodyV (w.alloc (.cells #[.int .u8 k, .int .u8 0, .int .i64 0, .int .u8 0, .int .i64 0, .slice none 0 0, .slice A sub.len c] 50)) (some ⟨w.heap.size, 0, none⟩) (Bd.one k sub) := by
  intro _
  refine ⟨w.heap.size, 0, rfl, ?_⟩
  have hn := heap_alloc_new w (.cells #[.int .u8 k, .int .u8 0, .int .i64 0, .int .u8 0, .int .i64 0, .slice none 0 0, .slice A sub.len c] 50)
  have hb : Below w.heap.size w (w.alloc (.cells #[.int .u8 k, .int .u8 0, .int .i64 0, .int .u8 0, .int .i64 0, .slice none 0 0, .slice A sub.len c] 50)) := (Below.refl _ _).alloc (Nat.le_refl _) _
  generalize w.alloc (.cells #[.int .u8 k, .int .u8 0, .int .i64 0, .int .u8 0, .int .i64 0, .slice none 0 0, .slice A sub.len c] 50) = w1 at hn hb ⊢
  have hc := fun i => cell_of_row w1 w.heap.size i _ 50 (0, 0) hn
  unfold Bd.one BdAt
  refine ⟨⟨hc 0, hc 1, hc 2, hc 3, hc 4⟩, ⟨.slice none 0 0, hc 5, ⟨none, 0, rfl, fun hp => by simp at hp⟩⟩, ⟨A, c, hc 6, fun hp => ?_⟩, trivial⟩
  obtain ⟨b, o, hA, h1⟩ := h hp
  exact ⟨b, o, hA, BdAt.old hb sub b o h1⟩
theorem BodyV.nil (w : World) (A : Option Addr) : BodyV w A .nil := fun h => by simp [Bd.len] at h

end Go.Proofs.Ytpdebnecfknohaa
