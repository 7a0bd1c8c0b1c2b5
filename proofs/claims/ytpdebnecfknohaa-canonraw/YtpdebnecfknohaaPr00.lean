/-
  Parts: Bd Va Sb Ef Sw Ss Bk Sm Sc Nu Us Cs Cl.
-/
import Derived.Test.YtpdebnecfknohaaChecked
import Derived.WalkKit
import Derived.WalkLawsBesides
import Derived.Lib.Hide
import Derived.Below
import Derived.IntWalk
import Derived.Laws.OwnMore
import Derived.Laws.Rows
import Derived.Deep.QuietTactic
import Derived.BigQuiet
import Derived.Deep.LoopGhost
import Derived.Laws.BytesArg
import Derived.Laws.IdiomStrings
import Derived.StillTactics
import Derived.Deep.Cut
import Derived.Maps.AppendAt
import Derived.Lib.AppendZerosOnto
import Derived.Deep.RegionHeld3
import Derived.OwnWalk
import Derived.Laws.Cover1
namespace Go.Proofs.Ytpdebnecfknohaa
open Go.RowKit
set_option linter.unusedVariables false
set_option maxRecDepth 20000
/-- A body: none, or a statement (its kind, its references, its arguments, its own body) ahead of a body. -/
inductive Bd where
  | nil : Bd
  | cons (k a1 a2 b1 b2 : Int) (args : List (Int × Int)) (sub rest : Bd) : Bd
def Bd.len : Bd → Nat
  | .nil => 0
  | .cons _ _ _ _ _ _ _ rest => rest.len + 1
def Bd.size : Bd → Nat
  | .nil => 0
  | .cons _ _ _ _ _ _ sub rest => sub.size + rest.size + 1
def Bd.drop : Nat → Bd → Bd
  | 0, b => b
  | n + 1, .nil => .nil
  | n + 1, .cons _ _ _ _ _ _ _ rest => rest.drop n
/-- How many statements are listed. -/
def Bd.cnt : Nat → Bd → Nat
  | _, .nil => 0
  | deep, .cons k _ _ _ _ _ sub rest => 1 + (if k = 7 ∧ deep < 1000 then sub.cnt (deep + 1) else 0) + rest.cnt deep
/-- References in a row. -/
def ArgsAt (w : World) (v : Value) (l : List (Int × Int)) : Prop := ∃ A c, v = .slice A l.length c ∧ (0 < l.length → ∃ b o, A = some ⟨b, o, none⟩ ∧ ∀ i, i < l.length → w.cell? ⟨b, o + i * 2, none⟩ = some (.int .u8 (l.getD i (0, 0)).1) ∧ w.cell? ⟨b, o + i * 2 + 1, none⟩ = some (.int .i64 (l.getD i (0, 0)).2))
/-- Statements from a place on. -/
def BdAt (w : World) : Nat → Nat → Bd → Prop
  | _, _, .nil => True
  | b, o, .cons k a1 a2 b1 b2 args sub rest => (w.cell? ⟨b, o, none⟩ = some (.int .u8 k) ∧ w.cell? ⟨b, o + 1, none⟩ = some (.int .u8 a1) ∧ w.cell? ⟨b, o + 2, none⟩ = some (.int .i64 a2) ∧ w.cell? ⟨b, o + 3, none⟩ = some (.int .u8 b1) ∧ w.cell? ⟨b, o + 4, none⟩ = some (.int .i64 b2)) ∧
      (∃ va, w.cell? ⟨b, o + 5, none⟩ = some va ∧ ArgsAt w va args) ∧
      (∃ A c, w.cell? ⟨b, o + 6, none⟩ = some (.slice A sub.len c) ∧ (0 < sub.len → ∃ b' o', A = some ⟨b', o', none⟩ ∧ BdAt w b' o' sub)) ∧ BdAt w b (o + 7) rest
/-- A slice that reads as a body. -/
def BodyV (w : World) (A : Option Addr) (t : Bd) : Prop := 0 < t.len → ∃ b o, A = some ⟨b, o, none⟩ ∧ BdAt w b o t
theorem cell_old {w w' : World} {B : Nat} (hb : Below B w w') {b o : Nat} {v : Value} (hB : b < B) (h : w.cell? ⟨b, o, none⟩ = some v) : w'.cell? ⟨b, o, none⟩ = some v :=
  (World.cell?_of_block (hb.block b hB)).trans h
theorem ArgsAt.old {w w' : World} {v : Value} {l : List (Int × Int)} (h : ArgsAt w v l) (hb : Below w.heap.size w w') : ArgsAt w' v l := by
  obtain ⟨A, c, hv, h⟩ := h
  refine ⟨A, c, hv, fun hp => ?_⟩
  obtain ⟨b, o, hA, hc⟩ := h hp
  exact ⟨b, o, hA, fun i hi => ⟨cell_old hb (World.block_lt_of_cell? w ⟨b, o + i * 2, none⟩ (hc i hi).1) (hc i hi).1, cell_old hb (World.block_lt_of_cell? w ⟨b, o + i * 2, none⟩ (hc i hi).1) (hc i hi).2⟩⟩
theorem BdAt.old {w w' : World} (hb : Below w.heap.size w w') : ∀ (t : Bd) (b o : Nat), BdAt w b o t → BdAt w' b o t
  | .nil, _, _, _ => trivial
  | .cons k a1 a2 b1 b2 args sub rest, b, o, h => by
    obtain ⟨⟨h1, h2, h3, h4, h5⟩, ⟨va, h6, h7⟩, ⟨A, c, h8, h9⟩, h10⟩ := h
    have hl := World.block_lt_of_cell? w ⟨b, o, none⟩ h1
    refine ⟨⟨cell_old hb hl h1, cell_old hb hl h2, cell_old hb hl h3, cell_old hb hl h4, cell_old hb hl h5⟩, ⟨va, cell_old hb hl h6, h7.old hb⟩, ⟨A, c, cell_old hb hl h8, fun hp => ?_⟩, BdAt.old hb rest b _ h10⟩
    obtain ⟨b', o', hA, h11⟩ := h9 hp
    exact ⟨b', o', hA, BdAt.old hb sub b' o' h11⟩
theorem BodyV.old {w w' : World} {A : Option Addr} {t : Bd} (h : BodyV w A t) (hb : Below w.heap.size w w') : BodyV w' A t := fun hp => by
  obtain ⟨b, o, hA, h1⟩ := h hp
  exact ⟨b, o, hA, BdAt.old hb t b o h1⟩
theorem BdAt.drop {w : World} : ∀ (t : Bd) (b o i : Nat), BdAt w b o t → BdAt w b (o + i * 7) (t.drop i)
  | t, b, o, 0, h => by simpa [Bd.drop] using h
  | .nil, b, o, i + 1, h => by simp [Bd.drop, BdAt]
  | .cons _ _ _ _ _ _ _ rest, b, o, i + 1, h => by
    have := BdAt.drop rest b (o + 7) i h.2.2.2
    rw [show o + (i + 1) * 7 = o + 7 + i * 7 from by omega]
    exact this
theorem Bd.len_drop : ∀ (t : Bd) (i : Nat), (t.drop i).len = t.len - i
  | t, 0 => by simp [Bd.drop]
  | .nil, i + 1 => by simp [Bd.drop, Bd.len]
  | .cons _ _ _ _ _ _ _ rest, i + 1 => by simp [Bd.drop, Bd.len, Bd.len_drop rest i]
theorem Bd.size_drop : ∀ (t : Bd) (i : Nat), (t.drop i).size ≤ t.size
  | t, 0 => by simp [Bd.drop]
  | .nil, i + 1 => by simp [Bd.drop]
  | .cons _ _ _ _ _ _ _ rest, i + 1 => by have := Bd.size_drop rest i; simp [Bd.drop, Bd.size]; omega
theorem Bd.drop_succ : ∀ (t : Bd) (i : Nat) {k a1 a2 b1 b2 args sub rest}, t.drop i = .cons k a1 a2 b1 b2 args sub rest → t.drop (i + 1) = rest
  | t, 0, k, a1, a2, b1, b2, args, sub, rest, h => by simp only [Bd.drop] at h; subst h; rfl
  | .nil, i + 1, k, a1, a2, b1, b2, args, sub, rest, h => by simp [Bd.drop] at h
  | .cons _ _ _ _ _ _ _ r, i + 1, k, a1, a2, b1, b2, args, sub, rest, h => by
    simp only [Bd.drop] at h ⊢
    exact Bd.drop_succ r i h
theorem Bd.drop_cons (t : Bd) (i : Nat) (h : i < t.len) : ∃ k a1 a2 b1 b2 args sub rest, t.drop i = .cons k a1 a2 b1 b2 args sub rest := by
  have := Bd.len_drop t i
  cases hd : t.drop i with
  | nil => rw [hd] at this; simp [Bd.len] at this; omega
  | cons k a1 a2 b1 b2 args sub rest => exact ⟨_, _, _, _, _, _, _, _, rfl⟩
theorem Bd.drop_end (t : Bd) (i : Nat) (h : t.len ≤ i) : t.drop i = .nil := by
  have := Bd.len_drop t i
  cases hd : t.drop i with
  | nil => rfl
  | cons k a1 a2 b1 b2 args sub rest => rw [hd] at this; simp [Bd.len] at this; omega
theorem Bd.cnt_le (t : Bd) : ∀ d, t.cnt d ≤ t.size := by
  induction t with
  | nil => intro d; simp [Bd.cnt]
  | cons k a1 a2 b1 b2 args sub rest ih1 ih2 =>
    intro d
    have h1 := ih1 (d + 1)
    have h2 := ih2 d
    simp only [Bd.cnt, Bd.size]
    split <;> omega
/-- A cell of the call's own that counts. -/
def Ctr (w : World) (g : Nat) (m : Nat) : Prop := w.heap[g]? = some (.cells #[.int .i64 (m : Int)] 3 (0, 0))
theorem Ctr.cell {w : World} {g m : Nat} (h : Ctr w g m) : w.cell? ⟨g, 0, none⟩ = some (.int .i64 (m : Int)) := by rw [cell_of_row w g 0 _ 3 (0, 0) h]; rfl
def stv (k a1 a2 b1 b2 : Int) (va vs : Value) : Value := .agg #[.int .u8 k, .int .u8 a1, .int .i64 a2, .int .u8 b1, .int .i64 b2, va, vs]
theorem heap_ltM {w : World} {g : Nat} {o : Obj} (h : w.heap[g]? = some o) : g < w.heap.size := by
  rcases Nat.lt_or_ge g w.heap.size with h1 | h1
  · exact h1
  · rw [Array.getElem?_eq_none h1] at h; cases h
/-- One block has turned, and there may be new ones. -/
structure Turn (w w' : World) (g : Nat) : Prop where
  os : w'.os = w.os
  tape : w'.tape = w.tape
  output : w'.output = w.output
  size : w.heap.size ≤ w'.heap.size
  block : ∀ k, k < w.heap.size → k ≠ g → w'.heap[k]? = w.heap[k]?
theorem Turn.below {B : Nat} {a w w' : World} {g : Nat} (h : Turn w w' g) (hb : Below B a w) (hg : B ≤ g) (hB : B ≤ w.heap.size) : Below B a w' :=
  ⟨h.os.trans hb.os, h.tape.trans hb.tape, h.output.trans hb.output, Nat.le_trans hb.size h.size, fun k hk => (h.block k (by omega) (by omega)).trans (hb.block k hk)⟩
/-- A statement with nothing in it but its kind, and its body. -/
def Bd.one (k : Int) (sub : Bd) : Bd := .cons k 0 0 0 0 [] sub .nil
theorem BodyV.nil (w : World) (A : Option Addr) : BodyV w A .nil := fun h => by simp [Bd.len] at h
end Go.Proofs.Ytpdebnecfknohaa
namespace Go.Proofs.Ytpdebnecfknohaa
open Go.RowKit
set_option linter.unusedVariables false
set_option maxRecDepth 20000
/-- A variable of a function with so many locals, among so many globals, by a number. -/
def varF (nl ng n : Nat) : Int × Int := if n % (nl + ng) < nl then (1, ((n % (nl + ng) : Nat) : Int)) else (2, ((n % (nl + ng) : Nat) : Int) - (nl : Int))
/-- A name by a number. -/
def nameF (n : Nat) : List UInt8 :=
  if n % 6 = 1 then [110, UInt8.ofNat (97 + n / 6 % 26), 46, 120]
  else if n % 6 = 3 then [97, 32, 34, UInt8.ofNat (48 + n / 6 % 10), 92]
  else if n % 6 = 5 then [UInt8.ofNat (128 + n % 100), 10, UInt8.ofNat (65 + n / 6 % 26)]
  else [118, UInt8.ofNat (97 + n / 2 % 26), UInt8.ofNat (48 + n % 10)]
end Go.Proofs.Ytpdebnecfknohaa
namespace Go.Proofs.Ytpdebnecfknohaa
open Go.RowKit
set_option linter.unusedVariables false
set_option maxRecDepth 20000
/-- Are two bodies one? -/
def Bd.same : Bd → Bd → Bool
  | .nil, .nil => true
  | .cons k a1 a2 b1 b2 xs s r, .cons k' a1' a2' b1' b2' xs' s' r' => decide (k = k') && decide ((a1, a2) = (a1', a2')) && decide ((b1, b2) = (b1', b2')) && decide (xs = xs') && s.same s' && r.same r'
  | _, _ => false
/-- Are they one, whatever stands in their statements' bodies? -/
def Bd.shal : Bd → Bd → Bool
  | .nil, .nil => true
  | .cons k a1 a2 b1 b2 xs s r, .cons k' a1' a2' b1' b2' xs' s' r' => decide (k = k') && decide ((a1, a2) = (a1', a2')) && decide ((b1, b2) = (b1', b2')) && decide (xs = xs') && r.shal r'
  | _, _ => false
theorem Bd.same_refl : ∀ t : Bd, t.same t = true
  | .nil => rfl
  | .cons k a1 a2 b1 b2 xs s r => by simp [Bd.same, Bd.same_refl s, Bd.same_refl r]
theorem Bd.shal_len : ∀ (t u : Bd), t.shal u = true → t.len = u.len
  | .nil, .nil, _ => rfl
  | .cons _ _ _ _ _ _ _ r, .cons _ _ _ _ _ _ _ r', h => by
    simp only [Bd.shal, Bool.and_eq_true] at h
    simp only [Bd.len]
    rw [Bd.shal_len r r' h.2]
  | .nil, .cons _ _ _ _ _ _ _ _, h => by simp [Bd.shal] at h
  | .cons _ _ _ _ _ _ _ _, .nil, h => by simp [Bd.shal] at h
theorem Bd.same_shal : ∀ (t u : Bd), t.shal u = false → t.same u = false
  | .nil, .nil, h => by simp [Bd.shal] at h
  | .cons k a1 a2 b1 b2 xs s r, .cons k' a1' a2' b1' b2' xs' s' r', h => by
    simp only [Bd.shal, Bd.same] at h ⊢
    cases hr : r.shal r'
    · rw [Bd.same_shal r r' hr, Bool.and_false]
    · rw [hr, Bool.and_true] at h
      rw [h]; simp
  | .nil, .cons _ _ _ _ _ _ _ _, h => rfl
  | .cons _ _ _ _ _ _ _ _, .nil, h => rfl
theorem list_ext_args {L M : List (Int × Int)} (hl : L.length = M.length) (h : ∀ i, i < L.length → L.getD i (0, 0) = M.getD i (0, 0)) : L = M := by
  apply List.ext_getElem hl
  intro i h1 h2
  have := h i h1
  simpa [List.getD, h1, h2] using this
/-- A statement's own cells, but its body. -/
structure StV where
  k : Int
  a1 : Int
  a2 : Int
  b1 : Int
  b2 : Int
  xs : List (Int × Int)
def StV.eq (s t : StV) : Bool := decide (s.k = t.k) && decide ((s.a1, s.a2) = (t.a1, t.a2)) && decide ((s.b1, s.b2) = (t.b1, t.b2)) && decide (s.xs = t.xs)
end Go.Proofs.Ytpdebnecfknohaa
namespace Go.Proofs.Ytpdebnecfknohaa
open Go.RowKit
set_option linter.unusedVariables false
set_option maxRecDepth 20000
theorem Bd.len_le : ∀ t : Bd, t.len ≤ t.size
  | .nil => Nat.le_refl _
  | .cons _ _ _ _ _ _ s r => by have := Bd.len_le r; simp only [Bd.len, Bd.size]; omega
/-- The longest row of arguments. -/
def Bd.wide : Bd → Nat
  | .nil => 0
  | .cons _ _ _ _ _ xs s r => xs.length + s.wide + r.wide
theorem Bd.wide_drop : ∀ (t : Bd) (i : Nat), (t.drop i).wide ≤ t.wide
  | t, 0 => by simp [Bd.drop]
  | .nil, i + 1 => by simp [Bd.drop]
  | .cons _ _ _ _ _ _ _ r, i + 1 => by have := Bd.wide_drop r i; simp only [Bd.drop, Bd.wide]; omega
theorem Bd.shal_lenne (t u : Bd) (h : t.len ≠ u.len) : t.shal u = false := by
  cases hs : t.shal u
  · rfl
  · exact absurd (Bd.shal_len t u hs) h
end Go.Proofs.Ytpdebnecfknohaa
namespace Go.Proofs.Ytpdebnecfknohaa
open Go.RowKit
set_option linter.unusedVariables false
set_option maxRecDepth 20000
/-- Two bodies that are to be held against each other, with the slices that say them. -/
structure Pn where
  A : Option Addr
  B : Option Addr
  c : Nat
  d : Nat
  t : Bd
  u : Bd
def flatP : List Pn → List Value
  | [] => []
  | p :: P => .slice p.A p.t.len p.c :: .slice p.B p.u.len p.d :: flatP P
def OKp (w : World) (p : Pn) : Prop := BodyV w p.A p.t ∧ BodyV w p.B p.u ∧ p.t.wide ≤ 1000000000 ∧ p.u.wide ≤ 1000000000
def wtP : List Pn → Nat
  | [] => 0
  | p :: P => p.t.size + p.u.size + 1 + wtP P
def allP (P : List Pn) : Bool := P.all fun p => p.t.same p.u
theorem Bd.same_empty (s1 s2 : Bd) (h1 : s1.len = 0) (h2 : s2.len = 0) : s1.same s2 = true := by
  cases s1 with
  | nil => cases s2 with
    | nil => rfl
    | cons => simp [Bd.len] at h2
  | cons => simp [Bd.len] at h1
theorem Bd.sub_wide (t : Bd) (i : Nat) {k a1 a2 b1 b2 : Int} {xs : List (Int × Int)} {s r : Bd} (h : t.drop i = .cons k a1 a2 b1 b2 xs s r) : s.wide ≤ t.wide := by
  have := Bd.wide_drop t i
  rw [h] at this
  simp only [Bd.wide] at this
  omega
theorem own_old {w w' : World} {base e size n : Nat} {v : Value} {xs : List Value} (h : w.ownsRow base e size v n xs) (hb : Below w.heap.size w w') : w'.ownsRow base e size v n xs := by
  refine ⟨h.1, ?_⟩
  rcases h.2 with h1 | ⟨k, cap, cur, hv, h2, hk, rest⟩
  · exact .inl h1
  · exact .inr ⟨k, cap, cur, hv, h2, (hb.block k (heap_ltM hk)).trans hk, rest⟩
theorem alloc_sizeM (w : World) (o : Obj) : (w.alloc o).heap.size = w.heap.size + 1 := by simp
end Go.Proofs.Ytpdebnecfknohaa
namespace Go.Proofs.Ytpdebnecfknohaa
open Go.RowKit
set_option linter.unusedVariables false
set_option maxRecDepth 20000
/-- References in a row, in a block of the kind. -/
def ArgsS (S : Nat → Prop) (w : World) (v : Value) (l : List (Int × Int)) : Prop := ∃ A c, v = .slice A l.length c ∧ (0 < l.length → ∃ b o, A = some ⟨b, o, none⟩ ∧ S b ∧ ∀ i, i < l.length → w.cell? ⟨b, o + i * 2, none⟩ = some (.int .u8 (l.getD i (0, 0)).1) ∧ w.cell? ⟨b, o + i * 2 + 1, none⟩ = some (.int .i64 (l.getD i (0, 0)).2))
def BdS (S : Nat → Prop) (w : World) : Nat → Nat → Bd → Prop
  | _, _, .nil => True
  | b, o, .cons k a1 a2 b1 b2 args sub rest => S b ∧ (w.cell? ⟨b, o, none⟩ = some (.int .u8 k) ∧ w.cell? ⟨b, o + 1, none⟩ = some (.int .u8 a1) ∧ w.cell? ⟨b, o + 2, none⟩ = some (.int .i64 a2) ∧ w.cell? ⟨b, o + 3, none⟩ = some (.int .u8 b1) ∧ w.cell? ⟨b, o + 4, none⟩ = some (.int .i64 b2)) ∧
      (∃ va, w.cell? ⟨b, o + 5, none⟩ = some va ∧ ArgsS S w va args) ∧
      (∃ A c, w.cell? ⟨b, o + 6, none⟩ = some (.slice A sub.len c) ∧ (0 < sub.len → ∃ b' o', A = some ⟨b', o', none⟩ ∧ BdS S w b' o' sub)) ∧ BdS S w b (o + 7) rest
def BodyS (S : Nat → Prop) (w : World) (A : Option Addr) (t : Bd) : Prop := 0 < t.len → ∃ b o, A = some ⟨b, o, none⟩ ∧ BdS S w b o t
theorem ArgsS.at_ {S : Nat → Prop} {w : World} {v : Value} {l : List (Int × Int)} (h : ArgsS S w v l) : ArgsAt w v l := by
  obtain ⟨A, c, hv, h⟩ := h
  exact ⟨A, c, hv, fun hp => by obtain ⟨b, o, hA, _, hc⟩ := h hp; exact ⟨b, o, hA, hc⟩⟩
theorem BdS.at_ {S : Nat → Prop} {w : World} : ∀ (t : Bd) (b o : Nat), BdS S w b o t → BdAt w b o t
  | .nil, _, _, _ => trivial
  | .cons k a1 a2 b1 b2 args sub rest, b, o, h => by
    obtain ⟨_, h1, ⟨va, h2, h3⟩, ⟨A, c, h4, h5⟩, h6⟩ := h
    refine ⟨h1, ⟨va, h2, h3.at_⟩, ⟨A, c, h4, fun hp => ?_⟩, BdS.at_ rest b _ h6⟩
    obtain ⟨b', o', hA, h7⟩ := h5 hp
    exact ⟨b', o', hA, BdS.at_ sub b' o' h7⟩
theorem BodyS.at_ {S : Nat → Prop} {w : World} {A : Option Addr} {t : Bd} (h : BodyS S w A t) : BodyV w A t := fun hp => by
  obtain ⟨b, o, hA, h1⟩ := h hp
  exact ⟨b, o, hA, BdS.at_ t b o h1⟩
/-- Blocks of the kind are as they were. -/
def Kept (S : Nat → Prop) (w w' : World) : Prop := ∀ k, S k → k < w.heap.size → w'.heap[k]? = w.heap[k]?
theorem Kept.cell {S : Nat → Prop} {w w' : World} (h : Kept S w w') {b o : Nat} {v : Value} (hS : S b) (hc : w.cell? ⟨b, o, none⟩ = some v) : w'.cell? ⟨b, o, none⟩ = some v :=
  (World.cell?_of_block (h b hS (World.block_lt_of_cell? w ⟨b, o, none⟩ hc))).trans hc
theorem ArgsS.kept {S S' : Nat → Prop} {w w' : World} {v : Value} {l : List (Int × Int)} (h : ArgsS S w v l) (hk : Kept S w w') (hS : ∀ k, S k → k < w.heap.size → S' k) : ArgsS S' w' v l := by
  obtain ⟨A, c, hv, h⟩ := h
  refine ⟨A, c, hv, fun hp => ?_⟩
  obtain ⟨b, o, hA, hb, hc⟩ := h hp
  exact ⟨b, o, hA, hS b hb (World.block_lt_of_cell? w ⟨b, o + 0 * 2, none⟩ (hc 0 hp).1), fun i hi => ⟨hk.cell hb (hc i hi).1, hk.cell hb (hc i hi).2⟩⟩
theorem BdS.kept {S S' : Nat → Prop} {w w' : World} (hk : Kept S w w') (hS : ∀ k, S k → k < w.heap.size → S' k) : ∀ (t : Bd) (b o : Nat), BdS S w b o t → BdS S' w' b o t
  | .nil, _, _, _ => trivial
  | .cons k a1 a2 b1 b2 args sub rest, b, o, h => by
    obtain ⟨hb, ⟨h1, h2, h3, h4, h5⟩, ⟨va, h6, h7⟩, ⟨A, c, h8, h9⟩, h10⟩ := h
    refine ⟨hS b hb (World.block_lt_of_cell? w ⟨b, o, none⟩ h1), ⟨hk.cell hb h1, hk.cell hb h2, hk.cell hb h3, hk.cell hb h4, hk.cell hb h5⟩, ⟨va, hk.cell hb h6, h7.kept hk hS⟩, ⟨A, c, hk.cell hb h8, fun hp => ?_⟩, BdS.kept hk hS rest b _ h10⟩
    obtain ⟨b', o', hA, h11⟩ := h9 hp
    exact ⟨b', o', hA, BdS.kept hk hS sub b' o' h11⟩
theorem BodyS.kept {S S' : Nat → Prop} {w w' : World} {A : Option Addr} {t : Bd} (h : BodyS S w A t) (hk : Kept S w w') (hS : ∀ k, S k → k < w.heap.size → S' k) : BodyS S' w' A t := fun hp => by
  obtain ⟨b, o, hA, h1⟩ := h hp
  exact ⟨b, o, hA, BdS.kept hk hS t b o h1⟩
theorem Below.keptS {S : Nat → Prop} {w w' : World} (h : Below w.heap.size w w') : Kept S w w' := fun k _ hk => h.block k hk
/-- One statement, but where it lies. -/
structure St7 where
  k : Int
  a : Int × Int
  b : Int × Int
  xs : List (Int × Int)
  sub : Bd
/-- A statement by numbers, that is no block: of a function with so many locals and sites, among so many globals and functions, which have so many parameters. -/
def stm0 (nl ng nf ns : Nat) (par : Nat → Nat) (K A B C : Nat) : St7 :=
  if K % 10 = 0 ∨ K % 10 = 1 then ⟨1, varF nl ng A, if C % 4 = 1 then (3, ((B % nf : Nat) : Int)) else if C % 4 = 0 then varF nl ng B else (4, ((B % ns : Nat) : Int)), [], .nil⟩
  else if K % 10 = 2 then ⟨3, varF nl ng A, varF nl ng B, [], .nil⟩
  else if K % 10 = 3 then ⟨4, varF nl ng A, varF nl ng B, [], .nil⟩
  else if K % 10 = 4 then ⟨5, if C % 3 = 0 then (0, 0) else varF nl ng A, (3, ((B % nf : Nat) : Int)), (List.range (par (B % nf))).map fun i => varF nl ng ((A + C + i) % 256), .nil⟩
  else if K % 10 = 5 then ⟨5, if C % 3 = 0 then (0, 0) else varF nl ng A, varF nl ng B, (List.range (C / 4 % 4)).map fun i => varF nl ng ((A + C + i) % 256), .nil⟩
  else if K % 10 = 6 then ⟨6, (0, 0), varF nl ng B, [], .nil⟩
  else ⟨2, varF nl ng A, varF nl ng B, [], .nil⟩
def St7.ahead (s : St7) (r : Bd) : Bd := .cons s.k s.a.1 s.a.2 s.b.1 s.b.2 s.xs s.sub r
def stm (nl ng nf ns : Nat) (par : Nat → Nat) (K A B C : Nat) : St7 :=
  if K % 10 = 7 then (if C % 8 = 7 then ⟨7, (0, 0), (0, 0), [], .nil⟩ else ⟨7, (0, 0), (0, 0), [], (stm0 nl ng nf ns par (C % 8) A B C).ahead ((⟨2, varF nl ng B, varF nl ng A, [], .nil⟩ : St7).ahead .nil)⟩)
  else stm0 nl ng nf ns par K A B C
/-- What the call of statement leaves. -/
def StPost (w : World) (s : St7) (e : Ending) (w' : World) : Prop := ∃ va A c, e = .returned (.agg #[.int .u8 s.k, .int .u8 s.a.1, .int .i64 s.a.2, .int .u8 s.b.1, .int .i64 s.b.2, va, .slice A s.sub.len c]) ∧ ArgsS (fun k => w.heap.size ≤ k) w' va s.xs ∧ BodyS (fun k => w.heap.size ≤ k) w' A s.sub ∧ Below w.heap.size w w'
end Go.Proofs.Ytpdebnecfknohaa
namespace Go.Proofs.Ytpdebnecfknohaa
open Go.RowKit
set_option linter.unusedVariables false
set_option maxRecDepth 20000
def Blk (w : World) (g : Nat) (t : TypeId) (cs : Array Value) : Prop := w.heap[g]? = some (.cells cs t (0, 0))
section
variable {w w' : World} {g : Nat} {t : TypeId} {cs : Array Value}
theorem Blk.lt (h : Blk w g t cs) : g < w.heap.size := heap_ltM h
theorem Blk.cell (h : Blk w g t cs) (i : Nat) : w.cell? ⟨g, i, none⟩ = cs[i]? := cell_of_row w g i cs t (0, 0) h
theorem Blk.frozen (h : Blk w g t cs) (i : Nat) : w.frozen? ⟨g, i, none⟩ = false := by
  unfold Blk at h
  simp [World.frozen?, h]
theorem Blk.new (w : World) (t : TypeId) (cs : Array Value) : Blk (w.alloc (.cells cs t)) w.heap.size t cs := heap_alloc_new w _
theorem Blk.new' (w : World) (t : TypeId) (cs : Array Value) (g : Nat) (h : g = w.heap.size) : Blk (w.alloc (.cells cs t)) g t cs := by subst h; exact heap_alloc_new w _
theorem Blk.alloc (h : Blk w g t cs) (o : Obj) : Blk (w.alloc o) g t cs := (heap_alloc_old w o h.lt).trans h
theorem Blk.below {B : Nat} (h : Blk w g t cs) (hb : Below B w w') (hg : g < B) : Blk w' g t cs := (hb.block g hg).trans h
theorem Blk.old (h : Blk w g t cs) (hb : Below w.heap.size w w') : Blk w' g t cs := h.below hb h.lt
theorem Blk.drew (h : Blk w g t cs) : Blk w.drew g t cs := h
theorem Blk.set_ (h : Blk w g t cs) (i : Nat) (u : Value) : Blk (w.setCell ⟨g, i, none⟩ u) g t (cs.setIfInBounds i u) := by
  unfold Blk at h ⊢
  simp [World.setCell, Array.getElem?_modify, h]
theorem Blk.far (h : Blk w g t cs) {p : Addr} (hp : g ≠ p.block) (u : Value) : Blk (w.setCell p u) g t cs := (Below.heap_setCell w p u g hp).trans h
theorem Blk.grown {row : Option Nat} (h : Blk w g t cs) (hb : w.grownBy w' row) (hg : some g ≠ row) : Blk w' g t cs := (hb.block g h.lt hg).trans h
theorem Blk.kept {S : Nat → Prop} (h : Blk w g t cs) (hk : Kept S w w') (hS : S g) : Blk w' g t cs := (hk g hS h.lt).trans h
theorem Blk.c2 {a b : Value} (h : Blk w g t #[a, b]) : w.cell? ⟨g, 0, none⟩ = some a ∧ w.cell? ⟨g, 1, none⟩ = some b := ⟨h.cell 0, h.cell 1⟩
theorem Blk.c4 {a b c d : Value} (h : Blk w g t #[a, b, c, d]) : w.cell? ⟨g, 0, none⟩ = some a ∧ w.cell? ⟨g, 1, none⟩ = some b ∧ w.cell? ⟨g, 2, none⟩ = some c ∧ w.cell? ⟨g, 3, none⟩ = some d := ⟨h.cell 0, h.cell 1, h.cell 2, h.cell 3⟩
theorem Blk.c5 {a b c d e : Value} (h : Blk w g t #[a, b, c, d, e]) : w.cell? ⟨g, 0, none⟩ = some a ∧ w.cell? ⟨g, 1, none⟩ = some b ∧ w.cell? ⟨g, 2, none⟩ = some c ∧ w.cell? ⟨g, 3, none⟩ = some d ∧ w.cell? ⟨g, 4, none⟩ = some e := ⟨h.cell 0, h.cell 1, h.cell 2, h.cell 3, h.cell 4⟩
theorem Blk.c7 {a b c d e f i : Value} (h : Blk w g t #[a, b, c, d, e, f, i]) : w.cell? ⟨g, 0, none⟩ = some a ∧ w.cell? ⟨g, 1, none⟩ = some b ∧ w.cell? ⟨g, 2, none⟩ = some c ∧ w.cell? ⟨g, 3, none⟩ = some d ∧ w.cell? ⟨g, 4, none⟩ = some e ∧ w.cell? ⟨g, 5, none⟩ = some f ∧ w.cell? ⟨g, 6, none⟩ = some i := ⟨h.cell 0, h.cell 1, h.cell 2, h.cell 3, h.cell 4, h.cell 5, h.cell 6⟩
end
end Go.Proofs.Ytpdebnecfknohaa
namespace Go.Proofs.Ytpdebnecfknohaa
open Go.RowKit
set_option linter.unusedVariables false
set_option maxRecDepth 20000
theorem noBody (S : Nat → Prop) (w : World) (A : Option Addr) : BodyS S w A .nil := fun h => by simp [Bd.len] at h
theorem set7 {B q : Nat} {a w : World} (h : Below B a w) (hq : B ≤ q) (v0 v1 v2 v3 v4 v5 v6 : Value) : Below B a (((((((w.setCell ⟨q, 0, none⟩ v0).setCell ⟨q, 1, none⟩ v1).setCell ⟨q, 2, none⟩ v2).setCell ⟨q, 3, none⟩ v3).setCell ⟨q, 4, none⟩ v4).setCell ⟨q, 5, none⟩ v5).setCell ⟨q, 6, none⟩ v6) :=
  ((((((h.setCell (p := ⟨q, 0, none⟩) hq _).setCell (p := ⟨q, 1, none⟩) hq _).setCell (p := ⟨q, 2, none⟩) hq _).setCell (p := ⟨q, 3, none⟩) hq _).setCell (p := ⟨q, 4, none⟩) hq _).setCell (p := ⟨q, 5, none⟩) hq _).setCell (p := ⟨q, 6, none⟩) hq _
end Go.Proofs.Ytpdebnecfknohaa
namespace Go.Proofs.Ytpdebnecfknohaa
open Go.RowKit
set_option linter.unusedVariables false
set_option maxRecDepth 20000
/-- append at a step of a region that draws, by its own equation. -/
theorem step_append_run {P : Program} (w : World) {ops : Array Oper} {o : Oper} {a : Act} {K : Act → World → Prop} {Q : Exit → Act → World → Prop} {E : Prop} (hgd : o.guard = none) (s x : Operand) (t : TypeId)
    (ho : o.op = .call { callee := .builtin .append, args := #[s, x], argTypes := #[t, t] }) (v xv : Value) (hs : a.eval s = v) (hx : a.eval x = xv) (v' : Value) (w' : World)
    (hr : (Builtin.append_ #[t, t] o.type #[v, xv]).run P w = .ok v' w') (h : K (a.put o.dst v') w') :
    if Region.wanted o (yielded ops a.tmps) = true then Oper.wp P o a w K Q else E := by
  have hw : Region.wanted o (yielded ops a.tmps) = true := by simp [Region.wanted, hgd]
  rw [if_pos hw]
  unfold Oper.wp execOp
  simp only [ho, resolve, invoke, builtin, Sem.run_bind, Sem.run_pure, Result.andThen_ok, List.map_toArray, List.map_cons, List.map_nil, hs, hx, hr]
  exact h
def flatA : List (Int × Int) → List Value
  | [] => []
  | p :: l => .int .u8 p.1 :: .int .i64 p.2 :: flatA l
theorem flatA_append (l m : List (Int × Int)) : flatA (l ++ m) = flatA l ++ flatA m := by
  induction l with
  | nil => rfl
  | cons p l ih => simp [flatA, ih]
theorem info46 : (Try.prog.info? 46).map (fun i => (i.zero, i.size, i.bytes)) = some (some (.agg #[.int .u8 0, .int .i64 0]), 2, 16) := by kernel_rfl
/-- A reference more. -/
theorem push2 (base : Nat) (v : Value) (l : List (Int × Int)) (x1 x2 : Int) (w : World) (h : w.ownsRow base 46 2 v l.length (flatA l)) (hl : l.length ≤ 1000) (hb : base ≤ w.heap.size) :
    ∃ v' w', (Builtin.append_ #[48, 48] 48 #[v, .slice (some ⟨w.heap.size, 0, none⟩) 1 1]).run Try.prog (w.alloc (.cells #[.int .u8 x1, .int .i64 x2] 46)) = .ok v' w' ∧ w'.ownsRow base 46 2 v' (l.length + 1) (flatA (l ++ [(x1, x2)])) ∧ (w.alloc (.cells #[.int .u8 x1, .int .i64 x2] 46)).grownBy w' v.ownBlock := by
  obtain ⟨i0, hi0, hz0, hz1, hz2⟩ := info_parts info46
  have hc : ∀ j u, ([.int .u8 x1, .int .i64 x2] : List Value)[j]? = some u → (w.alloc (.cells #[.int .u8 x1, .int .i64 x2] 46)).cell? ((⟨w.heap.size, 0, none⟩ : Addr).add j) = some u := by
    intro j u hj
    rw [Go.WideShapes.add_plain, cell_of_row _ w.heap.size _ _ 46 (0, 0) (heap_alloc_new w _), Nat.zero_add]
    simpa using hj
  obtain ⟨v5, w5, hr5, hO5, hg5, _, _⟩ := run_append_own_at (P := Try.prog) (w.alloc (.cells #[.int .u8 x1, .int .i64 x2] 46)) base 48 48 46 i0 (.agg #[.int .u8 0, .int .i64 0]) 2 16 Try.underlying48 hi0 hz0 hz1 hz2 rfl (by decide) v l.length _ (h.alloc _) ⟨w.heap.size, 0, none⟩ 1 1 [.int .u8 x1, .int .i64 x2] rfl hc (by intro u hu; simp at hu; rcases hu with rfl | rfl <;> rfl) (by unfold maxLen; omega) (by omega) (by simp; omega)
  refine ⟨v5, w5, hr5, ?_, hg5⟩
  rw [flatA_append]; exact hO5
theorem own_ne {w : World} {base n e size g t : Nat} {v : Value} {xs : List Value} {cs : Array Value} (h : w.ownsRow base e size v n xs) (hb : Blk w g t cs) (hne : e ≠ t) : some g ≠ v.ownBlock := by
  rcases h.2 with ⟨rfl, _⟩ | ⟨k, cap, cur, rfl, _, hk, _⟩
  · simp [Value.ownBlock]
  · intro he
    have : g = k := by simpa [Value.ownBlock] using he
    subst this
    unfold Blk at hb
    rw [hk] at hb
    injection hb with hb
    injection hb with _ ht
    exact hne ht
theorem own_blocks {w w' : World} {base e size n : Nat} {v : Value} {xs : List Value} (h : w.ownsRow base e size v n xs) (hk : ∀ k, some k = v.ownBlock → w'.heap[k]? = w.heap[k]?) : w'.ownsRow base e size v n xs := by
  refine ⟨h.1, ?_⟩
  rcases h.2 with h1 | ⟨k, cap, cur, hv, h2, hh, rest⟩
  · exact .inl h1
  · exact .inr ⟨k, cap, cur, hv, h2, (hk k (by rw [hv]; rfl)).trans hh, rest⟩
theorem set7_far {q k : Nat} {w : World} (v0 v1 v2 v3 v4 v5 v6 : Value) (h : k ≠ q) : (((((((w.setCell ⟨q, 0, none⟩ v0).setCell ⟨q, 1, none⟩ v1).setCell ⟨q, 2, none⟩ v2).setCell ⟨q, 3, none⟩ v3).setCell ⟨q, 4, none⟩ v4).setCell ⟨q, 5, none⟩ v5).setCell ⟨q, 6, none⟩ v6).heap[k]? = w.heap[k]? := by
  rw [Below.heap_setCell _ _ _ _ h, Below.heap_setCell _ _ _ _ h, Below.heap_setCell _ _ _ _ h, Below.heap_setCell _ _ _ _ h, Below.heap_setCell _ _ _ _ h, Below.heap_setCell _ _ _ _ h, Below.heap_setCell _ _ _ _ h]
def argF (nl ng A C n : Nat) : List (Int × Int) := (List.range n).map fun i => varF nl ng ((A + C + i) % 256)
/-- What the loop over the arguments keeps. -/
structure ArgLoop (w : World) (qs : Nat) (M F X Z : Array Value) (a1 a2 b1 b2 : Int) (va : Value) (l : List (Int × Int)) (wr : World) : Prop where
  own : wr.ownsRow w.heap.size 46 2 va l.length (flatA l)
  bs : Blk wr qs 50 #[.int .u8 5, .int .u8 a1, .int .i64 a2, .int .u8 b1, .int .i64 b2, va, .slice none 0 0]
  bm : Blk wr w.heap.size 30 M
  bf : Blk wr (w.heap.size + 1) 40 F
  bx : Blk wr (w.heap.size + 1 + 1) 77 X
  br : Blk wr (w.heap.size + 1 + 1 + 1) 50 Z
  bel : Below w.heap.size w wr
  qs : w.heap.size + 1 + 1 + 1 < qs
/-- One argument more: what the append and the store behind the call leave. -/
theorem ArgLoop.step {w : World} {qs : Nat} {M F X Z : Array Value} {a1 a2 b1 b2 : Int} {va : Value} {l : List (Int × Int)} {wr : World} (h : ArgLoop w qs M F X Z a1 a2 b1 b2 va l wr) (hl : l.length ≤ 1000) (x1 x2 : Int) (w3 : World) (hb : Below wr.heap.size wr w3) :
    ∃ A5 n5 c5 w5, (Builtin.append_ #[48, 48] 48 #[va, .slice (some ⟨w3.heap.size, 0, none⟩) 1 1]).run Try.prog (w3.alloc (.cells #[.int .u8 x1, .int .i64 x2] 46)) = .ok (.slice A5 n5 c5) w5 ∧ w3.cell? ⟨qs, 5, none⟩ = some va ∧ qs < w3.heap.size ∧ w5.cell? ⟨qs, 5, none⟩ = some va ∧ w5.frozen? ⟨qs, 5, none⟩ = false ∧ Hid (Blk w3 w.heap.size 30 M ∧ Blk w3 (w.heap.size + 1) 40 F ∧ Blk w3 (w.heap.size + 1 + 1) 77 X) ∧ Hid (Blk w5 w.heap.size 30 M ∧ Blk w5 (w.heap.size + 1) 40 F ∧ Blk w5 (w.heap.size + 1 + 1) 77 X) ∧ Hid (ArgLoop w qs M F X Z a1 a2 b1 b2 (.slice A5 n5 c5) (l ++ [(x1, x2)]) (w5.setCell ⟨qs, 5, none⟩ (.slice A5 n5 c5))) := by
  have hsz := h.bel.size
  obtain ⟨v5, w5, hr5, hO5, hg5⟩ := push2 w.heap.size va l x1 x2 w3 (own_old h.own hb) hl (Nat.le_trans hsz hb.size)
  obtain ⟨q5, c5, rfl⟩ : ∃ q5 c5, v5 = .slice (some ⟨q5, 0, none⟩) (l.length + 1) c5 := by
    rcases hO5.2 with ⟨_, h1⟩ | ⟨k, cap, cur, hv, _⟩
    · omega
    · exact ⟨k, cap, hv⟩
  have key : ∀ (g t : Nat) (cs : Array Value), t ≠ 46 → Blk wr g t cs → Blk w5 g t cs := fun g t cs ht hB =>
    ((hB.old hb).alloc _).grown hg5 (own_ne (own_old h.own hb) (hB.old hb) (fun e => ht e.symm))
  have bs5 := key _ _ _ (by decide) h.bs
  have hb3 := h.bel.trans (hb.mono hsz)
  have hb5 : Below w.heap.size w w5 := (hb3.alloc hb3.size _).grown hg5 (by have := hb3.size; simp; omega) (fun q hq => ((own_old h.own hb).lt q hq).1)
  have hq := h.qs
  refine ⟨_, _, _, w5, hr5, (h.bs.old hb).cell 5, (h.bs.old hb).lt, bs5.cell 5, bs5.frozen 5, ⟨h.bm.old hb, h.bf.old hb, h.bx.old hb⟩, ⟨key _ _ _ (by decide) h.bm, key _ _ _ (by decide) h.bf, key _ _ _ (by decide) h.bx⟩, ?_, ?_, ?_, ?_, ?_, ?_, ?_, hq⟩
  · rw [show (l ++ [(x1, x2)]).length = l.length + 1 from by simp]
    refine ⟨hO5.1, ?_⟩
    rcases hO5.2 with h1 | ⟨k, cap, cur, hv, h2, hk, rest⟩
    · exact .inl h1
    · have hne : k ≠ qs := by
        rintro rfl
        have := bs5
        unfold Blk at this
        rw [hk] at this
        injection this with this
        injection this with _ ht
        exact absurd ht (by decide)
      exact .inr ⟨k, cap, cur, hv, h2, (Below.heap_setCell w5 ⟨qs, 5, none⟩ _ k hne).trans hk, rest⟩
  · exact bs5.set_ 5 _
  · exact (key _ _ _ (by decide) h.bm).far (by show _ ≠ qs; omega) _
  · exact (key _ _ _ (by decide) h.bf).far (by show _ ≠ qs; omega) _
  · exact (key _ _ _ (by decide) h.bx).far (by show _ ≠ qs; omega) _
  · exact (key _ _ _ (by decide) h.br).far (by show _ ≠ qs; omega) _
  · exact hb5.setCell (p := ⟨qs, 5, none⟩) (by show _ ≤ qs; omega) _
end Go.Proofs.Ytpdebnecfknohaa
namespace Go.Proofs.Ytpdebnecfknohaa
open Go.RowKit
set_option linter.unusedVariables false
set_option maxRecDepth 20000
/-- A string of bytes. -/
def bs (x : List UInt8) : ByteArray := ⟨x.toArray⟩
theorem bs_toList (x : List UInt8) : (bs x).toList = x := by rw [ByteArray.toList_eq]; rfl
/-- A slice that reads as these cells, in a block of the kind. -/
def RdS (S : Nat → Prop) (w : World) (A : Option Addr) (n size : Nat) (xs : List Value) : Prop := xs.length = n * size ∧ (0 < n → ∃ b o, A = some ⟨b, o, none⟩ ∧ S b ∧ ∀ j u, xs[j]? = some u → w.cell? ⟨b, o + j, none⟩ = some u)
theorem RdS.kept {S S' : Nat → Prop} {w w' : World} {A : Option Addr} {n size : Nat} {xs : List Value} (h : RdS S w A n size xs) (hk : Kept S w w') (hS : ∀ k, S k → k < w.heap.size → S' k) (hs : 0 < size) : RdS S' w' A n size xs := by
  refine ⟨h.1, fun hp => ?_⟩
  obtain ⟨b, o, hA, hb, hc⟩ := h.2 hp
  have h0 : 0 < xs.length := by rw [h.1]; exact Nat.mul_pos hp hs
  exact ⟨b, o, hA, hS b hb (World.block_lt_of_cell? w ⟨b, o + 0, none⟩ (hc 0 _ (List.getElem?_eq_getElem h0))), fun j u hj => hk.cell hb (hc j u hj)⟩
theorem RdS.old {S : Nat → Prop} {w w' : World} {A : Option Addr} {n size : Nat} {xs : List Value} (h : RdS S w A n size xs) (hb : Below w.heap.size w w') (hs : 0 < size) : RdS S w' A n size xs := h.kept (fun k _ hk => hb.block k hk) (fun _ h _ => h) hs
theorem RdS.own {w : World} {base n size e c : Nat} {A : Option Addr} {xs : List Value} (h : w.ownsRow base e size (.slice A n c) n xs) : RdS (fun k => base ≤ k) w A n size xs := by
  refine ⟨h.1, fun hp => ?_⟩
  rcases h.2 with ⟨_, h0⟩ | ⟨q, cap, cur, hv, h2, hk, h3, h4, h5, h6⟩
  · omega
  · have hA : A = some ⟨q, 0, none⟩ := by injection hv
    refine ⟨q, 0, hA, h2, fun j u hj => ?_⟩
    rw [cell_of_row w q _ cur e (0, 0) hk, Nat.zero_add, ← Array.getElem?_toList]
    rw [← h6] at hj
    rcases Nat.lt_or_ge j (n * size) with h | h
    · rwa [List.getElem?_take_of_lt h] at hj
    · rw [List.getElem?_eq_none (by rw [List.length_take]; omega)] at hj; cases hj
theorem RdS.below {S : Nat → Prop} {w : World} {A : Option Addr} {n size : Nat} {xs : List Value} (h : RdS S w A n size xs) {S' : Nat → Prop} (hS : ∀ k, S k → S' k) : RdS S' w A n size xs :=
  ⟨h.1, fun hp => by obtain ⟨b, o, hA, hb, hc⟩ := h.2 hp; exact ⟨b, o, hA, hS b hb, hc⟩⟩
def strV (l : List (List UInt8)) : List Value := l.map fun x => .string (bs x)
def intV (l : List Int) : List Value := l.map (Value.int .i64)
theorem strV_len (l : List (List UInt8)) : (strV l).length = l.length := by simp [strV]
theorem intV_len (l : List Int) : (intV l).length = l.length := by simp [intV]
theorem strV_get (l : List (List UInt8)) (i : Nat) (h : i < l.length) : (strV l)[i]? = some (.string (bs l[i])) := by simp [strV, h]
theorem intV_get (l : List Int) (i : Nat) (h : i < l.length) : (intV l)[i]? = some (.int .i64 l[i]) := by simp [intV, h]
/-- The number of a string among others, the first of which has the number i. -/
def numF : List (List UInt8) → List UInt8 → Nat → Int
  | [], _, _ => -1
  | x :: l, s, i => if x = s then (i : Int) else numF l s (i + 1)
set_option maxHeartbeats 1000000 in
theorem number_any (A : Option Addr) (c : Nat) (l : List (List UInt8)) (s : List UInt8) (w : World) (h : RdS (fun _ => True) w A l.length 1 (strV l)) (hl : l.length ≤ 1000000) :
    Calls Try.prog 55 #[.slice A l.length c, .string (bs s)] w fun e w' => e = .returned (.int .i64 (numF l s 0)) ∧ w = w' := by
  have HR := Lib.hid h
  clear h
  obtain ⟨N, hN⟩ : ∃ N, N = l.length := ⟨_, rfl⟩
  rw [← hN] at hl
  have HN := Lib.hid hN
  rw [← hN]
  clear hN
  go_enter Try.func55, Try.ntmps55
  go_wp2_with fail
  go_loopw [5] (fun i wr => ∃ k : Nat, k ≤ N ∧ i = .int .i64 (k : Int) ∧ w = wr ∧ Hid (numF l s 0 = numF (l.drop k) s k)) (fun i _ => N - (intOf i).toNat)
  case atStart => exact ⟨0, Nat.zero_le _, rfl, rfl, rfl⟩
  case round =>
    obtain ⟨k, hk, rfl, rfl, hE⟩ := hrel
    by_cases hlt : k < N
    · have hkl : k < l.length := by have := HN.out; omega
      obtain ⟨b, o, rfl, _, hc⟩ := HR.out.2 (by omega)
      have hcell := hc k _ (strV_get l k hkl)
      have hE2 := hE.out
      rw [List.drop_eq_getElem_cons hkl, numF] at hE2
      clear hc hE
      by_cases hx : l[k] = s
      · rw [if_pos hx] at hE2
        have HE2 := Lib.hid hE2
        have hq : ((bs l[k]).toList == (bs s).toList) = true := by rw [bs_toList, bs_toList]; simp [hx]
        generalize bs l[k] = bk at *
        clear hE2 hx
        go_wp2
        go_ret
        exact ⟨congrArg (fun x => Ending.returned (Value.int .i64 x)) HE2.out.symm, rfl⟩
      · rw [if_neg hx] at hE2
        have HE2 := Lib.hid hE2
        have hq : ((bs l[k]).toList == (bs s).toList) = false := by rw [bs_toList, bs_toList]; simpa using hx
        generalize bs l[k] = bk at *
        clear hE2 hx
        go_wp2
        go_roundw
        case rel => exact ⟨k + 1, by omega, by go_num, trivial, HE2⟩
        case measure => simp [intOf]; omega
    · obtain rfl : k = N := by omega
      have hE2 := hE.out
      rw [List.drop_of_length_le (by have := HN.out; omega), numF] at hE2
      have HE2 := Lib.hid hE2
      clear hE2 hE
      go_wp2
      go_ret
      exact ⟨congrArg (fun x => Ending.returned (Value.int .i64 x)) HE2.out.symm, rfl⟩
theorem numF_bound (l : List (List UInt8)) (s : List UInt8) : ∀ i, -1 ≤ numF l s i ∧ numF l s i ≤ (i : Int) + l.length := by
  induction l with
  | nil => intro i; simp [numF]
  | cons x l ih =>
    intro i
    have := ih (i + 1)
    simp only [numF]
    split
    · simp; omega
    · simp at *; omega
def numsF (l fr : List (List UInt8)) (x : List Int) : List Int := x.map fun i => numF l (fr.getD i.toNat []) 0
theorem info3 : (Try.prog.info? 3).map (fun i => (i.zero, i.size, i.bytes)) = some (some (.int .i64 0), 1, 8) := by kernel_rfl
/-- A number more. -/
theorem push1 (base : Nat) (v : Value) (l : List Int) (x : Int) (w : World) (h : w.ownsRow base 3 1 v l.length (intV l)) (hl : l.length ≤ 1000000) (hb : base ≤ w.heap.size) :
    ∃ q c w', (Builtin.append_ #[27, 27] 27 #[v, .slice (some ⟨w.heap.size, 0, none⟩) 1 1]).run Try.prog (w.alloc (.cells #[.int .i64 x] 3)) = .ok (.slice (some ⟨q, 0, none⟩) (l.length + 1) c) w' ∧ w'.ownsRow base 3 1 (.slice (some ⟨q, 0, none⟩) (l.length + 1) c) (l ++ [x]).length (intV (l ++ [x])) ∧ (w.alloc (.cells #[.int .i64 x] 3)).grownBy w' v.ownBlock ∧ (some q = v.ownBlock ∨ q = w.heap.size + 1) := by
  obtain ⟨i0, hi0, hz0, hz1, hz2⟩ := info_parts info3
  have hc : ∀ j u, ([.int .i64 x] : List Value)[j]? = some u → (w.alloc (.cells #[.int .i64 x] 3)).cell? ((⟨w.heap.size, 0, none⟩ : Addr).add j) = some u := by
    intro j u hj
    rw [Go.WideShapes.add_plain, cell_of_row _ w.heap.size _ _ 3 (0, 0) (heap_alloc_new w _), Nat.zero_add]
    simpa using hj
  obtain ⟨v5, w5, hr5, hO5, hg5, _, hat⟩ := run_append_own_at (P := Try.prog) (w.alloc (.cells #[.int .i64 x] 3)) base 27 27 3 i0 (.int .i64 0) 1 8 Try.underlying27 hi0 hz0 hz1 hz2 rfl (by decide) v l.length _ (h.alloc _) ⟨w.heap.size, 0, none⟩ 1 1 [.int .i64 x] rfl hc (by intro u hu; simp at hu; subst hu; rfl) (by unfold maxLen; omega) (by omega) (by simp; omega)
  obtain ⟨q5, c5, rfl⟩ : ∃ q5 c5, v5 = .slice (some ⟨q5, 0, none⟩) (l.length + 1) c5 := by
    rcases hO5.2 with ⟨_, h1⟩ | ⟨k, cap, cur, hv, _⟩
    · omega
    · exact ⟨k, cap, hv⟩
  refine ⟨q5, c5, w5, hr5, ?_, hg5, ?_⟩
  · rw [show (l ++ [x]).length = l.length + 1 from by simp, show intV (l ++ [x]) = intV l ++ [.int .i64 x] from by simp [intV]]; exact hO5
  · rcases hat with h | h
    · exact .inl h
    · refine .inr ?_
      have : some q5 = some (w.heap.size + 1) := by rw [show (some q5 : Option Nat) = (Value.slice (some ⟨q5, 0, none⟩) (l.length + 1) c5).ownBlock from rfl, h]; simp
      injection this
/-- What a call that hands back a new row of numbers leaves. -/
def IntsPost (w : World) (l : List Int) (e : Ending) (w' : World) : Prop := ∃ A c, e = .returned (.slice A l.length c) ∧ w'.ownsRow w.heap.size 3 1 (.slice A l.length c) l.length (intV l) ∧ Below w.heap.size w w'
set_option maxRecDepth 20000 in
set_option maxHeartbeats 1000000 in
theorem numbers_any (A B C : Option Addr) (ca cb cc : Nat) (l fr : List (List UInt8)) (x : List Int) (w : World) (h1 : RdS (fun _ => True) w A l.length 1 (strV l)) (h2 : RdS (fun _ => True) w B fr.length 1 (strV fr)) (h3 : RdS (fun _ => True) w C x.length 1 (intV x)) (hl : l.length ≤ 1000000) (hf : fr.length ≤ 1000000) (hx : x.length ≤ 1000000) (hi : ∀ i ∈ x, 0 ≤ i ∧ i < fr.length) :
    Calls Try.prog 56 #[.slice A l.length ca, .slice B fr.length cb, .slice C x.length cc] w (IntsPost w (numsF l fr x)) := by
  have H1 := Lib.hid h1
  have H2 := Lib.hid h2
  have H3 := Lib.hid h3
  have HI := Lib.hid hi
  have HL := Lib.hid hl
  clear h1 h2 h3 hi
  obtain ⟨N, hN⟩ : ∃ N, N = x.length := ⟨_, rfl⟩
  obtain ⟨F, hF⟩ : ∃ F, F = fr.length := ⟨_, rfl⟩
  obtain ⟨L, hL⟩ : ∃ L, L = l.length := ⟨_, rfl⟩
  rw [← hN] at hx
  rw [← hF] at hf
  have HN := Lib.hid hN
  have HF := Lib.hid hF
  have HLL := Lib.hid hL
  rw [← hN, ← hF, ← hL]
  clear hN hF hL hl
  go_enter Try.func56, Try.ntmps56
  go_wp2_with fail
  go_loopw [7, 8] (fun s7 s8 wr => ∃ (k : Nat) (Ao : Option Addr) (co : Nat), k ≤ N ∧ s8 = .int .i64 (k : Int) ∧ s7 = .slice Ao k co ∧ Hid (wr.ownsRow w.heap.size 3 1 (.slice Ao k co) (numsF l fr (x.take k)).length (intV (numsF l fr (x.take k)))) ∧ Hid (Below w.heap.size w wr)) (fun _ s8 _ => N - (intOf s8).toNat)
  case atStart => exact ⟨0, none, 0, Nat.zero_le _, rfl, rfl, ⟨rfl, .inl ⟨rfl, rfl⟩⟩, Below.refl _ _⟩
  case round =>
    obtain ⟨k, Ao, co, hk, rfl, rfl, hO, hB⟩ := hrel
    have HLk : Hid ((numsF l fr (x.take k)).length = k) := by show _ = _; simp [numsF]; have := HN.out; omega
    by_cases hlt : k < N
    · have hkx : k < x.length := by have := HN.out; omega
      obtain ⟨bc, oc, rfl, _, dc⟩ := H3.out.2 (by omega)
      have c3 := cell_old hB.out (World.block_lt_of_cell? w ⟨bc, oc + k, none⟩ (dc k _ (intV_get x k hkx))) (dc k _ (intV_get x k hkx))
      obtain ⟨hi0, hi1⟩ := HI.out x[k] (List.getElem_mem hkx)
      have HTk : Hid (numsF l fr (x.take (k + 1)) = numsF l fr (x.take k) ++ [numF l (fr.getD x[k].toNat []) 0]) := by
        show _ = _
        unfold numsF; rw [List.take_succ_eq_append_getElem hkx, List.map_append]; rfl
      generalize x[k] = xk at *
      obtain ⟨m, rfl⟩ : ∃ m : Nat, xk = m := ⟨xk.toNat, by omega⟩
      have hmF : m < F := by have := HF.out; omega
      have hmf : m < fr.length := by omega
      obtain ⟨bb, ob, rfl, _, db⟩ := H2.out.2 (by omega)
      have c2 := cell_old hB.out (World.block_lt_of_cell? w ⟨bb, ob + m, none⟩ (db m _ (strV_get fr m hmf))) (db m _ (strV_get fr m hmf))
      have HNum := Lib.hid (number_any A ca l fr[m] wr (H1.out.old hB.out (by decide)) HL.out)
      have hnb := numF_bound l fr[m] 0
      have HTk2 : Hid (numsF l fr (x.take (k + 1)) = numsF l fr (x.take k) ++ [numF l fr[m] 0]) := by
        show _ = _
        rw [HTk.out]; simp [List.getD, hmf]
      rw [← HLL.out] at HNum
      generalize numF l fr[m] 0 = nv at *
      generalize fr[m] = sm at *
      have hO2 := hO.out
      obtain ⟨q5, c5, w5, hr5, hO5, hg5, _⟩ := push1 w.heap.size (.slice Ao k co) (numsF l fr (x.take k)) nv wr hO2 (by rw [HLk.out]; omega) hB.out.size
      rw [HLk.out] at hr5 hO5
      have HO5 := Lib.hid hO5
      have HB5 : Hid (Below w.heap.size w w5) := (hB.out.alloc hB.out.size _).grown hg5 (by have := hB.out.size; simp; omega) (fun q hq => (hO2.lt q hq).1)
      clear dc db hO2 hO5 hg5 HTk
      have hmi : (m : Int) < (F : Int) := by omega
      go_upto_region 5 with (fail)
      go_wp2_with fail
      refine HNum.out.mono ?_
      rintro e w2 ⟨rfl, rfl⟩
      go_wp2_with (at_builtin; refine Lib.wpList_append_run _ rfl _ _ 27 27 rfl _ _ rfl rfl _ _ hr5 ?_)
      go_roundw
      case rel => exact ⟨k + 1, _, _, by omega, by go_num, rfl, (by rw [HTk2.out]; exact HO5), HB5⟩
      case measure => simp [intOf]; omega
    · obtain rfl : k = N := by omega
      have HO2 := hO.out
      rw [List.take_of_length_le (by have := HN.out; omega)] at HO2 HLk
      go_wp2
      go_ret
      refine ⟨Ao, co, congrArg (fun n => Ending.returned (Value.slice Ao n co)) HLk.out.symm, by rw [HLk.out] at HO2 ⊢; exact HO2, hB.out⟩
end Go.Proofs.Ytpdebnecfknohaa
namespace Go.Proofs.Ytpdebnecfknohaa
open Go.RowKit
set_option linter.unusedVariables false
set_option maxRecDepth 20000
structure Fn where
  name : Int
  params : Int
  locals : List Int
  sites : List Int
  body : Bd
/-- A function's cells. -/
def FnS (S : Nat → Prop) (w : World) (cs : List Value) (f : Fn) : Prop := ∃ Al cl As cs' Ab cb, cs = [.int .i64 f.name, .int .i64 f.params, .slice Al f.locals.length cl, .slice As f.sites.length cs', .slice Ab f.body.len cb] ∧ RdS S w Al f.locals.length 1 (intV f.locals) ∧ RdS S w As f.sites.length 1 (intV f.sites) ∧ BodyS S w Ab f.body
def FnsS (S : Nat → Prop) (w : World) (A : Option Addr) (L : List Fn) : Prop := 0 < L.length → ∃ b o, A = some ⟨b, o, none⟩ ∧ S b ∧ ∀ i (h : i < L.length), ∃ cs, FnS S w cs L[i] ∧ ∀ j u, cs[j]? = some u → w.cell? ⟨b, o + i * 5 + j, none⟩ = some u
theorem FnS.kept {S S' : Nat → Prop} {w w' : World} {cs : List Value} {f : Fn} (h : FnS S w cs f) (hk : Kept S w w') (hS : ∀ k, S k → k < w.heap.size → S' k) : FnS S' w' cs f := by
  obtain ⟨Al, cl, As, cs', Ab, cb, h1, h2, h3, h4⟩ := h
  exact ⟨Al, cl, As, cs', Ab, cb, h1, h2.kept hk hS (by decide), h3.kept hk hS (by decide), h4.kept hk hS⟩
theorem FnsS.kept {S S' : Nat → Prop} {w w' : World} {A : Option Addr} {L : List Fn} (h : FnsS S w A L) (hk : Kept S w w') (hS : ∀ k, S k → k < w.heap.size → S' k) : FnsS S' w' A L := fun hp => by
  obtain ⟨b, o, hA, hb, hc⟩ := h hp
  obtain ⟨cs, hf, h0⟩ := hc 0 hp
  obtain ⟨Al, cl, As, cs', Ab, cb, h1, _⟩ := hf
  refine ⟨b, o, hA, hS b hb (World.block_lt_of_cell? w ⟨b, o + 0 * 5 + 0, none⟩ (h0 0 _ (by rw [h1]; rfl))), fun i hi => ?_⟩
  obtain ⟨cs, hf, hcc⟩ := hc i hi
  exact ⟨cs, hf.kept hk hS, fun j u hj => hk.cell hb (hcc j u hj)⟩
theorem FnsS.old {S : Nat → Prop} {w w' : World} {A : Option Addr} {L : List Fn} (h : FnsS S w A L) (hb : Below w.heap.size w w') : FnsS S w' A L := h.kept (fun k _ hk => hb.block k hk) (fun _ h _ => h)
def usedF (g : List Int) (L : List Fn) (n : Int) : Bool := g.any (fun x => x == n) || L.any (fun f => f.name == n || f.locals.any (fun x => x == n) || f.sites.any (fun x => x == n))
theorem any_take_succ {l : List Int} {n : Int} {k : Nat} (hk : k < l.length) (h : (l.take k).any (fun x => x == n) = false) : (l.take (k + 1)).any (fun x => x == n) = (l[k] == n) := by
  rw [List.take_succ_eq_append_getElem hk, List.any_append, h]; simp
theorem any_of_take {l : List Int} {n : Int} {k : Nat} (h : (l.take k).any (fun x => x == n) = true) : l.any (fun x => x == n) = true := by
  rw [List.any_eq_true] at h ⊢
  obtain ⟨x, hx, h⟩ := h
  exact ⟨x, List.mem_of_mem_take hx, h⟩
theorem anyF_of {l : List Fn} {p : Fn → Bool} {k : Nat} (hk : k < l.length) (h : p l[k] = true) : l.any p = true := List.any_eq_true.2 ⟨_, List.getElem_mem hk, h⟩
set_option maxRecDepth 20000 in
set_option maxHeartbeats 2000000 in
theorem used_any (m0 m3 : Value) (Ag Af : Option Addr) (cg cf : Nat) (g : List Int) (L : List Fn) (n : Int) (w : World) (h1 : RdS (fun _ => True) w Ag g.length 1 (intV g)) (h2 : FnsS (fun _ => True) w Af L) (hg : g.length ≤ 1000000) (hL : L.length ≤ 1000000) (hlo : ∀ f ∈ L, f.locals.length ≤ 1000000 ∧ f.sites.length ≤ 1000000) :
    Calls Try.prog 44 #[.agg #[m0, .slice Ag g.length cg, .slice Af L.length cf, m3], .int .i64 n] w fun e w' => e = .returned (.bool (usedF g L n)) ∧ Below w.heap.size w w' := by
  have H1 := Lib.hid h1
  have H2 := Lib.hid h2
  have HLO := Lib.hid hlo
  clear h1 h2 hlo
  obtain ⟨G, hG⟩ : ∃ G, G = g.length := ⟨_, rfl⟩
  obtain ⟨N, hN⟩ : ∃ N, N = L.length := ⟨_, rfl⟩
  rw [← hG] at hg
  rw [← hN] at hL
  have HG := Lib.hid hG
  have HN := Lib.hid hN
  rw [← hG, ← hN]
  clear hG hN
  have HB0 : Hid (Below w.heap.size w (w.alloc (.cells #[m0, .slice Ag G cg, .slice Af N cf, m3] 30))) := (Below.refl _ _).alloc (Nat.le_refl _) _
  have KM : Hid (Blk (w.alloc (.cells #[m0, .slice Ag G cg, .slice Af N cf, m3] 30)) w.heap.size 30 #[m0, .slice Ag G cg, .slice Af N cf, m3]) := Blk.new w 30 _
  go_enter Try.func44, Try.ntmps44
  go_wp2_with fail
  generalize w.alloc (.cells #[m0, .slice Ag G cg, .slice Af N cf, m3] 30) = W0 at *
  go_loopw [5] (fun s5 wr => ∃ k : Nat, k ≤ G ∧ s5 = .int .i64 (k : Int) ∧ W0 = wr ∧ Hid ((g.take k).any (fun x => x == n) = false)) (fun s5 _ => G - (intOf s5).toNat)
  case atStart => exact ⟨0, Nat.zero_le _, rfl, rfl, by simp [Hid]⟩
  case round =>
    obtain ⟨k, hk, rfl, rfl, hE⟩ := hrel
    obtain ⟨m01, m11, m21, m31⟩ := KM.out.c4
    by_cases hlt : k < G
    · have hkl : k < g.length := by have := HG.out; omega
      obtain ⟨b, o, rfl, _, dc⟩ := H1.out.2 (by omega)
      have c1 := cell_old HB0.out (World.block_lt_of_cell? w ⟨b, o + k, none⟩ (dc k _ (intV_get g k hkl))) (dc k _ (intV_get g k hkl))
      have hE2 := any_take_succ hkl hE.out
      clear dc
      by_cases hx : g[k] = n
      · have HR : Hid (usedF g L n = true) := by
          show _ = _
          unfold usedF
          rw [any_of_take (k := k + 1) (by rw [hE2]; simpa using hx)]; rfl
        rw [hx] at c1
        clear hE2 hx
        go_wp2
        go_ret
        exact ⟨congrArg (fun b => Ending.returned (Value.bool b)) HR.out.symm, HB0.out⟩
      · have hq : (g[k] == n) = false := by simpa using hx
        rw [hq] at hE2
        have HE2 := Lib.hid hE2
        generalize g[k] = gk' at *
        clear hE2 hx
        go_wp2
        go_roundw
        case rel => exact ⟨k + 1, by omega, by go_num, trivial, HE2⟩
        case measure => simp [intOf]; omega
    · obtain rfl : k = G := by omega
      have HEg : Hid (g.any (fun x => x == n) = false) := by
        have := hE.out
        rw [List.take_of_length_le (by have := HG.out; omega)] at this
        exact this
      go_wp2_with fail
      go_loopw [6] (fun s6 wr => ∃ i : Nat, i ≤ N ∧ s6 = .int .i64 (i : Int) ∧ Hid (Below W0.heap.size W0 wr) ∧ Hid ((L.take i).any (fun f => f.name == n || f.locals.any (fun x => x == n) || f.sites.any (fun x => x == n)) = false)) (fun s6 _ => N - (intOf s6).toNat)
      case atStart => exact ⟨0, Nat.zero_le _, rfl, Below.refl _ _, by simp [Hid]⟩
      case round =>
        obtain ⟨i, hi, rfl, hB, hF⟩ := hrel
        have KMr := KM.out.old hB.out
        obtain ⟨n01, n11, n21, n31⟩ := KMr.c4
        have HBw := Lib.hid (HB0.out.trans (hB.out.mono HB0.out.size))
        clear m01 m11 m21 m31
        by_cases hlt : i < N
        · have hiL : i < L.length := by have := HN.out; omega
          obtain ⟨b, o, rfl, _, dc⟩ := H2.out (by omega)
          obtain ⟨cs, ⟨Al, cl, As, csc, Ab, cb, hcs, rl, rs, _⟩, hcc⟩ := dc i hiL
          subst hcs
          have hbl := World.block_lt_of_cell? w ⟨b, o + i * 5 + 0, none⟩ (hcc 0 _ rfl)
          have e0 := cell_old HBw.out hbl (hcc 0 _ rfl)
          have e1 := cell_old HBw.out hbl (hcc 1 _ rfl)
          have e2 := cell_old HBw.out hbl (hcc 2 _ rfl)
          have e3 := cell_old HBw.out hbl (hcc 3 _ rfl)
          have e4 := cell_old HBw.out hbl (hcc 4 _ rfl)
          have hlo2 := HLO.out _ (List.getElem_mem hiL)
          have RNl := Lib.hid rl
          have RNs := Lib.hid rs
          simp only [Nat.add_zero] at e0
          obtain ⟨Nl, hNl⟩ : ∃ Nl, Nl = L[i].locals.length := ⟨_, rfl⟩
          obtain ⟨Ns, hNs⟩ : ∃ Ns, Ns = L[i].sites.length := ⟨_, rfl⟩
          have HNl := Lib.hid hNl
          have HNs := Lib.hid hNs
          rw [← hNl] at e2 hlo2
          rw [← hNs] at e3 hlo2
          generalize L[i].body.len = nb at *
          generalize L[i].params = pr at *
          clear dc hcc rl rs hNl hNs
          by_cases hnm : L[i].name = n
          · have HR : Hid (usedF g L n = true) := by
              show _ = _
              unfold usedF
              rw [anyF_of hiL (by simp [hnm])]; simp
            rw [hnm] at e0
            clear hnm
            go_wp2
            go_ret
            exact ⟨congrArg (fun b => Ending.returned (Value.bool b)) HR.out.symm, HBw.out.alloc HBw.out.size _⟩
          have hnq : (L[i].name == n) = false := by simpa using hnm
          have hnm := Lib.hid hnq
          have HB1 := Lib.hid (HBw.out.alloc HBw.out.size (.cells #[.int .i64 L[i].name, .int .i64 pr, .slice Al Nl cl, .slice As Ns csc, .slice Ab nb cb] 40))
          have KF1 := Lib.hid (Blk.new wr 40 #[.int .i64 L[i].name, .int .i64 pr, .slice Al Nl cl, .slice As Ns csc, .slice Ab nb cb])
          have HB10 := Lib.hid (hB.out.alloc hB.out.size (.cells #[.int .i64 L[i].name, .int .i64 pr, .slice Al Nl cl, .slice As Ns csc, .slice Ab nb cb] 40))
          have hpr : ∃ nm, nm = L[i].name := ⟨_, rfl⟩
          go_wp2_with fail
          clear e0 e1 e2 e3 e4 n01 n11 n21 n31 hnq
          obtain ⟨qf, hqf⟩ : ∃ qf, qf = wr.heap.size := ⟨_, rfl⟩
          rw [← hqf]
          rw [← hqf] at KF1
          clear hqf
          generalize wr.alloc (.cells #[.int .i64 L[i].name, .int .i64 pr, .slice Al Nl cl, .slice As Ns csc, .slice Ab nb cb] 40) = W1 at *
          obtain ⟨k0, k1, k2, k3, k4⟩ := KF1.out.c5
          go_loopw [8] (fun sq wi => ∃ k : Nat, k ≤ Nl ∧ sq = .int .i64 (k : Int) ∧ W1 = wi ∧ Hid (((L[i].locals).take k).any (fun x => x == n) = false)) (fun sq _ => Nl - (intOf sq).toNat)
          case atStart => exact ⟨0, Nat.zero_le _, rfl, rfl, by simp [Hid]⟩
          case round =>
            obtain ⟨k, hk, rfl, rfl, hE⟩ := hrel
            by_cases hlt2 : k < Nl
            · have hkl : k < L[i].locals.length := by have := HNl.out; omega
              obtain ⟨b2, o2, rfl, _, dc⟩ := RNl.out.2 (by have := HNl.out; omega)
              have c1 := cell_old HB1.out (World.block_lt_of_cell? w ⟨b2, o2 + k, none⟩ (dc k _ (intV_get _ k hkl))) (dc k _ (intV_get _ k hkl))
              have hE2 := any_take_succ hkl hE.out
              clear dc
              by_cases hx : L[i].locals[k] = n
              · have HR : Hid (usedF g L n = true) := by
                  show _ = _
                  unfold usedF
                  rw [anyF_of hiL (by rw [any_of_take (l := L[i].locals) (k := k + 1) (by rw [hE2]; simpa using hx)]; simp)]; simp
                rw [hx] at c1
                clear hE2 hx
                go_wp2
                go_ret
                exact ⟨congrArg (fun b => Ending.returned (Value.bool b)) HR.out.symm, HB1.out⟩
              · have hq : (L[i].locals[k] == n) = false := by simpa using hx
                rw [hq] at hE2
                have HE2 := Lib.hid hE2
                generalize L[i].locals[k] = gk' at *
                clear hE2 hx
                go_wp2
                go_roundw
                case rel => exact ⟨k + 1, by omega, by go_num, trivial, HE2⟩
                case measure => simp [intOf]; omega
            · obtain rfl : k = Nl := by omega
              have HENl : Hid (L[i].locals.any (fun x => x == n) = false) := by
                have := hE.out
                rw [List.take_of_length_le (by have := HNl.out; omega)] at this
                exact this
              go_wp2_with fail
              go_loopw [9] (fun sq wi => ∃ k : Nat, k ≤ Ns ∧ sq = .int .i64 (k : Int) ∧ W1 = wi ∧ Hid (((L[i].sites).take k).any (fun x => x == n) = false)) (fun sq _ => Ns - (intOf sq).toNat)
              case atStart => exact ⟨0, Nat.zero_le _, rfl, rfl, by simp [Hid]⟩
              case round =>
                obtain ⟨k, hk, rfl, rfl, hE⟩ := hrel
                by_cases hlt2 : k < Ns
                · have hkl : k < L[i].sites.length := by have := HNs.out; omega
                  obtain ⟨b2, o2, rfl, _, dc⟩ := RNs.out.2 (by have := HNs.out; omega)
                  have c1 := cell_old HB1.out (World.block_lt_of_cell? w ⟨b2, o2 + k, none⟩ (dc k _ (intV_get _ k hkl))) (dc k _ (intV_get _ k hkl))
                  have hE2 := any_take_succ hkl hE.out
                  clear dc
                  by_cases hx : L[i].sites[k] = n
                  · have HR : Hid (usedF g L n = true) := by
                      show _ = _
                      unfold usedF
                      rw [anyF_of hiL (by rw [any_of_take (l := L[i].sites) (k := k + 1) (by rw [hE2]; simpa using hx)]; simp)]; simp
                    rw [hx] at c1
                    clear hE2 hx
                    go_wp2
                    go_ret
                    exact ⟨congrArg (fun b => Ending.returned (Value.bool b)) HR.out.symm, HB1.out⟩
                  · have hq : (L[i].sites[k] == n) = false := by simpa using hx
                    rw [hq] at hE2
                    have HE2 := Lib.hid hE2
                    generalize L[i].sites[k] = gk' at *
                    clear hE2 hx
                    go_wp2
                    go_roundw
                    case rel => exact ⟨k + 1, by omega, by go_num, trivial, HE2⟩
                    case measure => simp [intOf]; omega
                · obtain rfl : k = Ns := by omega
                  have HENs : Hid (L[i].sites.any (fun x => x == n) = false) := by
                    have := hE.out
                    rw [List.take_of_length_le (by have := HNs.out; omega)] at this
                    exact this
                  have HEi : Hid ((L.take (i + 1)).any (fun f => f.name == n || f.locals.any (fun x => x == n) || f.sites.any (fun x => x == n)) = false) := by
                    show _ = _
                    rw [List.take_succ_eq_append_getElem hiL, List.any_append, hF.out]
                    simp [hnm.out, HENl.out, HENs.out]
                  go_wp2
                  go_roundw
                  case rel => exact ⟨i + 1, by omega, by go_num, HB10, HEi⟩
                  case measure => simp [intOf]; omega
        · obtain rfl : i = N := by omega
          have HR : Hid (usedF g L n = false) := by
            show _ = _
            have := hF.out
            rw [List.take_of_length_le (by have := HN.out; omega)] at this
            unfold usedF
            rw [HEg.out, this]; rfl
          go_wp2
          go_ret
          exact ⟨congrArg (fun b => Ending.returned (Value.bool b)) HR.out.symm, HBw.out⟩
end Go.Proofs.Ytpdebnecfknohaa
namespace Go.Proofs.Ytpdebnecfknohaa
open Go.RowKit
set_option linter.unusedVariables false
set_option maxRecDepth 20000
def gtF (a b : List UInt8) : Bool := !(Op.bytesLess a b || a == b)
/-- Two neighbours change places. -/
def swp (l : List (List UInt8)) (k : Nat) : List (List UInt8) := (l.set (k + 1) (l.getD k [])).set k (l.getD (k + 1) [])
/-- What stands at k goes down as long as what stands ahead is greater. -/
def bub : Nat → List (List UInt8) → List (List UInt8)
  | 0, l => l
  | k + 1, l => if gtF (l.getD k []) (l.getD (k + 1) []) = true then bub k (swp l k) else l
theorem swp_len (l : List (List UInt8)) (k : Nat) : (swp l k).length = l.length := by simp [swp]
/-- The strings that are used, of the first i. -/
def canL (g : List Int) (L : List Fn) (strs : List (List UInt8)) : Nat → List (List UInt8)
  | 0 => []
  | i + 1 => if usedF g L (i : Int) = true ∧ numF (canL g L strs i) (strs.getD i []) 0 < 0 then bub (canL g L strs i).length (canL g L strs i ++ [strs.getD i []]) else canL g L strs i
theorem info9 : (Try.prog.info? 9).map (fun i => (i.zero, i.size, i.bytes)) = some (some (.string ⟨#[]⟩), 1, 16) := by kernel_rfl
/-- A string more. -/
theorem pushS (base : Nat) (v : Value) (l : List (List UInt8)) (x : List UInt8) (w : World) (h : w.ownsRow base 9 1 v l.length (strV l)) (hl : l.length ≤ 1000000) (hb : base ≤ w.heap.size) :
    ∃ q c w', (Builtin.append_ #[26, 26] 26 #[v, .slice (some ⟨w.heap.size, 0, none⟩) 1 1]).run Try.prog (w.alloc (.cells #[.string (bs x)] 9)) = .ok (.slice (some ⟨q, 0, none⟩) (l.length + 1) c) w' ∧ w'.ownsRow base 9 1 (.slice (some ⟨q, 0, none⟩) (l.length + 1) c) (l ++ [x]).length (strV (l ++ [x])) ∧ (w.alloc (.cells #[.string (bs x)] 9)).grownBy w' v.ownBlock ∧ (some q = v.ownBlock ∨ q = w.heap.size + 1) := by
  obtain ⟨i0, hi0, hz0, hz1, hz2⟩ := info_parts info9
  have hc : ∀ j u, ([.string (bs x)] : List Value)[j]? = some u → (w.alloc (.cells #[.string (bs x)] 9)).cell? ((⟨w.heap.size, 0, none⟩ : Addr).add j) = some u := by
    intro j u hj
    rw [Go.WideShapes.add_plain, cell_of_row _ w.heap.size _ _ 9 (0, 0) (heap_alloc_new w _), Nat.zero_add]
    simpa using hj
  obtain ⟨v5, w5, hr5, hO5, hg5, _, hat⟩ := run_append_own_at (P := Try.prog) (w.alloc (.cells #[.string (bs x)] 9)) base 26 26 9 i0 (.string ⟨#[]⟩) 1 16 Try.underlying26 hi0 hz0 hz1 hz2 rfl (by decide) v l.length _ (h.alloc _) ⟨w.heap.size, 0, none⟩ 1 1 [.string (bs x)] rfl hc (by intro u hu; simp at hu; subst hu; rfl) (by unfold maxLen; omega) (by omega) (by simp; omega)
  obtain ⟨q5, c5, rfl⟩ : ∃ q5 c5, v5 = .slice (some ⟨q5, 0, none⟩) (l.length + 1) c5 := by
    rcases hO5.2 with ⟨_, h1⟩ | ⟨k, cap, cur, hv, _⟩
    · omega
    · exact ⟨k, cap, hv⟩
  refine ⟨q5, c5, w5, hr5, ?_, hg5, ?_⟩
  · rw [show (l ++ [x]).length = l.length + 1 from by simp, show strV (l ++ [x]) = strV l ++ [.string (bs x)] from by simp [strV]]; exact hO5
  · rcases hat with h | h
    · exact .inl h
    · refine .inr ?_
      have : some q5 = some (w.heap.size + 1) := by rw [show (some q5 : Option Nat) = (Value.slice (some ⟨q5, 0, none⟩) (l.length + 1) c5).ownBlock from rfl, h]; simp
      injection this
/-- A row of the call's own: its cells, their marks, and one cell set. -/
theorem own_at {w : World} {base e n q c : Nat} {xs : List Value} (h : w.ownsRow base e 1 (.slice (some ⟨q, 0, none⟩) n c) n xs) (hn : 0 < n) : n ≤ c ∧ base ≤ q ∧ q < w.heap.size ∧ (∀ j u, xs[j]? = some u → w.cell? ⟨q, j, none⟩ = some u ∧ w.frozen? ⟨q, j, none⟩ = false) ∧ ∀ j u, j < n → (w.setCell ⟨q, j, none⟩ u).ownsRow base e 1 (.slice (some ⟨q, 0, none⟩) n c) n (xs.set j u) := by
  have hR := (RdS.own h).2 hn
  rcases h.2 with ⟨_, h0⟩ | ⟨q', cap, cur, hv, h2, hk, h3, h4, h5, h6⟩
  · omega
  · injection hv with hv1 _ hv3
    injection hv1 with hv1
    injection hv1 with hv1
    subst hv1
    subst hv3
    refine ⟨h3, h2, heap_ltM hk, fun j u hj => ⟨?_, by simp [World.frozen?, hk]⟩, fun j u hj => ⟨by rw [List.length_set]; exact h.1, .inr ⟨q, c, cur.setIfInBounds j u, rfl, h2, ?_, h3, h4, by simpa using h5, ?_⟩⟩⟩
    · obtain ⟨b, o, hA, _, hc⟩ := hR
      injection hA with hA
      injection hA with hA1 hA2
      subst hA1; subst hA2
      have := hc j u hj
      rwa [Nat.zero_add] at this
    · simp [World.setCell, Array.getElem?_modify, hk]
    · rw [Array.toList_setIfInBounds, List.take_set, h6]
end Go.Proofs.Ytpdebnecfknohaa
namespace Go.Proofs.Ytpdebnecfknohaa
open Go.RowKit
set_option linter.unusedVariables false
set_option maxRecDepth 20000
theorem Blk.uniq {w : World} {g t t' : Nat} {cs cs' : Array Value} (h : Blk w g t cs) (h' : w.heap[g]? = some (.cells cs' t' (0, 0))) : t = t' := by
  unfold Blk at h
  rw [h] at h'
  injection h' with h'
  injection h'
theorem info40 : (Try.prog.info? 40).map (fun i => (i.zero, i.size, i.bytes)) = some (some (.agg #[.int .i64 0, .int .i64 0, .slice none 0 0, .slice none 0 0, .slice none 0 0]), 5, 88) := by kernel_rfl
/-- A function more. -/
theorem pushF (base : Nat) (v : Value) (n : Nat) (xs : List Value) (a b : Int) (A1 A2 A3 : Option Addr) (n1 n2 n3 c1 c2 c3 : Nat) (w : World) (h : w.ownsRow base 40 5 v n xs) (hl : n ≤ 1000000) (hb : base ≤ w.heap.size) :
    ∃ q c w', (Builtin.append_ #[28, 28] 28 #[v, .slice (some ⟨w.heap.size, 0, none⟩) 1 1]).run Try.prog (w.alloc (.cells #[.int .i64 a, .int .i64 b, .slice A1 n1 c1, .slice A2 n2 c2, .slice A3 n3 c3] 40)) = .ok (.slice (some ⟨q, 0, none⟩) (n + 1) c) w' ∧ w'.ownsRow base 40 5 (.slice (some ⟨q, 0, none⟩) (n + 1) c) (n + 1) (xs ++ [.int .i64 a, .int .i64 b, .slice A1 n1 c1, .slice A2 n2 c2, .slice A3 n3 c3]) ∧ (w.alloc (.cells #[.int .i64 a, .int .i64 b, .slice A1 n1 c1, .slice A2 n2 c2, .slice A3 n3 c3] 40)).grownBy w' v.ownBlock ∧ (some q = v.ownBlock ∨ q = w.heap.size + 1) := by
  obtain ⟨i0, hi0, hz0, hz1, hz2⟩ := info_parts info40
  have hc : ∀ j u, ([.int .i64 a, .int .i64 b, .slice A1 n1 c1, .slice A2 n2 c2, .slice A3 n3 c3] : List Value)[j]? = some u → (w.alloc (.cells #[.int .i64 a, .int .i64 b, .slice A1 n1 c1, .slice A2 n2 c2, .slice A3 n3 c3] 40)).cell? ((⟨w.heap.size, 0, none⟩ : Addr).add j) = some u := by
    intro j u hj
    rw [Go.WideShapes.add_plain, cell_of_row _ w.heap.size _ _ 40 (0, 0) (heap_alloc_new w _), Nat.zero_add]
    simpa using hj
  obtain ⟨v5, w5, hr5, hO5, hg5, _, hat⟩ := run_append_own_at (P := Try.prog) (w.alloc (.cells #[.int .i64 a, .int .i64 b, .slice A1 n1 c1, .slice A2 n2 c2, .slice A3 n3 c3] 40)) base 28 28 40 i0 (.agg #[.int .i64 0, .int .i64 0, .slice none 0 0, .slice none 0 0, .slice none 0 0]) 5 88 Try.underlying28 hi0 hz0 hz1 hz2 rfl (by decide) v n _ (h.alloc _) ⟨w.heap.size, 0, none⟩ 1 1 [.int .i64 a, .int .i64 b, .slice A1 n1 c1, .slice A2 n2 c2, .slice A3 n3 c3] rfl hc (by intro u hu; simp at hu; rcases hu with rfl | rfl | rfl | rfl | rfl <;> rfl) (by unfold maxLen; omega) (by omega) (by simp; omega)
  obtain ⟨q5, c5, rfl⟩ : ∃ q5 c5, v5 = .slice (some ⟨q5, 0, none⟩) (n + 1) c5 := by
    rcases hO5.2 with ⟨_, h1⟩ | ⟨k, cap, cur, hv, _⟩
    · omega
    · exact ⟨k, cap, hv⟩
  refine ⟨q5, c5, w5, hr5, hO5, hg5, ?_⟩
  rcases hat with h | h
  · exact .inl h
  · refine .inr ?_
    have : some q5 = some (w.heap.size + 1) := by rw [show (some q5 : Option Nat) = (Value.slice (some ⟨q5, 0, none⟩) (n + 1) c5).ownBlock from rfl, h]; simp
    injection this
/-- Functions in a row of the call's own, whose other blocks are not that row's. -/
structure FnRow (w : World) (base : Nat) (X : Nat → Prop) (v : Value) (L : List Fn) : Prop where
  own : ∃ css : List (List Value), w.ownsRow base 40 5 v L.length css.flatten ∧ css.length = L.length ∧ ∀ i (h : i < L.length), ∃ cs, css[i]? = some cs ∧ FnS (fun k => some k ≠ v.ownBlock ∧ X k) w cs L[i]
theorem FnRow.nil (w : World) (base : Nat) (X : Nat → Prop) : FnRow w base X (.slice none 0 0) [] := ⟨[], ⟨rfl, .inl ⟨rfl, rfl⟩⟩, rfl, fun i h => by simp at h⟩
theorem FnRow.blk {w : World} {base : Nat} {X : Nat → Prop} {v : Value} {L : List Fn} (h : FnRow w base X v L) : ∀ k, some k = v.ownBlock → base ≤ k ∧ k < w.heap.size ∧ ∃ cur, Blk w k 40 cur := fun k hk => by
  obtain ⟨css, h1, _, _⟩ := h.own
  rcases h1.2 with ⟨rfl, _⟩ | ⟨q, cap, cur, rfl, hq, hh, _⟩
  · simp [Value.ownBlock] at hk
  · have : k = q := by simpa [Value.ownBlock] using hk
    subst this
    exact ⟨hq, heap_ltM hh, cur, hh⟩
/-- Blocks that this row and its functions lie in are as they were. -/
theorem FnRow.kept {w w' : World} {base : Nat} {X X' : Nat → Prop} {v : Value} {L : List Fn} (h : FnRow w base X v L) (hv : ∀ k, some k = v.ownBlock → w'.heap[k]? = w.heap[k]?) (hk : ∀ k, X k → k < w.heap.size → w'.heap[k]? = w.heap[k]?) (hX : ∀ k, X k → k < w.heap.size → X' k) : FnRow w' base X' v L := by
  obtain ⟨css, h1, h2, h3⟩ := h.own
  refine ⟨css, own_blocks h1 hv, h2, fun i hi => ?_⟩
  obtain ⟨cs, e, hf⟩ := h3 i hi
  exact ⟨cs, e, hf.kept (fun k hk' hlt => hk k hk'.2 hlt) (fun k hk' hlt => ⟨hk'.1, hX k hk'.2 hlt⟩)⟩
theorem FnRow.old {w w' : World} {base : Nat} {X : Nat → Prop} {v : Value} {L : List Fn} (h : FnRow w base X v L) (hb : Below w.heap.size w w') : FnRow w' base X v L :=
  h.kept (fun k hk => hb.block k (h.blk k hk).2.1) (fun k _ hlt => hb.block k hlt) (fun _ h _ => h)
/-- One function more, in a row; w4 the world ahead of it. -/
theorem FnRow.push {w4 : World} {base : Nat} {X : Nat → Prop} {v : Value} {L : List Fn} (h : FnRow w4 base X v L) (hl : L.length ≤ 1000000) (hb : base ≤ w4.heap.size) (f : Fn) (A1 A2 A3 : Option Addr) (c1 c2 c3 : Nat)
    (hf : FnS (fun k => some k ≠ v.ownBlock ∧ X k) w4 [.int .i64 f.name, .int .i64 f.params, .slice A1 f.locals.length c1, .slice A2 f.sites.length c2, .slice A3 f.body.len c3] f) :
    ∃ q c w', (Builtin.append_ #[28, 28] 28 #[v, .slice (some ⟨w4.heap.size, 0, none⟩) 1 1]).run Try.prog (w4.alloc (.cells #[.int .i64 f.name, .int .i64 f.params, .slice A1 f.locals.length c1, .slice A2 f.sites.length c2, .slice A3 f.body.len c3] 40)) = .ok (.slice (some ⟨q, 0, none⟩) (L.length + 1) c) w' ∧ (some q = v.ownBlock ∨ q = w4.heap.size + 1) ∧ (w4.alloc (.cells #[.int .i64 f.name, .int .i64 f.params, .slice A1 f.locals.length c1, .slice A2 f.sites.length c2, .slice A3 f.body.len c3] 40)).grownBy w' v.ownBlock ∧ FnRow w' base X (.slice (some ⟨q, 0, none⟩) (L.length + 1) c) (L ++ [f]) ∧ ((∀ k, some k = v.ownBlock → ∀ j, j < L.length * 5 → w'.cell? ⟨q, j, none⟩ = w4.cell? ⟨k, j, none⟩) ∧ w'.cell? ⟨q, L.length * 5 + 4, none⟩ = some (.slice A3 f.body.len c3)) := by
  obtain ⟨css, h1, h2, h3⟩ := h.own
  obtain ⟨q, c, w', hr, hO, hg, hat⟩ := pushF base v L.length css.flatten f.name f.params A1 A2 A3 f.locals.length f.sites.length f.body.len c1 c2 c3 w4 h1 hl hb
  refine ⟨q, c, w', hr, hat, hg, ⟨css ++ [[.int .i64 f.name, .int .i64 f.params, .slice A1 f.locals.length c1, .slice A2 f.sites.length c2, .slice A3 f.body.len c3]], ?_, by simp [h2], fun i hi => ?_⟩, fun k hk j hj => ?_, ?_⟩
  · rw [show (L ++ [f]).length = L.length + 1 from by simp, List.flatten_append]
    simpa using hO
  · have hkp : ∀ k, (some k ≠ v.ownBlock ∧ X k) → k < w4.heap.size → w'.heap[k]? = w4.heap[k]? := fun k hk hlt => by
      rw [hg.block k (by simp; omega) hk.1, heap_alloc_old _ _ hlt]
    have hS : ∀ k, (some k ≠ v.ownBlock ∧ X k) → k < w4.heap.size → (some k ≠ (Value.slice (some ⟨q, 0, none⟩) (L.length + 1) c).ownBlock ∧ X k) := fun k hkx hlt => by
      refine ⟨?_, hkx.2⟩
      have hk := hkx.1
      intro e
      have e : k = q := by simpa [Value.ownBlock] using e
      subst e
      rcases hat with h | h
      · exact hk h
      · omega
    by_cases hlt : i < L.length
    · obtain ⟨cs, e, hfi⟩ := h3 i hlt
      refine ⟨cs, by rw [List.getElem?_append_left (by omega)]; exact e, ?_⟩
      rw [List.getElem_append_left hlt]
      exact hfi.kept hkp hS
    · obtain rfl : i = L.length := by simp at hi; omega
      refine ⟨[.int .i64 f.name, .int .i64 f.params, .slice A1 f.locals.length c1, .slice A2 f.sites.length c2, .slice A3 f.body.len c3], by rw [List.getElem?_append_right (by omega), h2, Nat.sub_self]; rfl, ?_⟩
      rw [List.getElem_append_right (Nat.le_refl _)]
      simp only [Nat.sub_self, List.getElem_cons_zero]
      exact hf.kept hkp hS
  · rw [hO.cellAt j (by omega), List.getElem?_append_left (by rw [h1.1]; exact hj)]
    rcases h1.2 with ⟨e, _⟩ | ⟨g, cap, cur, e, _⟩
    · rw [e] at hk; simp [Value.ownBlock] at hk
    · rw [e] at h1 hk
      have e1 : k = g := by simpa [Value.ownBlock] using hk
      subst e1
      exact (h1.cellAt j hj).symm
  · rw [hO.cellAt _ (by omega), List.getElem?_append_right (by rw [h1.1]; omega), h1.1]
    simp
/-- Canon's one function more. -/
theorem can_push {Sb : Nat → Prop} {w wo wb w4 : World} {v : Value} {L : List Fn} {X : Nat → Prop} (nv fpr : Int) (lo si : List Int) (bo : Bd) (A4 A5 Ab : Option Addr) (c4 c5 cb nlo nsi nb j : Nat) (hlo : nlo = lo.length) (hsi : nsi = si.length) (hnb : nb = bo.len) (hj : L.length = j)
    (hw : w.heap.size ≤ wo.heap.size) (hwo : wo.heap.size ≤ wb.heap.size) (hw4 : Below w.heap.size w w4) (hb4 : Below wb.heap.size wb w4) (hR : FnRow wb wo.heap.size X v L) (hl : j ≤ 1000000)
    (h4 : w4.ownsRow wb.heap.size 3 1 (.slice A4 nlo c4) nlo (intV lo)) (h5 : w4.ownsRow wb.heap.size 3 1 (.slice A5 nsi c5) nsi (intV si)) (hb : BodyS Sb w Ab bo) (hX1 : ∀ k, wb.heap.size ≤ k → X k) (hX2 : ∀ k, Sb k → k < w.heap.size → X k) :
    ∃ q c w5, (Builtin.append_ #[28, 28] 28 #[v, .slice (some ⟨w4.heap.size, 0, none⟩) 1 1]).run Try.prog (w4.alloc (.cells #[.int .i64 nv, .int .i64 fpr, .slice A4 nlo c4, .slice A5 nsi c5, .slice Ab nb cb] 40)) = .ok (.slice (some ⟨q, 0, none⟩) (j + 1) c) w5 ∧ (∀ k, some k ≠ v.ownBlock → k < w4.heap.size → w5.heap[k]? = w4.heap[k]?) ∧ wo.heap.size ≤ q ∧ Below wo.heap.size w4 w5 ∧ FnRow w5 wo.heap.size X (.slice (some ⟨q, 0, none⟩) (j + 1) c) (L ++ [⟨nv, fpr, lo, si, bo⟩]) := by
  subst hlo; subst hsi; subst hnb; subst hj
  have hz := hb4.size
  have hfS : FnS (fun k => some k ≠ v.ownBlock ∧ X k) w4 [.int .i64 nv, .int .i64 fpr, .slice A4 lo.length c4, .slice A5 si.length c5, .slice Ab bo.len cb] ⟨nv, fpr, lo, si, bo⟩ := by
    have hup : ∀ k, wb.heap.size ≤ k → some k ≠ v.ownBlock ∧ X k := fun k hk => ⟨fun e => by have := (hR.blk k e).2.1; omega, hX1 k hk⟩
    refine ⟨A4, c4, A5, c5, Ab, cb, rfl, (RdS.own h4).below hup, (RdS.own h5).below hup, hb.kept (fun k _ hk => hw4.block k hk) (fun k hSk hk => ⟨fun e => by have := (hR.blk k e).1; omega, hX2 k hSk hk⟩)⟩
  obtain ⟨q, c, w5, hr, hat, hg, hF, _⟩ := FnRow.push (hR.old hb4) hl (by omega) ⟨nv, fpr, lo, si, bo⟩ A4 A5 Ab c4 c5 cb hfS
  refine ⟨q, c, w5, hr, fun k hk hlt => by rw [hg.block k (by simp; omega) hk, heap_alloc_old _ _ hlt], ?_, ?_, hF⟩
  · rcases hat with h | h
    · exact (hR.blk q h).1
    · omega
  · exact ((Below.refl _ w4).alloc (by omega) _).grown hg (by simp; omega) (fun k hk => (hR.blk k hk.symm).1)
end Go.Proofs.Ytpdebnecfknohaa
