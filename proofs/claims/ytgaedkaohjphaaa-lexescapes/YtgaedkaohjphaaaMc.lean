/-
  Lex: comments that end, and those that don't.
-/
import Derived.Test.YtgaedkaohjphaaaMa
namespace Go.Proofs.Ytgaedkaohjphaaa
open Go.RowKit
set_option linter.unusedVariables false
set_option linter.unusedSimpArgs false
set_option maxRecDepth 20000

/-- Does a comment end at a place? -/
def hitF (line : Bool) (p : List UInt8) (i : Nat) : Bool := if line then p.getD i 0 == 10 else p.getD i 0 == 42 && (decide (i + 1 < p.length) && p.getD (i + 1) 0 == 47)
def endsK (line : Bool) (p : List UInt8) : Nat → Bool
  | 0 => false
  | i + 1 => endsK line p i || hitF line p i
theorem endsK_no (line : Bool) (p : List UInt8) : ∀ n, endsK line p n = false → ∀ i, i < n → hitF line p i = false
  | 0, _, i, h => by omega
  | n + 1, h, i, hi => by
    simp only [endsK, Bool.or_eq_false_iff] at h
    by_cases hin : i < n
    · exact endsK_no line p n h.1 i hin
    · obtain rfl : i = n := by omega
      exact h.2
theorem indexByte_at (p r : List UInt8) (x : UInt8) (h : ∀ y ∈ p, y ≠ x) : Lib.indexByte (p ++ x :: r) x = p.length := by
  induction p with
  | nil => simp [Lib.indexByte]
  | cons y l ih =>
    have h1 := h y List.mem_cons_self
    have h2 := ih fun z hz => h z (List.mem_cons_of_mem _ hz)
    rw [List.cons_append, Lib.indexByte, h2]
    have hb : (y == x) = false := by simpa using h1
    rw [hb]
    simp
def noSE : List UInt8 → Bool
  | x :: y :: l => !(x == 42 && y == 47) && noSE (y :: l)
  | _ => true
theorem pre2 (x y : UInt8) (l : List UInt8) : ([42, 47] : List UInt8).isPrefixOf (x :: y :: l) = (x == 42 && y == 47) := by
  simp only [List.isPrefixOf, Bool.and_true]
  rw [Bool.eq_iff_iff]
  simp
  constructor <;> rintro ⟨h1, h2⟩ <;> exact ⟨h1.symm, h2.symm⟩
theorem pre1 (x : UInt8) : ([42, 47] : List UInt8).isPrefixOf [x] = false := by simp [List.isPrefixOf]
theorem index_none : ∀ p : List UInt8, noSE p = true → Lib.index p [42, 47] = -1
  | [], _ => rfl
  | [x], _ => by simp [Lib.index, pre1]
  | x :: y :: l, h => by
    simp only [noSE, Bool.and_eq_true, Bool.not_eq_true'] at h
    rw [Lib.index, pre2, h.1, index_none (y :: l) h.2]
    simp
theorem index_at : ∀ (p r : List UInt8), noSE p = true → Lib.index (p ++ 42 :: 47 :: r) [42, 47] = p.length
  | [], r, _ => by simp [Lib.index]
  | [x], r, _ => by
    rw [List.cons_append, List.nil_append, Lib.index, pre2]
    simp [Lib.index]
  | x :: y :: l, r, h => by
    simp only [noSE, Bool.and_eq_true, Bool.not_eq_true'] at h
    have ih := index_at (y :: l) r h.2
    rw [List.cons_append, List.cons_append, Lib.index, pre2, h.1]
    rw [List.cons_append] at ih
    rw [ih]
    simp
    intro h3; omega
theorem noSE_of : ∀ p : List UInt8, (∀ i, i < p.length → hitF false p i = false) → noSE p = true
  | [], _ => rfl
  | [x], _ => rfl
  | x :: y :: l, h => by
    have h0 := h 0 (by simp)
    have ih := noSE_of (y :: l) fun i hi => by
      have := h (i + 1) (by simpa using hi)
      simpa [hitF] using this
    have h1 : x = 42 → ¬ y = 47 := by simpa [hitF] using h0
    simp only [noSE, ih, Bool.and_true]
    by_cases hx : x = 42
    · simp [hx, h1 hx]
    · simp [hx]
theorem no10_of (p : List UInt8) (h : ∀ i, i < p.length → hitF true p i = false) : ∀ y ∈ p, y ≠ 10 := fun y hy => by
  obtain ⟨i, hi, rfl⟩ := List.getElem_of_mem hy
  have := h i hi
  simpa [hitF, List.getD, hi] using this
theorem skip_stop (p : List UInt8) (f a : Nat) (ha : a < p.length) (h : gapF (p.drop a) = (0, true)) : skipF p (f + 1) a = (a, true) := by
  rw [skipF, if_pos ha, h]
  simp
theorem next_line (p : List UInt8) (h : ∀ y ∈ p, y ≠ 10) : nextF ([32, 32, 47, 47] ++ p ++ [10, 59]) 0 = (⟨3, 0, [59], p.length + 5⟩, 0, 0, p.length + 6) := by
  obtain ⟨q, hq⟩ : ∃ q, q = [32, 32, 47, 47] ++ p ++ [10, 59] := ⟨_, rfl⟩
  have hl : q.length = p.length + 6 := by rw [hq]; simp
  have d0 : q.drop 0 = 32 :: 32 :: 47 :: 47 :: (p ++ [10, 59]) := by rw [hq]; simp
  have d1 : q.drop 1 = 32 :: 47 :: 47 :: (p ++ [10, 59]) := by rw [hq]; simp
  have d2 : q.drop 2 = 47 :: 47 :: (p ++ [10, 59]) := by rw [hq]; simp
  have d3 : q.drop (2 + (2 + p.length)) = [10, 59] := by
    rw [hq, show [32, 32, 47, 47] ++ p ++ [10, 59] = ([32, 32, 47, 47] ++ p) ++ [10, 59] from rfl, List.drop_append, List.drop_of_length_le (by simp; omega)]
    simp
    rw [show 2 + (2 + p.length) - (p.length + 4) = 0 from by omega]; rfl
  have d4 : q.drop (2 + (2 + p.length) + 1) = [59] := by
    rw [← List.drop_drop, d3]; rfl
  have g2 : gapF (q.drop 2) = (((2 + p.length : Nat) : Int), true) := by
    rw [d2]
    have hi := indexByte_at (47 :: 47 :: p) [59] 10 (fun y hy => by
      simp only [List.mem_cons] at hy
      rcases hy with rfl | rfl | hy
      · decide
      · decide
      · exact h y hy)
    have hi' : Lib.indexByte (47 :: 47 :: (p ++ [10, 59])) 10 = ((2 + p.length : Nat) : Int) := by
      rw [show (47 :: 47 :: (p ++ [10, 59]) : List UInt8) = (47 :: 47 :: p) ++ 10 :: [59] from by simp, hi]
      simp; omega
    unfold gapF
    rw [hi']
    simp [blankF, List.isPrefixOf]
    omega
  have s : skipF q (q.length + 1) 0 = (p.length + 5, true) := by
    rw [hl]
    rw [skip_step q (p.length + 6) 0 1 (by omega) (by omega) (by rw [d0]; exact blank_gap 32 _ (by decide))]
    rw [skip_step q (p.length + 5) (0 + 1) 1 (by omega) (by omega) (by rw [show 0 + 1 = 1 from rfl, d1]; exact blank_gap 32 _ (by decide))]
    rw [skip_step q (p.length + 4) (0 + 1 + 1) (2 + p.length) (by omega) (by omega) g2]
    rw [show 0 + 1 + 1 + (2 + p.length) = 2 + (2 + p.length) from by omega]
    rw [skip_step q (p.length + 3) (2 + (2 + p.length)) 1 (by omega) (by omega) (by rw [d3]; exact blank_gap 10 _ (by decide))]
    rw [skip_stop q (p.length + 2) (2 + (2 + p.length) + 1) (by omega) (by rw [d4]; decide)]
    congr 1
    omega
  have hg : q.getD (p.length + 5) 0 = 59 := by
    have h1 : q.drop (p.length + 5) = [59] := by rw [← d4]; congr 1; omega
    have h2 : (q.drop (p.length + 5))[0]? = some 59 := by rw [h1]; rfl
    rw [List.getElem?_drop, Nat.add_zero] at h2
    rw [List.getD_eq_getElem?_getD, h2]; rfl
  have r : readF q (p.length + 5) = (⟨3, 0, [59], p.length + 5⟩, p.length + 5 + 1, true) := by
    unfold readF
    rw [if_neg (by omega), hg]
    rw [if_neg (by decide), if_neg (by decide), if_pos (by decide)]
  rw [← hq]
  simp only [nextF, s, r]
  simp
theorem next_open (p : List UInt8) (h : noSE p = true) : nextF ([10, 32, 47, 42] ++ p) 0 = (tok0, 2, 7, 0) := by
  obtain ⟨q, hq⟩ : ∃ q, q = [10, 32, 47, 42] ++ p := ⟨_, rfl⟩
  have hl : q.length = p.length + 4 := by rw [hq]; simp
  have d0 : q.drop 0 = 10 :: 32 :: 47 :: 42 :: p := by rw [hq]; simp
  have d1 : q.drop 1 = 32 :: 47 :: 42 :: p := by rw [hq]; simp
  have d2 : q.drop 2 = 47 :: 42 :: p := by rw [hq]; simp
  have g2 : (gapF (q.drop 2)).2 = false := by
    rw [d2]
    unfold gapF
    simp only [List.drop_succ_cons, List.drop_zero, index_none p h]
    simp [blankF, List.isPrefixOf]
  have s : skipF q (q.length + 1) 0 = (2, false) := by
    rw [hl]
    rw [skip_step q (p.length + 4) 0 1 (by omega) (by omega) (by rw [d0]; exact blank_gap 10 _ (by decide))]
    rw [skip_step q (p.length + 3) (0 + 1) 1 (by omega) (by omega) (by rw [show 0 + 1 = 1 from rfl, d1]; exact blank_gap 32 _ (by decide))]
    rw [show 0 + 1 + 1 = 2 from rfl, skipF, if_pos (by omega), if_pos g2]
  rw [← hq]
  simp only [nextF, s]
  simp
theorem next_block (p : List UInt8) (h : noSE p = true) : nextF ([47, 42] ++ p ++ [42, 47, 32, 119, 111, 114, 100]) 0 = (⟨1, 0, [119, 111, 114, 100], p.length + 5⟩, 0, 0, p.length + 9) := by
  obtain ⟨q, hq⟩ : ∃ q, q = [47, 42] ++ p ++ [42, 47, 32, 119, 111, 114, 100] := ⟨_, rfl⟩
  have hl : q.length = p.length + 9 := by rw [hq]; simp
  have d0 : q.drop 0 = 47 :: 42 :: (p ++ 42 :: 47 :: [32, 119, 111, 114, 100]) := by rw [hq]; simp
  have d1 : q.drop (0 + (p.length + 4)) = [32, 119, 111, 114, 100] := by
    rw [hq, show [47, 42] ++ p ++ [42, 47, 32, 119, 111, 114, 100] = ([47, 42] ++ p ++ [42, 47]) ++ [32, 119, 111, 114, 100] from by simp, List.drop_append, List.drop_of_length_le (by simp)]
    simp
  have d2 : q.drop (0 + (p.length + 4) + 1) = [119, 111, 114, 100] := by rw [← List.drop_drop, d1]; rfl
  have g0 : gapF (q.drop 0) = (((p.length + 4 : Nat) : Int), true) := by
    rw [d0]
    unfold gapF
    simp only [List.drop_succ_cons, List.drop_zero, index_at p _ h]
    simp [blankF, List.isPrefixOf]
    omega
  have s : skipF q (q.length + 1) 0 = (p.length + 5, true) := by
    rw [hl]
    rw [skip_step q (p.length + 9) 0 (p.length + 4) (by omega) (by omega) g0]
    rw [skip_step q (p.length + 8) (0 + (p.length + 4)) 1 (by omega) (by omega) (by rw [d1]; exact blank_gap 32 _ (by decide))]
    rw [skip_stop q (p.length + 7) (0 + (p.length + 4) + 1) (by omega) (by rw [d2]; decide)]
    congr 1
    omega
  have h1 : q.drop (p.length + 5) = [119, 111, 114, 100] := by rw [← d2]; congr 1; omega
  have hg : q.getD (p.length + 5) 0 = 119 := by
    have h2 : (q.drop (p.length + 5))[0]? = some 119 := by rw [h1]; rfl
    rw [List.getElem?_drop, Nat.add_zero] at h2
    rw [List.getD_eq_getElem?_getD, h2]; rfl
  have r : readF q (p.length + 5) = (⟨1, 0, [119, 111, 114, 100], p.length + 5⟩, p.length + 5 + 4, true) := by
    unfold readF
    rw [if_neg (by omega), hg, if_pos (by decide), h1]
    rfl
  rw [← hq]
  simp only [nextF, s, r]
  simp
end Go.Proofs.Ytgaedkaohjphaaa
