/-
  Lex: the tokens of a text, plain.
-/
import Derived.Test.YtgaedkaohjphaaaMc
namespace Go.Proofs.Ytgaedkaohjphaaa
open Go.RowKit
set_option linter.unusedVariables false
set_option linter.unusedSimpArgs false
set_option maxRecDepth 20000

def ne10 (x : UInt8) : Bool := x != 10
theorem idx_cnt : ∀ l : List UInt8, (if 0 ≤ Lib.indexByte l 10 then Lib.indexByte l 10 else (l.length : Int)) = (cntW ne10 l : Int)
  | [] => by simp [Lib.indexByte, cntW]
  | x :: l => by
    have ih := idx_cnt l
    have hg := Lib.indexByte_ge l 10
    by_cases hx : x = 10
    · subst hx
      simp [Lib.indexByte, cntW, ne10]
    · have hb : (x == 10) = false := by simpa using hx
      have hn : ne10 x = true := by simp [ne10, bne, hb]
      rw [Lib.indexByte, hb, cntW, if_pos hn]
      by_cases h1 : Lib.indexByte l 10 = -1
      · rw [h1] at ih ⊢
        simp at ih ⊢
        omega
      · rw [if_pos (by omega)] at ih
        have hb1 : (Lib.indexByte l 10 == -1) = false := by simpa using h1
        rw [hb1]
        simp only [Bool.false_eq_true, if_false]
        rw [if_pos (by omega)]
        omega
theorem gap_line (r : List UInt8) : gapF (47 :: 47 :: r) = (((2 + cntW ne10 r : Nat) : Int), true) := by
  have h1 := idx_cnt (47 :: 47 :: r)
  have h2 : cntW ne10 (47 :: 47 :: r) = 2 + cntW ne10 r := by
    rw [cntW, if_pos (by decide), cntW, if_pos (by decide)]; omega
  rw [h2] at h1
  unfold gapF
  rw [List.headD_cons, if_neg (show ¬ blankF ((47 : UInt8).toNat : Int) = true by decide), if_pos (by simp [List.isPrefixOf])]
  split
  · rename_i h3; rw [if_pos h3] at h1; rw [h1]
  · rename_i h3; rw [if_neg h3] at h1; rw [h1]
/-- Where a comment ends: how many bytes ahead of that; does it? -/
def blkF : List UInt8 → Nat × Bool
  | x :: y :: l => if x = 42 ∧ y = 47 then (0, true) else ((blkF (y :: l)).1 + 1, (blkF (y :: l)).2)
  | _ => (0, false)
theorem blk_idx : ∀ l : List UInt8, Lib.index l [42, 47] = if (blkF l).2 = true then ((blkF l).1 : Int) else -1
  | [] => by simp [Lib.index, blkF]
  | [x] => by simp [Lib.index, blkF, pre1]
  | x :: y :: l => by
    have ih := blk_idx (y :: l)
    rw [Lib.index, pre2, blkF]
    by_cases h : x = 42 ∧ y = 47
    · obtain ⟨rfl, rfl⟩ := h
      simp
    · have hb : (x == 42 && y == 47) = false := by
        cases hh : (x == 42 && y == 47) with
        | false => rfl
        | true => exact absurd (by simpa using hh) h
      rw [hb, if_neg h, ih]
      simp only [Bool.false_eq_true, if_false]
      cases hb2 : (blkF (y :: l)).2 with
      | false => simp
      | true =>
        simp only [if_true]
        have hz : ((((blkF (y :: l)).1 : Nat) : Int) == -1) = false := by simp
        rw [hz]
        simp
theorem gap_block (r : List UInt8) : gapF (47 :: 42 :: r) = (2 + (if (blkF r).2 = true then ((blkF r).1 : Int) else -1) + 2, (blkF r).2) := by
  unfold gapF
  rw [List.headD_cons, if_neg (show ¬ blankF ((47 : UInt8).toNat : Int) = true by decide), if_neg (by simp [List.isPrefixOf]), if_pos (by simp [List.isPrefixOf])]
  simp only [List.drop_succ_cons, List.drop_zero, blk_idx]
  cases (blkF r).2 <;> simp
theorem gap_none (x : UInt8) (r : List UInt8) (hb : blankF (x.toNat : Int) = false) (h : ∀ y l, x = 47 → r = y :: l → y ≠ 47 ∧ y ≠ 42) : gapF (x :: r) = (0, true) := by
  unfold gapF
  rw [if_neg (by simpa using hb)]
  cases r with
  | nil => rw [if_neg (by simp [List.isPrefixOf]), if_neg (by simp [List.isPrefixOf])]
  | cons y l =>
    rw [if_neg, if_neg]
    · intro hp
      simp only [List.isPrefixOf, Bool.and_true, Bool.and_eq_true, beq_iff_eq] at hp
      exact (h y l hp.1.symm rfl).2 hp.2.symm
    · intro hp
      simp only [List.isPrefixOf, Bool.and_true, Bool.and_eq_true, beq_iff_eq] at hp
      exact (h y l hp.1.symm rfl).1 hp.2.symm
theorem blkF_le : ∀ l : List UInt8, (blkF l).2 = true → (blkF l).1 + 2 ≤ l.length
  | [], h => by simp [blkF] at h
  | [x], h => by simp [blkF] at h
  | x :: y :: l, h => by
    rw [blkF] at h ⊢
    by_cases h1 : x = 42 ∧ y = 47
    · rw [if_pos h1]; simp
    · rw [if_neg h1] at h ⊢
      have := blkF_le (y :: l) h
      simp only [List.length_cons] at this ⊢
      omega
theorem skip_open (p : List UInt8) (f a : Nat) (ha : a < p.length) (h : (gapF (p.drop a)).2 = false) : skipF p (f + 1) a = (a, false) := by
  rw [skipF, if_pos ha, if_pos h]
theorem skip_end (p : List UInt8) (f : Nat) : skipF p f p.length = (p.length, true) := by
  cases f with
  | zero => rfl
  | succ f => rw [skipF, if_neg (by omega)]
/-- Enough is enough. -/
theorem skip_fuel (p : List UInt8) : ∀ (f g a : Nat), p.length - a < f → p.length - a < g → a ≤ p.length → skipF p f a = skipF p g a
  | 0, g, a, h, _, _ => by omega
  | f + 1, 0, a, _, h, _ => by omega
  | f + 1, g + 1, a, h1, h2, h3 => by
    rw [skipF, skipF]
    by_cases ha : a < p.length
    · rw [if_pos ha, if_pos ha]
      by_cases h4 : (gapF (p.drop a)).2 = false
      · rw [if_pos h4, if_pos h4]
      · rw [if_neg h4, if_neg h4]
        by_cases h5 : (gapF (p.drop a)).1 = 0
        · rw [if_pos h5, if_pos h5]
        · rw [if_neg h5, if_neg h5]
          have hg := gapF_le (p.drop a) (by rw [List.length_drop]; omega) (by simpa using h4)
          rw [List.length_drop] at hg
          exact skip_fuel p f g _ (by omega) (by omega) (by omega)
    · rw [if_neg ha, if_neg ha]
/-- All tokens from a place on, behind some; where none stands; below 0: they are all. -/
def toksF (p : List UInt8) : Nat → Nat → List Tok → List Tok × Int
  | 0, _, acc => (acc, 0)
  | f + 1, a, acc =>
    if (skipF p (p.length + 1) a).2 = false then (acc, ((skipF p (p.length + 1) a).1 : Int))
    else if (skipF p (p.length + 1) a).1 = p.length then (acc ++ [⟨0, 0, [], p.length⟩], -1)
    else if (readF p (skipF p (p.length + 1) a).1).2.2 = false then (acc, ((readF p (skipF p (p.length + 1) a).1).2.1 : Int))
    else toksF p f (readF p (skipF p (p.length + 1) a).1).2.1 (acc ++ [(readF p (skipF p (p.length + 1) a).1).1])
theorem rqF_gt (p : List UInt8) : ∀ (f a : Nat) (acc : List UInt8), a ≤ (rqF p f a acc).2.1
  | 0, a, _ => Nat.le_refl _
  | f + 1, a, acc => by
    unfold rqF
    split
    · split
      · exact Nat.le_refl _
      · exact Nat.le_trans (Nat.le_add_right _ _) (rqF_gt p f _ _)
    · split
      · exact Nat.le_refl _
      · simp
theorem rnF_ge (p : List UInt8) (a : Nat) : a ≤ (rnF p a).2.1 := by
  unfold rnF
  split
  · exact Nat.le_trans (Nat.le_add_right _ _) (rqF_gt p _ _ _)
  · simp
theorem readF_gt (p : List UInt8) (a : Nat) (ha : a < p.length) (h : (readF p a).2.2 = true) : a < (readF p a).2.1 := by
  unfold readF at h ⊢
  rw [if_neg (by omega)] at h ⊢
  split
  · rename_i h1
    have : 0 < cntW smallB (p.drop a) := by
      rw [List.drop_eq_getElem_cons ha, cntW, if_pos (by
        rw [List.getD_eq_getElem?_getD, List.getElem?_eq_getElem ha] at h1; exact h1)]
      omega
    simp only; omega
  · split
    · have := rnF_ge p (a + 1)
      simp only; omega
    · split
      · simp only; omega
      · rename_i h1 h2 h3
        rw [if_neg h1, if_neg h2, if_neg h3] at h
        simp at h
end Go.Proofs.Ytgaedkaohjphaaa
