/-
  Lex: blanks and comments in a row.
-/
import Derived.Test.YtgaedkaohjphaaaLi
namespace Go.Proofs.Ytgaedkaohjphaaa
open Go.RowKit
set_option linter.unusedVariables false
set_option linter.unusedSimpArgs false
set_option maxRecDepth 20000

/-- What stands between tokens, by a number. -/
def piece (k : Nat) : List UInt8 :=
  if k = 0 then [32] else if k = 1 then [9] else if k = 2 then [13, 10] else if k = 3 then [10] else if k = 4 then [47, 47, 32, 97, 10] else if k = 5 then [47, 42, 32, 98, 32, 42, 47] else [47, 42, 42, 47]
theorem piece_len (k : Nat) : 1 ≤ (piece k).length ∧ (piece k).length ≤ 7 := by
  unfold piece
  repeat' split
  all_goals simp
theorem skip_step (p : List UInt8) (f a g : Nat) (ha : a < p.length) (hg : 0 < g) (h : gapF (p.drop a) = ((g : Int), true)) : skipF p (f + 1) a = skipF p f (a + g) := by
  rw [skipF, if_pos ha, h]
  simp only [Bool.true_eq_false, if_false]
  rw [if_neg (by omega), Int.toNat_natCast]
theorem blank_gap (x : UInt8) (r : List UInt8) (h : blankF (x.toNat : Int) = true) : gapF (x :: r) = (1, true) := by
  simp [gapF, h]
theorem gap4 (r : List UInt8) : gapF (47 :: 47 :: 32 :: 97 :: 10 :: r) = (4, true) := by
  simp [gapF, blankF, Lib.indexByte]
theorem gap5 (r : List UInt8) : gapF (47 :: 42 :: 32 :: 98 :: 32 :: 42 :: 47 :: r) = (7, true) := by
  simp [gapF, blankF, Lib.index]
theorem gap6 (r : List UInt8) : gapF (47 :: 42 :: 42 :: 47 :: r) = (4, true) := by
  simp [gapF, blankF, Lib.index]
/-- Behind a piece. -/
theorem skip_piece (k : Nat) (p pre r : List UInt8) (f : Nat) (hp : p = pre ++ (piece k ++ r)) (hf : (piece k).length < f) : ∃ f', f ≤ f' + (piece k).length ∧ skipF p f pre.length = skipF p f' (pre.length + (piece k).length) := by
  have hpl := piece_len k
  obtain ⟨f, rfl⟩ : ∃ g, f = g + 2 := ⟨f - 2, by omega⟩
  have hd : ∀ j, p.drop (pre.length + j) = (piece k ++ r).drop j := fun j => by rw [hp]; simp [List.drop_append]
  have hl : p.length = pre.length + ((piece k).length + r.length) := by rw [hp]; simp
  have h0 := hd 0
  simp only [Nat.add_zero, List.drop_zero] at h0
  have one : ∀ g : Nat, 0 < g → (piece k).length = g → gapF (piece k ++ r) = ((g : Int), true) → ∃ f', f + 2 ≤ f' + (piece k).length ∧ skipF p (f + 2) pre.length = skipF p f' (pre.length + (piece k).length) := fun g hg hlg hgp =>
    ⟨f + 1, by omega, by rw [hlg]; exact skip_step p (f + 1) pre.length g (by omega) hg (by rw [h0]; exact hgp)⟩
  have two : ∀ g1 g2 : Nat, 0 < g1 → 0 < g2 → (piece k).length = g1 + g2 → gapF (piece k ++ r) = ((g1 : Int), true) → gapF ((piece k ++ r).drop g1) = ((g2 : Int), true) → ∃ f', f + 2 ≤ f' + (piece k).length ∧ skipF p (f + 2) pre.length = skipF p f' (pre.length + (piece k).length) := fun g1 g2 h1 h2 hlg ha hb =>
    ⟨f, by omega, by
      rw [skip_step p (f + 1) pre.length g1 (by omega) h1 (by rw [h0]; exact ha), skip_step p f (pre.length + g1) g2 (by omega) h2 (by rw [hd g1]; exact hb), hlg, Nat.add_assoc]⟩
  clear hf hpl
  unfold piece at one two ⊢
  by_cases k0 : k = 0
  · simp only [k0, if_true] at one two ⊢
    exact one 1 (by omega) rfl (blank_gap 32 r (by decide))
  by_cases k1 : k = 1
  · simp only [k1, if_true, show ¬ (1 = 0) from by omega, if_false] at one two ⊢
    exact one 1 (by omega) rfl (blank_gap 9 r (by decide))
  by_cases k2 : k = 2
  · simp only [k2, if_true, show ¬ (2 = 0) from by omega, show ¬ (2 = 1) from by omega, if_false] at one two ⊢
    exact two 1 1 (by omega) (by omega) rfl (blank_gap 13 (10 :: r) (by decide)) (blank_gap 10 r (by decide))
  by_cases k3 : k = 3
  · simp only [k3, if_true, show ¬ (3 = 0) from by omega, show ¬ (3 = 1) from by omega, show ¬ (3 = 2) from by omega, if_false] at one two ⊢
    exact one 1 (by omega) rfl (blank_gap 10 r (by decide))
  by_cases k4 : k = 4
  · simp only [k4, if_true, show ¬ (4 = 0) from by omega, show ¬ (4 = 1) from by omega, show ¬ (4 = 2) from by omega, show ¬ (4 = 3) from by omega, if_false] at one two ⊢
    exact two 4 1 (by omega) (by omega) rfl (gap4 r) (blank_gap 10 r (by decide))
  by_cases k5 : k = 5
  · simp only [k5, if_true, show ¬ (5 = 0) from by omega, show ¬ (5 = 1) from by omega, show ¬ (5 = 2) from by omega, show ¬ (5 = 3) from by omega, show ¬ (5 = 4) from by omega, if_false] at one two ⊢
    exact one 7 (by omega) rfl (gap5 r)
  · simp only [k0, k1, k2, k3, k4, k5, if_false] at one two ⊢
    exact one 4 (by omega) rfl (gap6 r)
def catP : List Nat → List UInt8
  | [] => []
  | k :: l => piece k ++ catP l
theorem catP_snoc : ∀ (l : List Nat) (k : Nat), catP (l ++ [k]) = catP l ++ piece k
  | [], k => by simp [catP]
  | j :: l, k => by rw [List.cons_append, catP, catP, catP_snoc l k, List.append_assoc]
theorem skip_cat : ∀ (l : List Nat) (p pre : List UInt8) (f : Nat), p = pre ++ catP l → p.length - pre.length < f → skipF p f pre.length = (p.length, true)
  | [], p, pre, f, hp, hf => by
    obtain ⟨f, rfl⟩ : ∃ g, f = g + 1 := ⟨f - 1, by omega⟩
    have : p.length = pre.length := by rw [hp]; simp [catP]
    rw [skipF, if_neg (by omega), this]
  | k :: l, p, pre, f, hp, hf => by
    rw [catP] at hp
    have hl : p.length = pre.length + ((piece k).length + (catP l).length) := by rw [hp]; simp
    obtain ⟨f', hf', h⟩ := skip_piece k p pre (catP l) f hp (by omega)
    rw [h]
    have := skip_cat l p (pre ++ piece k) f' (by rw [hp, List.append_assoc]) (by rw [List.length_append]; omega)
    rwa [List.length_append] at this
theorem catP_len (l : List Nat) : l.length ≤ (catP l).length ∧ (catP l).length ≤ 7 * l.length := by
  induction l with
  | nil => simp [catP]
  | cons k l ih =>
    have := piece_len k
    simp only [catP, List.length_append, List.length_cons]
    omega
theorem next_end (p : List UInt8) : nextF p p.length = (⟨0, 0, [], p.length⟩, 0, 0, p.length) := by
  have h1 : skipF p (p.length + 1) p.length = (p.length, true) := by rw [skipF, if_neg (by omega)]
  have h2 : readF p p.length = (⟨0, 0, [], p.length⟩, p.length, true) := by rw [readF, if_pos rfl]
  simp [nextF, h1, h2]
theorem next_gaps (l : List Nat) : nextF (catP l) 0 = (⟨0, 0, [], (catP l).length⟩, 0, 0, (catP l).length) := by
  have h1 := skip_cat l (catP l) [] ((catP l).length + 1) rfl (by simp)
  rw [show ([] : List UInt8).length = 0 from rfl] at h1
  have h2 : readF (catP l) (catP l).length = (⟨0, 0, [], (catP l).length⟩, (catP l).length, true) := by rw [readF, if_pos rfl]
  simp [nextF, h1, h2]
end Go.Proofs.Ytgaedkaohjphaaa
