/-
  The number at the beginning of some bytes, as coil's reader takes it: of bytes of a number, with others behind, it is that number; of a part of them there is none. Plain lists, no conditions beyond those in each theorem.
-/
import Derived.Test.YtcafanekckkdoaaOrd
namespace Go.Proofs.Ytcafanekckkdoaa

/-- The number ahead, from byte i on, n being what came before; how many bytes; the fault's number. -/
def firstF : Nat → Nat → List Nat → Nat × Nat × Nat
  | _, _, [] => (0, 0, 3)
  | i, n, b :: l => if (i = 0 ∧ b = 128) ∨ 144115188075855872 ≤ n then (0, 0, 4) else if b < 128 then (n * 128 + b % 128, i + 1, 0) else firstF (i + 1) (n * 128 + b % 128) l

theorem first_nil (i n : Nat) : firstF i n [] = (0, 0, 3) := by rw [firstF]
theorem first_form (i n b : Nat) (l : List Nat) (h : (i = 0 ∧ b = 128) ∨ 144115188075855872 ≤ n) : firstF i n (b :: l) = (0, 0, 4) := by rw [firstF, if_pos h]
theorem first_end (i n b : Nat) (l : List Nat) (h : ¬ ((i = 0 ∧ b = 128) ∨ 144115188075855872 ≤ n)) (hb : b < 128) : firstF i n (b :: l) = (n * 128 + b % 128, i + 1, 0) := by rw [firstF, if_neg h, if_pos hb]
theorem first_on (i n b : Nat) (l : List Nat) (h : ¬ ((i = 0 ∧ b = 128) ∨ 144115188075855872 ≤ n)) (hb : ¬ b < 128) : firstF i n (b :: l) = firstF (i + 1) (n * 128 + b % 128) l := by rw [firstF, if_neg h, if_neg hb]

/-- All groups but the last one of a number, read. -/
theorem first_hiz (m : Nat) : ∀ (l : List Nat), m < 144115188075855872 → firstF 0 0 (hiz m ++ l) = firstF (hiz m).length m l := by
  induction m using Nat.strongRecOn with
  | ind m ih =>
    intro l hm
    rcases Nat.eq_zero_or_pos m with h0 | h0
    · subst h0; simp [hiz_0]
    · rw [hiz_step m h0, List.append_assoc, ih (m / 128) (by omega) _ (by omega)]
      rw [List.singleton_append, first_on]
      · rw [List.length_append, List.length_singleton]
        congr 1
        omega
      · rintro (⟨h1, h2⟩ | h)
        · have := hiz_nil (m / 128) h1
          omega
        · omega
      · omega
theorem first_put (n : Nat) (hn : n < 18446744073709551616) (q : List Nat) : firstF 0 0 (put n ++ q) = (n, (put n).length, 0) := by
  rw [put_step n, List.append_assoc, first_hiz (n / 128) _ (by omega), List.singleton_append, first_end]
  · rw [List.length_append, List.length_singleton]
    congr 1
    omega
  · rintro (⟨h1, h2⟩ | h)
    · omega
    · omega
  · omega
/-- A part of a number's groups, but not all. -/
theorem first_hiz_cut (m : Nat) : ∀ (k : Nat), m < 144115188075855872 → k ≤ (hiz m).length → firstF 0 0 ((hiz m).take k) = (0, 0, 3) := by
  induction m using Nat.strongRecOn with
  | ind m ih =>
    intro k hm hk
    rcases Nat.eq_zero_or_pos m with h0 | h0
    · subst h0; simp [hiz_0, first_nil]
    · rcases Nat.lt_or_ge k (hiz m).length with h1 | h1
      · have hl := hiz_len m h0
        rw [hiz_step m h0, List.take_append_of_le_length (by omega)]
        exact ih (m / 128) (by omega) k (by omega) (by omega)
      · rw [List.take_of_length_le h1]
        have := first_hiz m [] hm
        rw [List.append_nil] at this
        rw [this, first_nil]
theorem first_cut (n k : Nat) (hn : n < 18446744073709551616) (hk : k < (put n).length) : firstF 0 0 ((put n).take k) = (0, 0, 3) := by
  rw [put_step n] at hk ⊢
  rw [List.length_append, List.length_singleton] at hk
  rw [List.take_append_of_le_length (by omega)]
  exact first_hiz_cut (n / 128) k (by omega) (by omega)
theorem first_range (l : List Nat) : ∀ (i n : Nat), (firstF i n l).1 < 18446744073709551616 ∧ (firstF i n l).2.1 ≤ i + l.length ∧ (firstF i n l).2.2 < 5 := by
  induction l with
  | nil => intro i n; simp [firstF]
  | cons b l ih =>
    intro i n
    rw [firstF]
    split
    · simp
    · split
      · simp; omega
      · have := ih (i + 1) (n * 128 + b % 128)
        simp only [List.length_cons]; omega
theorem first_size (l : List Nat) : ∀ (i n : Nat), (firstF i n l).2.2 = 0 → i < (firstF i n l).2.1 := by
  induction l with
  | nil => intro i n; simp [firstF]
  | cons b l ih =>
    intro i n
    rw [firstF]
    split
    · simp
    · split
      · simp
      · intro h; have := ih (i + 1) (n * 128 + b % 128) h; omega
end Go.Proofs.Ytcafanekckkdoaa
