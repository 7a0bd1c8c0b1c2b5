/-
  A number in groups of seven bits as a list of bytes: its length, its bytes, and what holds at the head of the loop of coil.Put.
-/
import Derived.Test.YtcafanekckkdoaaMath
import Derived.Lib.BitFns
import Derived.Calls
namespace Go.Proofs.Ytcafanekckkdoaa
open Go.RowKit

/-- Groups that others follow. -/
def hi (n : Nat) : List Nat := if n < 128 then [n + 128] else hi (n / 128) ++ [n % 128 + 128]
termination_by n
decreasing_by omega
/-- A number in groups of seven bits. -/
def put (n : Nat) : List Nat := if n < 128 then [n] else hi (n / 128) ++ [n % 128]
/-- Groups that others follow; none of 0. -/
def hiz (n : Nat) : List Nat := if n = 0 then [] else hi n

theorem hiz_step (m : Nat) (h : 0 < m) : hiz m = hiz (m / 128) ++ [m % 128 + 128] := by
  unfold hiz
  rw [if_neg (by omega)]
  by_cases h1 : m < 128
  · rw [if_pos (by omega)]
    rw [hi, if_pos h1]
    simp
    omega
  · rw [if_neg (by omega)]
    rw [hi, if_neg h1]
theorem put_step (n : Nat) : put n = hiz (n / 128) ++ [n % 128] := by
  unfold put hiz
  by_cases h1 : n < 128
  · rw [if_pos h1, if_pos (by omega)]
    simp
    omega
  · rw [if_neg h1, if_neg (by omega)]

/-- A byte as a value. -/
def B (x : Nat) : Value := .int .u8 (x : Int)

/-- What holds at the head of Put's loop: what is left of the number, where the last laid byte is, the array. -/
def PutAt (n m a : Nat) (A : Array Value) : Prop :=
  A.size = 10 ∧ a < 10 ∧ m * 128 ^ (10 - a) < 18446744073709551616 ∧ ∃ S : List Nat, A.toList.drop a = S.map B ∧ put n = hiz m ++ S

theorem PutAt.start (n : Nat) (hn : n < 18446744073709551616) : PutAt n (n / 128) 9 #[B 0, B 0, B 0, B 0, B 0, B 0, B 0, B 0, B 0, B (n % 128)] := by
  refine ⟨rfl, by omega, ?_, [n % 128], rfl, put_step n⟩
  rw [show (10 - 9 : Nat) = 1 from rfl]; omega

theorem PutAt.pos {n m a : Nat} {A : Array Value} (h : PutAt n m a A) (hm : 0 < m) : 1 ≤ a := by
  obtain ⟨_, _, h3, _⟩ := h
  rcases Nat.eq_zero_or_pos a with rfl | h4
  · exfalso
    have : (128 : Nat) ^ (10 - 0) = 1180591620717411303424 := by decide
    rw [this] at h3
    omega
  · exact h4

theorem PutAt.lt {n m a : Nat} {A : Array Value} (h : PutAt n m a A) : m < 18446744073709551616 := by
  obtain ⟨_, _, h3, _⟩ := h
  exact Nat.lt_of_le_of_lt (Nat.le_mul_of_pos_right m (Nat.pow_pos (by omega))) h3

theorem PutAt.next {n m a : Nat} {A : Array Value} (h : PutAt n m a A) (hm : 0 < m) : PutAt n (m / 128) (a - 1) (A.setIfInBounds (a - 1) (B (m % 128 + 128))) := by
  have ha := h.pos hm
  obtain ⟨h1, h2, h3, S, h4, h5⟩ := h
  refine ⟨by simpa using h1, by omega, ?_, (m % 128 + 128) :: S, ?_, ?_⟩
  · have e : 10 - (a - 1) = (10 - a) + 1 := by omega
    rw [e, Nat.pow_succ, Nat.mul_comm (128 ^ (10 - a)) 128, ← Nat.mul_assoc]
    exact Nat.lt_of_le_of_lt (Nat.mul_le_mul_right _ (Nat.div_mul_le_self m 128)) h3
  · rw [Array.toList_setIfInBounds, List.drop_set, if_neg (by omega)]
    have hl : A.toList.length = 10 := by simpa using h1
    rw [List.drop_eq_getElem_cons (by omega : a - 1 < A.toList.length)]
    rw [show a - 1 - (a - 1) = 0 from by omega, List.set_cons_zero, show a - 1 + 1 = a from by omega, h4]
    rfl
  · rw [h5, hiz_step m hm]; simp

theorem PutAt.last {n a : Nat} {A : Array Value} (h : PutAt n 0 a A) : A.toList.drop a = (put n).map B ∧ (put n).length = 10 - a ∧ a < 10 := by
  obtain ⟨h1, h2, _, S, h4, h5⟩ := h
  have e : put n = S := by rw [h5]; simp [hiz]
  have hl : (A.toList.drop a).length = 10 - a := by simp [h1]
  rw [e]
  refine ⟨h4, ?_, h2⟩
  rw [h4] at hl
  simpa using hl

theorem hi_len (n : Nat) : ∀ k, n < 128 ^ k → 0 < k → (hi n).length ≤ k := by
  induction n using Nat.strongRecOn with
  | ind n ih =>
    intro k hk h0
    rw [hi]
    split
    · simp; omega
    · have h2 : 2 ≤ k := by
        rcases k with _ | _ | k
        · omega
        · simp at hk; omega
        · omega
      have := ih (n / 128) (by omega) (k - 1) (by
        have e : k = (k - 1) + 1 := by omega
        rw [e, Nat.pow_succ] at hk
        exact Nat.div_lt_of_lt_mul (by rw [Nat.mul_comm]; exact hk)) (by omega)
      simp; omega
theorem put_len (n : Nat) (hn : n < 18446744073709551616) : 1 ≤ (put n).length ∧ (put n).length ≤ 10 := by
  unfold put
  split
  · simp
  · have := hi_len (n / 128) 9 (by rw [show (128 : Nat) ^ 9 = 9223372036854775808 from by decide]; omega) (by omega)
    simp; omega
theorem hi_bytes (n : Nat) : ∀ x ∈ hi n, 128 ≤ x ∧ x < 256 := by
  induction n using Nat.strongRecOn with
  | ind n ih =>
    intro x hx
    rw [hi] at hx
    split at hx
    · simp at hx; omega
    · simp at hx
      rcases hx with hx | hx
      · exact ih (n / 128) (by omega) x hx
      · omega
theorem put_bytes (n : Nat) : ∀ x ∈ put n, x < 256 := by
  intro x hx
  unfold put at hx
  split at hx
  · simp at hx; omega
  · simp at hx
    rcases hx with hx | hx
    · exact (hi_bytes _ x hx).2
    · omega
end Go.Proofs.Ytcafanekckkdoaa
