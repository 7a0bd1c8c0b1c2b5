/-
  What coil.Size returns, for every uint64: how many bytes coil.Put lays.
-/
import Derived.Test.YtcafanekckkdoaaArgs
namespace Go.Proofs.Ytcafanekckkdoaa
open Go.RowKit

/-- How many groups of seven bits a number has. -/
def sizeN (n : Nat) : Nat := (Lib.bitLen (n - n % 2 + 1) + 6) / 7

theorem bitLen_odd (m : Nat) (h : 0 < m) (hm : m < 18446744073709551616) : Lib.bitLen (m - m % 2 + 1) = Lib.bitLen m := by
  rw [Lib.bitLen_half (m - m % 2 + 1) (by omega) (by omega), Lib.bitLen_half m (by omega) (by omega)]
  rw [show (m - m % 2 + 1) / 2 = m / 2 from by omega]
theorem bitLen_128 (m : Nat) (h : 128 ≤ m) (hm : m < 18446744073709551616) : Lib.bitLen m = 7 + Lib.bitLen (m / 128) :=
  Lib.bitLen_shift 7 m h hm
theorem small_all : ∀ m : Fin 128, (Lib.bitLen (m.val - m.val % 2 + 1) + 6) / 7 = 1 := by decide +kernel
theorem small_len (m : Nat) (h : m < 128) : (Lib.bitLen (m - m % 2 + 1) + 6) / 7 = 1 := small_all ⟨m, h⟩
theorem hi_size (n : Nat) : 0 < n → n < 18446744073709551616 → (hi n).length = (Lib.bitLen n + 6) / 7 := by
  induction n using Nat.strongRecOn with
  | ind n ih =>
    intro h0 hn
    rw [hi]
    split
    · rename_i h
      have := small_len n h
      rw [bitLen_odd n h0 hn] at this
      simp [this]
    · rename_i h
      have h1 := ih (n / 128) (by omega) (by omega) (by omega)
      have h2 := bitLen_128 n (by omega) hn
      simp only [List.length_append, List.length_cons, List.length_nil]
      rw [h1, h2]; omega
theorem size_put (n : Nat) (hn : n < 18446744073709551616) : sizeN n = (put n).length := by
  unfold sizeN put
  split
  · rename_i h
    rw [small_len n h]; rfl
  · rename_i h
    have h1 := hi_size (n / 128) (by omega) (by omega)
    have h2 := bitLen_128 (n - n % 2 + 1) (by omega) (by omega)
    rw [show (n - n % 2 + 1) / 128 = n / 128 from by omega] at h2
    simp only [List.length_append, List.length_cons, List.length_nil]
    rw [h1, h2]; omega

set_option maxHeartbeats 400000 in
theorem size_any (x : Int) (w : World) (h0 : 0 ≤ x) (h1 : x < 18446744073709551616) :
    Calls Try.prog 15 #[.int .u64 x] w fun e w' => e = .returned (.int .i64 (sizeN x.toNat)) ∧ w = w' := by
  have e := or_1 x h0 h1
  have H1 := Lib.hid h1
  have hle : Lib.bitLen (x - x % 2 + 1).toNat ≤ 64 := Lib.bitLen_le _ 64 (by omega) (by rw [show (2 : Nat) ^ 64 = 18446744073709551616 from by decide]; omega)
  clear h1
  go_enter Try.func15, Try.ntmps15
  go_wp2_with fail
  refine (len_any _ _ (by omega) (by have := H1.out; omega)).mono ?_
  rintro e w1 ⟨rfl, rfl⟩
  go_wp2
  go_ret
  refine ⟨ret_of ?_, rfl⟩
  unfold sizeN
  rw [show (x - x % 2 + 1).toNat = x.toNat - x.toNat % 2 + 1 from by omega]
  omega
end Go.Proofs.Ytcafanekckkdoaa
