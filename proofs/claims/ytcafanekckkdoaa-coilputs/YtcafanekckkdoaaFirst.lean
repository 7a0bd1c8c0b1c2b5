/-
  What coil's inner function 'first' returns for a slice of bytes: the number ahead, how many bytes it has, the fault.
-/
import Derived.Test.YtcafanekckkdoaaSize
import Derived.Test.YtcafanekckkdoaaDec
namespace Go.Proofs.Ytcafanekckkdoaa
open Go.RowKit

theorem bitLen_gt (m : Nat) (hm : m < 18446744073709551616) : 57 < Lib.bitLen m ↔ 144115188075855872 ≤ m := by
  constructor
  · intro h
    rcases Nat.lt_or_ge m 144115188075855872 with h1 | h1
    · have := Lib.bitLen_le m 57 (by omega) (by rw [show (2 : Nat) ^ 57 = 144115188075855872 from by decide]; exact h1)
      omega
    · exact h1
  · intro h
    have h2 := Lib.bitLen_shift 57 m (by rw [show (2 : Nat) ^ 57 = 144115188075855872 from by decide]; exact h) hm
    have h3 := Lib.bitLen_half (m / 2 ^ 57) (by rw [show (2 : Nat) ^ 57 = 144115188075855872 from by decide]; omega) (by omega)
    omega

theorem acc_eq (m x : Nat) (hm : m < 144115188075855872) (hx : x < 256) :
    bits .or .u64 (IntKind.u64.wrap ((m : Int) * 128)) (IntKind.u64.wrap (bits .and .u8 (x : Int) 127)) = ((m * 128 + x % 128 : Nat) : Int) := by
  have h1 := u8_and_nat x 127 hx (by omega)
  rw [show ((127 : Nat) : Int) = 127 from rfl] at h1
  have e : x &&& 127 = x % 128 := by
    rw [show (127 : Nat) = 2 ^ 7 - 1 from rfl, Nat.and_two_pow_sub_one_eq_mod]
  rw [h1, e, IntKind.wrap_u64, IntKind.wrap_u64]
  rw [show ((m : Int) * 128) % 18446744073709551616 = ((m * 128 : Nat) : Int) from by omega, show ((x % 128 : Nat) : Int) % 18446744073709551616 = ((x % 128 : Nat) : Int) from by omega]
  rw [u64_or _ _ (by omega) (by omega)]
  have e2 : m * 128 ||| x % 128 = m * 128 + x % 128 := by
    have := Nat.shiftLeft_add_eq_or_of_lt (show x % 128 < 2 ^ 7 by omega) m
    rw [Nat.shiftLeft_eq] at this
    rw [← this]
  rw [e2]

theorem ret3 {a b : Nat × Nat × Nat} (h : a = b) : Ending.returned (.tuple #[.int .u64 a.1, .int .i64 a.2.1, .int .i64 a.2.2]) = .returned (.tuple #[.int .u64 b.1, .int .i64 b.2.1, .int .i64 b.2.2]) := by rw [h]

set_option maxRecDepth 20000 in
set_option maxHeartbeats 2000000 in
theorem first_any (b o c : Nat) (l : List Nat) (w : World) (hl : l.length ≤ 1048576000) (hby : ∀ x ∈ l, x < 256)
    (hc : ∀ k, k < l.length → w.cell? ⟨b, o + k, none⟩ = some (B (l.getD k 0))) :
    Calls Try.prog 27 #[.slice (some ⟨b, o, none⟩) l.length c] w fun e w' => e = .returned (.tuple #[.int .u64 (firstF 0 0 l).1, .int .i64 (firstF 0 0 l).2.1, .int .i64 (firstF 0 0 l).2.2]) ∧ w = w' := by
  have Hc := Lib.hid hc
  have Hby := Lib.hid hby
  clear hc hby
  go_enter Try.func27, Try.ntmps27
  go_wp2
  go_loop [5, 10] (fun n i => ∃ k m : Nat, k ≤ l.length ∧ i = .int .i64 k ∧ n = .int .u64 m ∧ Hid (m < 18446744073709551616) ∧ Hid (firstF 0 0 l = firstF k m (l.drop k))) (fun _ i => l.length - (intOf i).toNat)
  case atStart => exact ⟨0, 0, Nat.zero_le _, rfl, rfl, by show 0 < _; omega, rfl⟩
  case round =>
    obtain ⟨k, m, hk, rfl, rfl, hm, hF⟩ := hrel
    by_cases hlt : k < l.length
    · obtain ⟨x, hx⟩ : ∃ x, x = l.getD k 0 := ⟨_, rfl⟩
      have hcell := Hc.out k hlt
      rw [← hx] at hcell
      have hd : l.drop k = x :: l.drop (k + 1) := by
        rw [hx, List.drop_eq_getElem_cons hlt]; simp [hlt]
      have hx2 : x < 256 := Hby.out x (by rw [hx]; simp [hlt])
      have HF : Hid (firstF 0 0 l = firstF k m (x :: l.drop (k + 1))) := by rw [← hd]; exact hF
      clear hF hx hd
      unfold B at hcell
      by_cases hk0 : (k = 0 ∧ x = 128)
      · have hkz : ((k : Int) == 0) = true := by simp; omega
        have hxz : ((x : Int) == 128) = true := by simp; omega
        have Hk := Lib.hid hk0
        clear hk0
        go_wp2
        go_ret3
        exact ⟨ret3 (a := (0, 0, 4)) (by rw [HF.out, first_form _ _ _ _ (.inl Hk)]), rfl⟩
      · have hor : ((k : Int) == 0) = false ∨ (((k : Int) == 0) = true ∧ ((x : Int) == 128) = false) := by
          by_cases h : k = 0
          · right; simp; omega
          · left; simp; omega
        have Hk := Lib.hid hk0
        clear hk0
        by_cases hbig : 144115188075855872 ≤ m
        · have hbl : 57 < Lib.bitLen m := by rw [bitLen_gt m hm.out]; exact hbig
          have Hbig := Lib.hid hbig
          clear hbig
          rcases hor with hkz | ⟨hkz, hxz⟩
          all_goals
            go_wp2_with fail
            refine (len_any _ _ (by omega) (by have := hm.out; omega)).mono ?_
            rintro e w1 ⟨rfl, rfl⟩
            go_wp2
            go_ret3
            exact ⟨ret3 (a := (0, 0, 4)) (by rw [HF.out, first_form _ _ _ _ (.inr Hbig)]), rfl⟩
        · have hbl : ¬ 57 < Lib.bitLen m := by rw [bitLen_gt m hm.out]; exact hbig
          have hacc := Lib.hid (acc_eq m x (by omega) hx2)
          have hnot : ¬ ((k = 0 ∧ x = 128) ∨ 144115188075855872 ≤ m) := by rintro (h | h); exact Hk h; exact hbig h
          have Hnot := Lib.hid hnot
          have Hmm : Hid (m * 128 + x % 128 < 18446744073709551616) := by show _ < _; omega
          clear hbig hnot
          by_cases hx3 : x < 128
          · rcases hor with hkz | ⟨hkz, hxz⟩
            all_goals
              go_wp2_with fail
              refine (len_any _ _ (by omega) (by have := hm.out; omega)).mono ?_
              rintro e w1 ⟨rfl, rfl⟩
              go_wp2
              go_ret3
              refine ⟨?_, rfl⟩
              rw [HF.out, first_end _ _ _ _ Hnot hx3]
              show Ending.returned (.tuple #[.int .u64 _, .int .i64 ((k : Int) + 1), .int .i64 0]) = _
              rw [hacc.out]
              rfl
          · rcases hor with hkz | ⟨hkz, hxz⟩
            all_goals
              go_wp2_with fail
              refine (len_any _ _ (by omega) (by have := hm.out; omega)).mono ?_
              rintro e w1 ⟨rfl, rfl⟩
              go_wp2
              go_round
              case rel => exact ⟨k + 1, m * 128 + x % 128, by omega, by go_num, by rw [hacc.out], Hmm, by show _ = _; rw [HF.out, first_on _ _ _ _ Hnot hx3]⟩
              case measure => simp [intOf]; omega
    · go_wp2
      go_ret3
      exact ⟨ret3 (a := (0, 0, 3)) (by rw [hF.out, List.drop_of_length_le (by omega), first_nil]), rfl⟩

set_option maxRecDepth 20000 in
set_option maxHeartbeats 400000 in
theorem first_none (A : Option Addr) (c : Nat) (w : World) :
    Calls Try.prog 27 #[.slice A 0 c] w fun e w' => e = .returned (.tuple #[.int .u64 (firstF 0 0 []).1, .int .i64 (firstF 0 0 []).2.1, .int .i64 (firstF 0 0 []).2.2]) ∧ w = w' := by
  go_enter Try.func27, Try.ntmps27
  go_wp2
  refine wp_loop_rounds 1 ?_
  rw [rounds_succ]
  go_wp2
  go_ret3
  exact ⟨rfl, rfl⟩
end Go.Proofs.Ytcafanekckkdoaa
