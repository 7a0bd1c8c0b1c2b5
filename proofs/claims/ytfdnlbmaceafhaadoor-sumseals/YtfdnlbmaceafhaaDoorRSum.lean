/-
  What the reference's Sum returns, for every slice of bytes that reads so: the sum, bit by bit.
-/
import Derived.Test.YtfdnlbmaceafhaaDoorOf
namespace Go.Proofs.YtfdnlbmaceafhaaDoor
open Go.RowKit

theorem bit_int (x k : Nat) (_hx : x < 256) : (x : Int) / 2 ^ k % 4294967296 % 2 = ((x / 2 ^ k % 2 : Nat) : Int) := by
  have h : x / 2 ^ k ≤ x := Nat.div_le_self _ _
  have e : (x : Int) / 2 ^ k = ((x / 2 ^ k : Nat) : Int) := by push_cast; rfl
  rw [e]
  omega
theorem twice (r : BitVec 32) : (r.toNat : Int) * (2 : Int) % (4294967296 : Int) = ((r <<< 1).toNat : Int) := by
  rw [BitVec.toNat_shiftLeft, Nat.shiftLeft_eq]
  omega
theorem poly_xor (r : BitVec 32) : bits .xor .u32 (r.toNat : Int) 79764919 = ((r ^^^ 79764919#32).toNat : Int) := by
  have hr := r.isLt
  have h := u32_xor_nat r.toNat 79764919 (by omega) (by omega)
  rw [BitVec.toNat_xor]
  exact h

set_option maxRecDepth 20000 in
set_option maxHeartbeats 1000000 in
theorem rsum_any (A : Option Addr) (c : Nat) (l : List Nat) (w : World) (h : Src w A l) (hl : l.length ≤ 1048576000) (hby : ∀ x ∈ l, x < 256) :
    Calls Tryd.prog 11 #[.slice A l.length c] w fun e w' => e = .returned (.int .u32 ((crc ones l).toNat : Int)) ∧ w = w' := by
  have HS := Lib.hid h
  have Hby := Lib.hid hby
  have Hall := Lib.hid (bsum_all l hby)
  clear h hby
  go_enter Tryd.func11, Tryd.ntmps11
  go_wp2
  go_loop [3, 4] (fun r i => ∃ j : Nat, j ≤ 8 * l.length ∧ i = .int .i64 j ∧ r = .int .u32 ((bsum l j).toNat : Int)) (fun _ i => 8 * l.length - (intOf i).toNat)
  case atStart => exact ⟨0, Nat.zero_le _, rfl, rfl⟩
  case round =>
    obtain ⟨j, hj, rfl, rfl⟩ := hrel
    by_cases hlt : j < 8 * l.length
    · obtain ⟨b, o, rfl, hc⟩ := HS.out.at_ (by omega)
      have hcell := hc (j / 8) (by omega)
      have hx2 := Hby.out (l.getD (j / 8) 0) (by simp [show j / 8 < l.length by omega])
      have Hbit : Hid (bitOf l j = l.getD (j / 8) 0 / 2 ^ (7 - j % 8) % 2) := rfl
      have Hs : Hid (bsum l (j + 1) = stepB (bsum l j ^^^ bitTop (bitOf l j))) := rfl
      clear hc
      generalize l.getD (j / 8) 0 = x at *
      generalize bsum l j = r at *
      unfold B at hcell
      have ebit : (x : Int) / 2 ^ (7 - j % 8) % 4294967296 % 2 = (bitOf l j : Int) := by rw [Hbit.out]; exact bit_int x _ hx2
      have hb2 : bitOf l j < 2 := by rw [Hbit.out]; omega
      clear Hbit
      generalize bitOf l j = d at *
      have Hst := Lib.hid (stepB_bit r d hb2)
      by_cases hd : r.toNat / 2147483648 = d
      · have hne : ((r.toNat : Int) / 2147483648 != (d : Int)) = false := by simp; omega
        have E1 := Lib.hid (twice r)
        have Hd := Lib.hid hd
        clear hd
        go_wp2
        go_round
        case rel => exact ⟨j + 1, by omega, by go_num, by rw [Hs.out, Hst.out, if_neg (by rw [Hd.out]; simp), ← E1.out]⟩
        case measure => simp [intOf]; omega
      · have hne : ((r.toNat : Int) / 2147483648 != (d : Int)) = true := by simp; omega
        have E1 := Lib.hid (twice r)
        have Hd := Lib.hid hd
        clear hd
        go_wp2
        go_round
        case rel => exact ⟨j + 1, by omega, by go_num, by rw [Hs.out, Hst.out, if_pos Hd.out, ← poly_xor, ← E1.out]⟩
        case measure => simp [intOf]; omega
    · obtain rfl : j = 8 * l.length := by omega
      go_wp2
      go_ret
      rw [Hall.out]
      exact ⟨rfl, rfl⟩
end Go.Proofs.YtfdnlbmaceafhaaDoor
