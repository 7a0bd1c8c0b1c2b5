/-
  What coil.Zig, coil.Zag and the reference's Zig return, for every number of their kinds.
-/
import Derived.Test.YtcafanekckkdoaaRows
import Derived.Test.YtcafanekckkdoaaMath
import Derived.WalkKit
import Derived.WalkSpells
import Derived.WalkLawsBesides
namespace Go.Proofs.Ytcafanekckkdoaa
open Go.RowKit

theorem ret_of {k : IntKind} {a b : Int} (h : a = b) : Ending.returned (.int k a) = .returned (.int k b) := by rw [h]

set_option maxHeartbeats 400000 in
theorem zig_any (a : Int) (w : World) (h0 : -9223372036854775808 ≤ a) (h1 : a ≤ 9223372036854775807) :
    Calls Try.prog 18 #[.int .i64 a] w fun e w' => e = .returned (.int .u64 (zigF a)) ∧ w = w' := by
  have H0 : Hid (-9223372036854775808 ≤ a) := h0
  have H1 : Hid (a ≤ 9223372036854775807) := h1
  clear h0 h1
  go_enter Try.func18, Try.ntmps18
  go_wp2
  go_ret
  exact ⟨ret_of (zig_eq a H0 H1), rfl⟩

set_option maxHeartbeats 400000 in
theorem zag_any (a : Int) (w : World) (h0 : 0 ≤ a) (h1 : a ≤ 18446744073709551615) :
    Calls Try.prog 20 #[.int .u64 a] w fun e w' => e = .returned (.int .i64 (zagF a)) ∧ w = w' := by
  have H0 : Hid (0 ≤ a) := h0
  have H1 : Hid (a ≤ 18446744073709551615) := h1
  clear h0 h1
  go_enter Try.func20, Try.ntmps20
  go_wp2
  go_ret
  exact ⟨ret_of (zag_eq a H0 H1), rfl⟩

set_option maxHeartbeats 400000 in
theorem rzig_any (a : Int) (w : World) (h0 : -9223372036854775808 ≤ a) (h1 : a ≤ 9223372036854775807) :
    Calls Try.prog 19 #[.int .i64 a] w fun e w' => e = .returned (.int .u64 (zigF a)) ∧ w = w' := by
  have H0 : Hid (-9223372036854775808 ≤ a) := h0
  have H1 : Hid (a ≤ 9223372036854775807) := h1
  clear h0 h1
  by_cases h : a < 0
  · go_enter Try.func19, Try.ntmps19
    go_wp2
    go_ret
    exact ⟨ret_of (rzig_neg a H0 h), rfl⟩
  · go_enter Try.func19, Try.ntmps19
    go_wp2
    go_ret
    exact ⟨ret_of (rzig_pos a H1 (by omega)), rfl⟩

end Go.Proofs.Ytcafanekckkdoaa
