/-
  Bounds of integer arguments, from the row's own reading of them.
-/
import Derived.Test.YtcafanekckkdoaaPut
import Derived.OpenShut
namespace Go.Proofs.Ytcafanekckkdoaa
open Go.RowKit
theorem i64_of_wf {a : Int} (h : (Lit.int .i64 a).wf = true) : -9223372036854775808 ≤ a ∧ a ≤ 9223372036854775807 := by
  have := bounds_i64 h; omega
theorem u64_of_wf {a : Int} (h : (Lit.int .u64 a).wf = true) : 0 ≤ a ∧ a ≤ 18446744073709551615 := by
  have := bounds_u64 h; omega
end Go.Proofs.Ytcafanekckkdoaa
