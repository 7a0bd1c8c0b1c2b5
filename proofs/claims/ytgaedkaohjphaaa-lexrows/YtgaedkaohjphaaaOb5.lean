/-
  Lex: the reference's one.
-/
import Derived.Test.YtgaedkaohjphaaaOb1
import Derived.Test.YtgaedkaohjphaaaOb2
import Derived.Test.YtgaedkaohjphaaaOb3
import Derived.Test.YtgaedkaohjphaaaOb4
namespace Go.Proofs.Ytgaedkaohjphaaa
open Go.RowKit
theorem one_any (A : Option Addr) (n c a : Nat) (p : List UInt8) (w : World) (h : Src w A n p) (hc : n ≤ c) (hn : n ≤ 1000000000) (ha : a < n) :
    Calls Try.prog 22 #[.slice A n c, .int .i64 (a : Int)] w fun e w' => e = .returned (oneV (readF p a)) ∧ Below w.heap.size w w' := by
  by_cases hmk : isMk (p.getD a 0)
  · by_cases hst : a + 1 < n ∧ startB (p.getD (a + 1) 0) = true
    · exact one_bare A n c a p w h hc hn ha hmk hst
    · by_cases hq : a + 1 < n ∧ p.getD (a + 1) 0 = 34
      · exact one_quot A n c a p w h hc hn ha hmk hq
      · exact one_non A n c a p w h hc hn ha hmk hst hq
  · exact one_plain A n c a p w h hc hn ha hmk
end Go.Proofs.Ytgaedkaohjphaaa
