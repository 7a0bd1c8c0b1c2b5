/-
  RuleNear: the walk, all changes.
-/
import Derived.Test.YtpdebnecfknohaaNeA
import Derived.Test.YtpdebnecfknohaaNeC
import Derived.Test.YtpdebnecfknohaaNeB
import Derived.Test.YtpdebnecfknohaaRn00
import Derived.Test.YtpdebnecfknohaaRn01
import Derived.Test.YtpdebnecfknohaaRn02
import Derived.Test.YtpdebnecfknohaaRn03
import Derived.Test.YtpdebnecfknohaaRn04
import Derived.Test.YtpdebnecfknohaaRn05
import Derived.Test.YtpdebnecfknohaaRn06
import Derived.Test.YtpdebnecfknohaaRn07
import Derived.Test.YtpdebnecfknohaaRn08
import Derived.Test.YtpdebnecfknohaaRn09
import Derived.Test.YtpdebnecfknohaaRn10
import Derived.Test.YtpdebnecfknohaaRn11
import Derived.Test.YtpdebnecfknohaaRn12
import Derived.Test.YtpdebnecfknohaaRn13
import Derived.Test.YtpdebnecfknohaaRn14
namespace Go.Proofs.Ytpdebnecfknohaa
open Go.RowKit
theorem near_walk (G F E : Nat) (Aa : Option Addr) (na ca how at_ : Nat) (n rk rid : Int) (acts : List Ac) (w : World) (hG : G < 256) (hF : F < 256) (hE : E < 256) (hhow : how < 256) (hat : at_ < 256) (hn : -9223372036854775808 ≤ n ∧ n ≤ 9223372036854775807) (hrk : 0 ≤ rk ∧ rk ≤ 255) (hrid : -9223372036854775808 ≤ rid ∧ rid ≤ 9223372036854775807) (hna : acts.length = na) (hnl : na ≤ 9223372036854775807) (hacts : AcsAt w Aa acts) (hac : ∀ x ∈ acts, x.k < 256 ∧ x.a < 256 ∧ x.b < 256 ∧ x.c < 256) :
    Calls Try.prog 5 #[.agg #[.int .u8 (G : Int), .int .u8 (F : Int), .int .u8 (E : Int), .slice Aa na ca], .int .u8 (how : Int), .int .u8 (at_ : Int), .int .i64 n, .agg #[.int .u8 rk, .int .i64 rid]] w fun e w' => e = .returned (.bool true) ∧ Below w.heap.size w w' := by
  by_cases h7 : how % 16 < 7
  · exact near_walkA G F E Aa na ca how at_ n rk rid acts w hG hF hE hhow hat hn hrk hrid hna hnl hacts hac h7
  · by_cases h10 : how % 16 < 10
    · exact near_walkB G F E Aa na ca how at_ n rk rid acts w hG hF hE hhow hat hn hrk hrid hna hnl hacts hac ⟨by omega, h10⟩
    · exact near_walkC G F E Aa na ca how at_ n rk rid acts w hG hF hE hhow hat hn hrk hrid hna hnl hacts hac (by omega)
end Go.Proofs.Ytpdebnecfknohaa
