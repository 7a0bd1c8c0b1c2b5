/-
  What the rule on kinds leaves: all.
-/
import Derived.Test.YtpdebnecfknohaaKn1
import Derived.Test.YtpdebnecfknohaaKn3
import Derived.Test.YtpdebnecfknohaaKn5
import Derived.Test.YtpdebnecfknohaaKn6
import Derived.Test.YtpdebnecfknohaaKn7
import Derived.Test.YtpdebnecfknohaaKn8
namespace Go.Proofs.Ytpdebnecfknohaa
open Go.RowKit
set_option linter.unusedVariables false
set_option linter.unusedSimpArgs false
set_option maxRecDepth 20000

theorem kinds_any (Aa Asub : Option Addr) (ca lsub csub : Nat) (k a1 a2 b1 b2 : Int) (xs : List (Int × Int)) (w : World) (h : ArgsAt w (.slice Aa xs.length ca) xs) (hl : xs.length ≤ 1000000000) :
    Calls Try.prog 67 #[.agg #[.int .u8 k, .int .u8 a1, .int .i64 a2, .int .u8 b1, .int .i64 b2, .slice Aa xs.length ca, .slice Asub lsub csub]] w (BlB w (kindF k a1 a2 b1 b2 xs lsub)) := by
  by_cases hc : (k ≠ 5 ∧ 0 < xs.length) ∨ (k ≠ 7 ∧ 0 < lsub)
  · exact kinds_early Aa Asub ca lsub csub k a1 a2 b1 b2 xs w h hl hc
  by_cases q1 : k = 1
  · subst q1; exact kinds_1 Aa Asub ca lsub csub a1 a2 b1 b2 xs w h hl (by omega) (by omega)
  by_cases q2 : k = 2
  · subst q2; exact kinds_2 Aa Asub ca lsub csub a1 a2 b1 b2 xs w h hl (by omega) (by omega)
  by_cases q3 : k = 3
  · subst q3; exact kinds_3 Aa Asub ca lsub csub a1 a2 b1 b2 xs w h hl (by omega) (by omega)
  by_cases q4 : k = 4
  · subst q4; exact kinds_4 Aa Asub ca lsub csub a1 a2 b1 b2 xs w h hl (by omega) (by omega)
  by_cases q5 : k = 5
  · subst q5
    by_cases zz : a1 = 0 ∧ a2 = 0
    · exact kinds_5a Aa Asub ca lsub csub a1 a2 b1 b2 xs w h hl (by omega) zz
    · exact kinds_5b Aa Asub ca lsub csub a1 a2 b1 b2 xs w h hl (by omega) zz
  by_cases q6 : k = 6
  · subst q6; exact kinds_6 Aa Asub ca lsub csub a1 a2 b1 b2 xs w h hl (by omega) (by omega)
  by_cases q7 : k = 7
  · subst q7; exact kinds_7 Aa Asub ca lsub csub a1 a2 b1 b2 xs w h hl (by omega)
  exact kinds_else Aa Asub ca lsub csub k a1 a2 b1 b2 xs w h hl (by omega) (by omega) ⟨q1, q2, q3, q4, q5, q6, q7⟩
end Go.Proofs.Ytpdebnecfknohaa
