/-
  Lex: which byte is what.
-/
import Derived.Test.YtgaedkaohjphaaaChecked
import Derived.WalkKit
import Derived.Lib.Hide
namespace Go.Proofs.Ytgaedkaohjphaaa
open Go.RowKit
set_option linter.unusedVariables false
set_option linter.unusedSimpArgs false
set_option maxRecDepth 20000

def smallF (b : Int) : Bool := decide (97 ≤ b) && decide (b ≤ 122)
theorem small_any (b : Int) (w : World) : Calls Try.prog 33 #[.int .u8 b] w fun e w' => e = .returned (.bool (smallF b)) ∧ w = w' := by
  by_cases h2 : 97 ≤ b
  · skip
    by_cases h1 : b ≤ 122
    · skip
      go_enter Try.func33, Try.ntmps33
      go_wp2
      go_ret
      exact ⟨by first | (simp [smallF, h2, h1]; done) | (simp [smallF, h2, h1]; omega) | (simp [smallF, h2, h1] <;> omega), rfl⟩
    · skip
      go_enter Try.func33, Try.ntmps33
      go_wp2
      go_ret
      exact ⟨by first | (simp [smallF, h2, h1]; done) | (simp [smallF, h2, h1]; omega) | (simp [smallF, h2, h1] <;> omega), rfl⟩
  · skip
    by_cases h1 : b ≤ 122
    · skip
      go_enter Try.func33, Try.ntmps33
      go_wp2
      go_ret
      exact ⟨by first | (simp [smallF, h2, h1]; done) | (simp [smallF, h2, h1]; omega) | (simp [smallF, h2, h1] <;> omega), rfl⟩
    · skip
      go_enter Try.func33, Try.ntmps33
      go_wp2
      go_ret
      exact ⟨by first | (simp [smallF, h2, h1]; done) | (simp [smallF, h2, h1]; omega) | (simp [smallF, h2, h1] <;> omega), rfl⟩
def seenF (b : Int) : Bool := decide (32 ≤ b) && decide (b ≤ 126)
theorem seen_any (b : Int) (w : World) : Calls Try.prog 38 #[.int .u8 b] w fun e w' => e = .returned (.bool (seenF b)) ∧ w = w' := by
  by_cases h2 : 32 ≤ b
  · skip
    by_cases h1 : b ≤ 126
    · skip
      go_enter Try.func38, Try.ntmps38
      go_wp2
      go_ret
      exact ⟨by first | (simp [seenF, h2, h1]; done) | (simp [seenF, h2, h1]; omega) | (simp [seenF, h2, h1] <;> omega), rfl⟩
    · skip
      go_enter Try.func38, Try.ntmps38
      go_wp2
      go_ret
      exact ⟨by first | (simp [seenF, h2, h1]; done) | (simp [seenF, h2, h1]; omega) | (simp [seenF, h2, h1] <;> omega), rfl⟩
  · skip
    by_cases h1 : b ≤ 126
    · skip
      go_enter Try.func38, Try.ntmps38
      go_wp2
      go_ret
      exact ⟨by first | (simp [seenF, h2, h1]; done) | (simp [seenF, h2, h1]; omega) | (simp [seenF, h2, h1] <;> omega), rfl⟩
    · skip
      go_enter Try.func38, Try.ntmps38
      go_wp2
      go_ret
      exact ⟨by first | (simp [seenF, h2, h1]; done) | (simp [seenF, h2, h1]; omega) | (simp [seenF, h2, h1] <;> omega), rfl⟩
def digitF (b : Int) : Bool := decide (48 ≤ b) && decide (b ≤ 57)
theorem digit_any (b : Int) (w : World) : Calls Try.prog 28 #[.int .u8 b] w fun e w' => e = .returned (.bool (digitF b)) ∧ w = w' := by
  by_cases h2 : 48 ≤ b
  · skip
    by_cases h1 : b ≤ 57
    · skip
      go_enter Try.func28, Try.ntmps28
      go_wp2
      go_ret
      exact ⟨by first | (simp [digitF, h2, h1]; done) | (simp [digitF, h2, h1]; omega) | (simp [digitF, h2, h1] <;> omega), rfl⟩
    · skip
      go_enter Try.func28, Try.ntmps28
      go_wp2
      go_ret
      exact ⟨by first | (simp [digitF, h2, h1]; done) | (simp [digitF, h2, h1]; omega) | (simp [digitF, h2, h1] <;> omega), rfl⟩
  · skip
    by_cases h1 : b ≤ 57
    · skip
      go_enter Try.func28, Try.ntmps28
      go_wp2
      go_ret
      exact ⟨by first | (simp [digitF, h2, h1]; done) | (simp [digitF, h2, h1]; omega) | (simp [digitF, h2, h1] <;> omega), rfl⟩
    · skip
      go_enter Try.func28, Try.ntmps28
      go_wp2
      go_ret
      exact ⟨by first | (simp [digitF, h2, h1]; done) | (simp [digitF, h2, h1]; omega) | (simp [digitF, h2, h1] <;> omega), rfl⟩
def escF (b : Int) : Bool := b == 34 || b == 92
theorem esc_any (b : Int) (w : World) : Calls Try.prog 37 #[.int .u8 b] w fun e w' => e = .returned (.bool (escF b)) ∧ w = w' := by
  by_cases h2 : b = 34
  · subst h2
    go_enter Try.func37, Try.ntmps37
    go_wp2
    go_ret
    exact ⟨by first | (simp [escF]; done) | (simp [escF]; omega) | (simp [escF] <;> omega), rfl⟩
  · have gh2 : (b == 34) = false := by simpa using h2
    by_cases h1 : b = 92
    · subst h1
      go_enter Try.func37, Try.ntmps37
      go_wp2
      go_ret
      exact ⟨by first | (simp [escF, gh2, h2]; done) | (simp [escF, gh2, h2]; omega) | (simp [escF, gh2, h2] <;> omega), rfl⟩
    · have gh1 : (b == 92) = false := by simpa using h1
      go_enter Try.func37, Try.ntmps37
      go_wp2
      go_ret
      exact ⟨by first | (simp [escF, gh2, h2, gh1, h1]; done) | (simp [escF, gh2, h2, gh1, h1]; omega) | (simp [escF, gh2, h2, gh1, h1] <;> omega), rfl⟩
def blankF (b : Int) : Bool := b == 32 || b == 9 || b == 13 || b == 10
theorem blank_any (b : Int) (w : World) : Calls Try.prog 45 #[.int .u8 b] w fun e w' => e = .returned (.bool (blankF b)) ∧ w = w' := by
  by_cases h4 : b = 32
  · subst h4
    go_enter Try.func45, Try.ntmps45
    go_wp2
    go_ret
    exact ⟨by first | (simp [blankF]; done) | (simp [blankF]; omega) | (simp [blankF] <;> omega), rfl⟩
  · have gh4 : (b == 32) = false := by simpa using h4
    by_cases h3 : b = 9
    · subst h3
      go_enter Try.func45, Try.ntmps45
      go_wp2
      go_ret
      exact ⟨by first | (simp [blankF, gh4, h4]; done) | (simp [blankF, gh4, h4]; omega) | (simp [blankF, gh4, h4] <;> omega), rfl⟩
    · have gh3 : (b == 9) = false := by simpa using h3
      by_cases h2 : b = 13
      · subst h2
        go_enter Try.func45, Try.ntmps45
        go_wp2
        go_ret
        exact ⟨by first | (simp [blankF, gh4, h4, gh3, h3]; done) | (simp [blankF, gh4, h4, gh3, h3]; omega) | (simp [blankF, gh4, h4, gh3, h3] <;> omega), rfl⟩
      · have gh2 : (b == 13) = false := by simpa using h2
        by_cases h1 : b = 10
        · subst h1
          go_enter Try.func45, Try.ntmps45
          go_wp2
          go_ret
          exact ⟨by first | (simp [blankF, gh4, h4, gh3, h3, gh2, h2]; done) | (simp [blankF, gh4, h4, gh3, h3, gh2, h2]; omega) | (simp [blankF, gh4, h4, gh3, h3, gh2, h2] <;> omega), rfl⟩
        · have gh1 : (b == 10) = false := by simpa using h1
          go_enter Try.func45, Try.ntmps45
          go_wp2
          go_ret
          exact ⟨by first | (simp [blankF, gh4, h4, gh3, h3, gh2, h2, gh1, h1]; done) | (simp [blankF, gh4, h4, gh3, h3, gh2, h2, gh1, h1]; omega) | (simp [blankF, gh4, h4, gh3, h3, gh2, h2, gh1, h1] <;> omega), rfl⟩
def goesF (b : Int) : Bool := (decide (48 ≤ b) && decide (b ≤ 57)) || b == 46
theorem goes_any (b : Int) (w : World) : Calls Try.prog 40 #[.int .u8 b] w fun e w' => e = .returned (.bool (goesF b)) ∧ w = w' := by
  by_cases h3 : 48 ≤ b
  · skip
    by_cases h2 : b ≤ 57
    · skip
      by_cases h1 : b = 46
      · subst h1
        go_enter Try.func40, Try.ntmps40
        go_wp2
        go_ret
        exact ⟨by first | (simp [goesF, h3, h2]; done) | (simp [goesF, h3, h2]; omega) | (simp [goesF, h3, h2] <;> omega), rfl⟩
      · have gh1 : (b == 46) = false := by simpa using h1
        go_enter Try.func40, Try.ntmps40
        go_wp2
        go_ret
        exact ⟨by first | (simp [goesF, h3, h2, gh1, h1]; done) | (simp [goesF, h3, h2, gh1, h1]; omega) | (simp [goesF, h3, h2, gh1, h1] <;> omega), rfl⟩
    · skip
      by_cases h1 : b = 46
      · subst h1
        go_enter Try.func40, Try.ntmps40
        go_wp2
        go_ret
        exact ⟨by first | (simp [goesF, h3, h2]; done) | (simp [goesF, h3, h2]; omega) | (simp [goesF, h3, h2] <;> omega), rfl⟩
      · have gh1 : (b == 46) = false := by simpa using h1
        go_enter Try.func40, Try.ntmps40
        go_wp2
        go_ret
        exact ⟨by first | (simp [goesF, h3, h2, gh1, h1]; done) | (simp [goesF, h3, h2, gh1, h1]; omega) | (simp [goesF, h3, h2, gh1, h1] <;> omega), rfl⟩
  · skip
    by_cases h2 : b ≤ 57
    · skip
      by_cases h1 : b = 46
      · subst h1
        go_enter Try.func40, Try.ntmps40
        go_wp2
        go_ret
        exact ⟨by first | (simp [goesF, h3, h2]; done) | (simp [goesF, h3, h2]; omega) | (simp [goesF, h3, h2] <;> omega), rfl⟩
      · have gh1 : (b == 46) = false := by simpa using h1
        go_enter Try.func40, Try.ntmps40
        go_wp2
        go_ret
        exact ⟨by first | (simp [goesF, h3, h2, gh1, h1]; done) | (simp [goesF, h3, h2, gh1, h1]; omega) | (simp [goesF, h3, h2, gh1, h1] <;> omega), rfl⟩
    · skip
      by_cases h1 : b = 46
      · subst h1
        go_enter Try.func40, Try.ntmps40
        go_wp2
        go_ret
        exact ⟨by first | (simp [goesF, h3, h2]; done) | (simp [goesF, h3, h2]; omega) | (simp [goesF, h3, h2] <;> omega), rfl⟩
      · have gh1 : (b == 46) = false := by simpa using h1
        go_enter Try.func40, Try.ntmps40
        go_wp2
        go_ret
        exact ⟨by first | (simp [goesF, h3, h2, gh1, h1]; done) | (simp [goesF, h3, h2, gh1, h1]; omega) | (simp [goesF, h3, h2, gh1, h1] <;> omega), rfl⟩
def letterF (b : Int) : Bool := b == 95 || (decide (97 ≤ b) && decide (b ≤ 122)) || (decide (65 ≤ b) && decide (b ≤ 90))
theorem letter_any (b : Int) (w : World) : Calls Try.prog 27 #[.int .u8 b] w fun e w' => e = .returned (.bool (letterF b)) ∧ w = w' := by
  by_cases h5 : b = 95
  · subst h5
    go_enter Try.func27, Try.ntmps27
    go_wp2
    go_ret
    exact ⟨by first | (simp [letterF]; done) | (simp [letterF]; omega) | (simp [letterF] <;> omega), rfl⟩
  · have gh5 : (b == 95) = false := by simpa using h5
    by_cases h4 : 97 ≤ b
    · skip
      by_cases h3 : b ≤ 122
      · skip
        by_cases h2 : 65 ≤ b
        · skip
          by_cases h1 : b ≤ 90
          · skip
            go_enter Try.func27, Try.ntmps27
            go_wp2
            go_ret
            exact ⟨by first | (simp [letterF, gh5, h5, h4, h3, h2, h1]; done) | (simp [letterF, gh5, h5, h4, h3, h2, h1]; omega) | (simp [letterF, gh5, h5, h4, h3, h2, h1] <;> omega), rfl⟩
          · skip
            go_enter Try.func27, Try.ntmps27
            go_wp2
            go_ret
            exact ⟨by first | (simp [letterF, gh5, h5, h4, h3, h2, h1]; done) | (simp [letterF, gh5, h5, h4, h3, h2, h1]; omega) | (simp [letterF, gh5, h5, h4, h3, h2, h1] <;> omega), rfl⟩
        · skip
          by_cases h1 : b ≤ 90
          · skip
            go_enter Try.func27, Try.ntmps27
            go_wp2
            go_ret
            exact ⟨by first | (simp [letterF, gh5, h5, h4, h3, h2, h1]; done) | (simp [letterF, gh5, h5, h4, h3, h2, h1]; omega) | (simp [letterF, gh5, h5, h4, h3, h2, h1] <;> omega), rfl⟩
          · skip
            go_enter Try.func27, Try.ntmps27
            go_wp2
            go_ret
            exact ⟨by first | (simp [letterF, gh5, h5, h4, h3, h2, h1]; done) | (simp [letterF, gh5, h5, h4, h3, h2, h1]; omega) | (simp [letterF, gh5, h5, h4, h3, h2, h1] <;> omega), rfl⟩
      · skip
        by_cases h2 : 65 ≤ b
        · skip
          by_cases h1 : b ≤ 90
          · skip
            go_enter Try.func27, Try.ntmps27
            go_wp2
            go_ret
            exact ⟨by first | (simp [letterF, gh5, h5, h4, h3, h2, h1]; done) | (simp [letterF, gh5, h5, h4, h3, h2, h1]; omega) | (simp [letterF, gh5, h5, h4, h3, h2, h1] <;> omega), rfl⟩
          · skip
            go_enter Try.func27, Try.ntmps27
            go_wp2
            go_ret
            exact ⟨by first | (simp [letterF, gh5, h5, h4, h3, h2, h1]; done) | (simp [letterF, gh5, h5, h4, h3, h2, h1]; omega) | (simp [letterF, gh5, h5, h4, h3, h2, h1] <;> omega), rfl⟩
        · skip
          by_cases h1 : b ≤ 90
          · skip
            go_enter Try.func27, Try.ntmps27
            go_wp2
            go_ret
            exact ⟨by first | (simp [letterF, gh5, h5, h4, h3, h2, h1]; done) | (simp [letterF, gh5, h5, h4, h3, h2, h1]; omega) | (simp [letterF, gh5, h5, h4, h3, h2, h1] <;> omega), rfl⟩
          · skip
            go_enter Try.func27, Try.ntmps27
            go_wp2
            go_ret
            exact ⟨by first | (simp [letterF, gh5, h5, h4, h3, h2, h1]; done) | (simp [letterF, gh5, h5, h4, h3, h2, h1]; omega) | (simp [letterF, gh5, h5, h4, h3, h2, h1] <;> omega), rfl⟩
    · skip
      by_cases h3 : b ≤ 122
      · skip
        by_cases h2 : 65 ≤ b
        · skip
          by_cases h1 : b ≤ 90
          · skip
            go_enter Try.func27, Try.ntmps27
            go_wp2
            go_ret
            exact ⟨by first | (simp [letterF, gh5, h5, h4, h3, h2, h1]; done) | (simp [letterF, gh5, h5, h4, h3, h2, h1]; omega) | (simp [letterF, gh5, h5, h4, h3, h2, h1] <;> omega), rfl⟩
          · skip
            go_enter Try.func27, Try.ntmps27
            go_wp2
            go_ret
            exact ⟨by first | (simp [letterF, gh5, h5, h4, h3, h2, h1]; done) | (simp [letterF, gh5, h5, h4, h3, h2, h1]; omega) | (simp [letterF, gh5, h5, h4, h3, h2, h1] <;> omega), rfl⟩
        · skip
          by_cases h1 : b ≤ 90
          · skip
            go_enter Try.func27, Try.ntmps27
            go_wp2
            go_ret
            exact ⟨by first | (simp [letterF, gh5, h5, h4, h3, h2, h1]; done) | (simp [letterF, gh5, h5, h4, h3, h2, h1]; omega) | (simp [letterF, gh5, h5, h4, h3, h2, h1] <;> omega), rfl⟩
          · skip
            go_enter Try.func27, Try.ntmps27
            go_wp2
            go_ret
            exact ⟨by first | (simp [letterF, gh5, h5, h4, h3, h2, h1]; done) | (simp [letterF, gh5, h5, h4, h3, h2, h1]; omega) | (simp [letterF, gh5, h5, h4, h3, h2, h1] <;> omega), rfl⟩
      · skip
        by_cases h2 : 65 ≤ b
        · skip
          by_cases h1 : b ≤ 90
          · skip
            go_enter Try.func27, Try.ntmps27
            go_wp2
            go_ret
            exact ⟨by first | (simp [letterF, gh5, h5, h4, h3, h2, h1]; done) | (simp [letterF, gh5, h5, h4, h3, h2, h1]; omega) | (simp [letterF, gh5, h5, h4, h3, h2, h1] <;> omega), rfl⟩
          · skip
            go_enter Try.func27, Try.ntmps27
            go_wp2
            go_ret
            exact ⟨by first | (simp [letterF, gh5, h5, h4, h3, h2, h1]; done) | (simp [letterF, gh5, h5, h4, h3, h2, h1]; omega) | (simp [letterF, gh5, h5, h4, h3, h2, h1] <;> omega), rfl⟩
        · skip
          by_cases h1 : b ≤ 90
          · skip
            go_enter Try.func27, Try.ntmps27
            go_wp2
            go_ret
            exact ⟨by first | (simp [letterF, gh5, h5, h4, h3, h2, h1]; done) | (simp [letterF, gh5, h5, h4, h3, h2, h1]; omega) | (simp [letterF, gh5, h5, h4, h3, h2, h1] <;> omega), rfl⟩
          · skip
            go_enter Try.func27, Try.ntmps27
            go_wp2
            go_ret
            exact ⟨by first | (simp [letterF, gh5, h5, h4, h3, h2, h1]; done) | (simp [letterF, gh5, h5, h4, h3, h2, h1]; omega) | (simp [letterF, gh5, h5, h4, h3, h2, h1] <;> omega), rfl⟩
def startsF (b : Int) : Bool := smallF b || (decide (65 ≤ b) && decide (b ≤ 90)) || b == 95
theorem starts_any (b : Int) (w : World) : Calls Try.prog 39 #[.int .u8 b] w fun e w' => e = .returned (.bool (startsF b)) ∧ w = w' := by
  obtain ⟨s, hs⟩ : ∃ s, s = smallF b := ⟨_, rfl⟩
  have hv : startsF b = (s || (decide (65 ≤ b) && decide (b ≤ 90)) || b == 95) := by rw [hs]; rfl
  have hc := small_any b w
  rw [← hs] at hc
  rw [hv]
  have HC := Lib.hid hc
  clear hc hv hs
  by_cases h1 : 65 ≤ b
  · by_cases h2 : b ≤ 90
    · go_enter Try.func39, Try.ntmps39
      go_wp2_with fail
      refine HC.out.mono ?_
      rintro e w' ⟨rfl, rfl⟩
      cases s
      all_goals go_wp2
      all_goals go_ret
      all_goals exact ⟨by simp [h1, h2], rfl⟩
    · by_cases h3 : b = 95
      · subst h3
        go_enter Try.func39, Try.ntmps39
        go_wp2_with fail
        refine HC.out.mono ?_
        rintro e w' ⟨rfl, rfl⟩
        cases s
        all_goals go_wp2
        all_goals go_ret
        all_goals exact ⟨by simp, rfl⟩
      · have g3 : (b == 95) = false := by simpa using h3
        go_enter Try.func39, Try.ntmps39
        go_wp2_with fail
        refine HC.out.mono ?_
        rintro e w' ⟨rfl, rfl⟩
        cases s
        all_goals go_wp2
        all_goals go_ret
        all_goals exact ⟨by simp [h1, h2, g3], rfl⟩
  · by_cases h3 : b = 95
    · omega
    · have g3 : (b == 95) = false := by simpa using h3
      go_enter Try.func39, Try.ntmps39
      go_wp2_with fail
      refine HC.out.mono ?_
      rintro e w' ⟨rfl, rfl⟩
      cases s
      all_goals go_wp2
      all_goals go_ret
      all_goals exact ⟨by first | (simp [h1, g3]; done) | (simp [g3]; omega), rfl⟩
/-- The reference's letters are those with which a name may begin. -/
theorem letter_starts (b : Int) : letterF b = startsF b := by
  unfold letterF startsF smallF
  cases (b == 95) <;> cases decide (97 ≤ b) <;> cases decide (b ≤ 122) <;> cases decide (65 ≤ b) <;> cases decide (b ≤ 90) <;> rfl
end Go.Proofs.Ytgaedkaohjphaaa
