/-
  What the rule on kinds leaves.
-/
import Derived.Test.YtpdebnecfknohaaTl
namespace Go.Proofs.Ytpdebnecfknohaa
open Go.RowKit
set_option linter.unusedVariables false
set_option linter.unusedSimpArgs false
set_option maxRecDepth 20000

def zeroB (a i : Int) : Bool := a == 0 && i == 0
/-- Has a statement just what its kind has? -/
def kindF (k a1 a2 b1 b2 : Int) (xs : List (Int × Int)) (lsub : Nat) : Bool :=
  if (k ≠ 5 ∧ 0 < xs.length) ∨ (k ≠ 7 ∧ 0 < lsub) then false
  else if k = 1 then varB a1 && objB b1
  else if k = 2 ∨ k = 3 ∨ k = 4 then varB a1 && varB b1
  else if k = 5 then ((zeroB a1 a2 || varB a1) && (b1 == 3 || varB b1)) && allVar xs
  else if k = 6 then zeroB a1 a2 && varB b1
  else if k = 7 then zeroB a1 a2 && zeroB b1 b2
  else false
set_option maxHeartbeats 4000000 in
theorem kinds_early (Aa Asub : Option Addr) (ca lsub csub : Nat) (k a1 a2 b1 b2 : Int) (xs : List (Int × Int)) (w : World) (h : ArgsAt w (.slice Aa xs.length ca) xs) (hl : xs.length ≤ 1000000000) (hc : (k ≠ 5 ∧ 0 < xs.length) ∨ (k ≠ 7 ∧ 0 < lsub)) :
    Calls Try.prog 67 #[.agg #[.int .u8 k, .int .u8 a1, .int .i64 a2, .int .u8 b1, .int .i64 b2, .slice Aa xs.length ca, .slice Asub lsub csub]] w (BlB w (kindF k a1 a2 b1 b2 xs lsub)) := by
  obtain ⟨v, hv⟩ : ∃ v, v = kindF k a1 a2 b1 b2 xs lsub := ⟨_, rfl⟩
  rw [← hv]
  have hal := fun wx (hx : Below w.heap.size w wx) => allVar_any Aa ca xs wx (h.old hx) hl
  obtain ⟨na, hn⟩ : ∃ n, n = xs.length := ⟨_, rfl⟩
  unfold kindF at hv
  rw [← hn] at hv hal ⊢
  have HV := Lib.hid (fun k i wx => var_any k i wx)
  have HO := Lib.hid (fun k i wx => obj_any k i wx)
  have HAl := Lib.hid hal
  rw [← hn] at hc
  clear h hl hn hal
  have HA : Hid (Below w.heap.size w (w.alloc (.cells #[.int .u8 k, .int .u8 a1, .int .i64 a2, .int .u8 b1, .int .i64 b2, .slice Aa na ca, .slice Asub lsub csub] 50))) := (Below.refl _ _).alloc (Nat.le_refl _) _
  rw [if_pos hc] at hv
  subst hv
  by_cases h5 : k ≠ 5 ∧ 0 < na
  · obtain ⟨h51, h52⟩ := h5
    have e1 : (k != 5) = true := by simpa using h51
    have e1' : (k == 5) = false := by simpa using h51
    have e2 : (0 : Int) < (na : Int) := by omega
    clear hc
    go_enter Try.func67, Try.ntmps67
    go_wp2
    go_ret
    exact ⟨rfl, HA.out⟩
  · have h7 : k ≠ 7 ∧ 0 < lsub := by
      rcases hc with h | h
      · exact absurd h h5
      · exact h
    obtain ⟨h71, h72⟩ := h7
    have e1 : (k != 7) = true := by simpa using h71
    have e1' : (k == 7) = false := by simpa using h71
    have e2 : (0 : Int) < (lsub : Int) := by omega
    clear hc
    by_cases h50 : k = 5
    · subst h50
      clear h71 e1 e1' h5
      go_enter Try.func67, Try.ntmps67
      go_wp2
      go_ret
      exact ⟨rfl, HA.out⟩
    · have h00 : na = 0 := by omega
      subst h00
      have e3 : (k != 5) = true := by simpa using h50
      have e3' : (k == 5) = false := by simpa using h50
      clear h5
      go_enter Try.func67, Try.ntmps67
      go_wp2
      go_ret
      exact ⟨rfl, HA.out⟩
end Go.Proofs.Ytpdebnecfknohaa
