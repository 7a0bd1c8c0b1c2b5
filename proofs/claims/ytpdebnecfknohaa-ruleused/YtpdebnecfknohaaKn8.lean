/-
  What the rule on kinds leaves: no kind.
-/
import Derived.Test.YtpdebnecfknohaaTm
namespace Go.Proofs.Ytpdebnecfknohaa
open Go.RowKit
set_option linter.unusedVariables false
set_option linter.unusedSimpArgs false
set_option maxRecDepth 20000

set_option maxHeartbeats 4000000 in
theorem kinds_else (Aa Asub : Option Addr) (ca lsub csub : Nat) (k a1 a2 b1 b2 : Int) (xs : List (Int × Int)) (w : World) (h : ArgsAt w (.slice Aa xs.length ca) xs) (hl : xs.length ≤ 1000000000) (hx : xs.length = 0) (hs : lsub = 0) (hk : k ≠ 1 ∧ k ≠ 2 ∧ k ≠ 3 ∧ k ≠ 4 ∧ k ≠ 5 ∧ k ≠ 6 ∧ k ≠ 7) :
    Calls Try.prog 67 #[.agg #[.int .u8 k, .int .u8 a1, .int .i64 a2, .int .u8 b1, .int .i64 b2, .slice Aa xs.length ca, .slice Asub lsub csub]] w (BlB w (kindF k a1 a2 b1 b2 xs lsub)) := by
  obtain ⟨v, hv⟩ : ∃ v, v = kindF k a1 a2 b1 b2 xs lsub := ⟨_, rfl⟩
  rw [← hv]
  have hal := fun wx (hx : Below w.heap.size w wx) => allVar_any Aa ca xs wx (h.old hx) hl
  obtain ⟨na, hn⟩ : ∃ n, n = xs.length := ⟨_, rfl⟩
  unfold kindF at hv
  rw [← hn] at hv hal ⊢
  have HV := Lib.hid (fun k i wx => var_any k i wx)
  have HO := Lib.hid (fun k i wx => obj_any k i wx)
  have HAl := Lib.hid hal
  obtain ⟨q1, q2, q3, q4, q5, q6, q7⟩ := hk
  rw [if_neg (by omega)] at hv
  rw [if_neg (by omega)] at hv
  rw [if_neg (by omega)] at hv
  rw [if_neg (by omega)] at hv
  rw [if_neg (by omega)] at hv
  rw [if_neg (by omega)] at hv
  obtain rfl : na = 0 := by omega
  subst hs
  clear h hl hn hal
  have g1 : (k == 1) = false := by simpa using q1
  have g2 : (k == 2) = false := by simpa using q2
  have g3 : (k == 3) = false := by simpa using q3
  have g4 : (k == 4) = false := by simpa using q4
  have g5 : (k == 5) = false := by simpa using q5
  have g6 : (k == 6) = false := by simpa using q6
  have g7 : (k == 7) = false := by simpa using q7
  have g5' : (k != 5) = true := by simpa using q5
  have g7' : (k != 7) = true := by simpa using q7
  clear q1 q2 q3 q4 q5 q6 q7
  obtain ⟨w1, hw1⟩ : ∃ w1, w1 = (w.alloc (.cells #[.int .u8 k, .int .u8 a1, .int .i64 a2, .int .u8 b1, .int .i64 b2, .slice Aa 0 ca, .slice Asub 0 csub] 50)).alloc (.cells #[.int .u8 0, .int .i64 0] 46) := ⟨_, rfl⟩
  have HB1 : Hid (Below w.heap.size w w1) := by rw [hw1]; exact ((Below.refl _ _).alloc (Nat.le_refl _) _).alloc (by simp) _
  have K1 : Hid (Blk w1 w.heap.size 50 #[.int .u8 k, .int .u8 a1, .int .i64 a2, .int .u8 b1, .int .i64 b2, .slice Aa 0 ca, .slice Asub 0 csub]) := by rw [hw1]; exact (Blk.new w 50 _).alloc _
  have K2 : Hid (Blk w1 (w.heap.size + 1) 46 #[.int .u8 0, .int .i64 0]) := by rw [hw1]; exact Blk.new' _ 46 _ _ (by simp)
  go_enter Try.func67, Try.ntmps67
  go_upto_region 4 with (fail)
  rw [← hw1]
  clear hw1
  obtain ⟨s0, s1, s2, s3, s4, s5, s6⟩ := K1.out.c7
  obtain ⟨o0, o1⟩ := K2.out.c2
  have z1 : w.heap.size < w1.heap.size := K1.out.lt
  have z2 : w.heap.size + 1 < w1.heap.size := K2.out.lt
  have Hw1 := HB1
  have K1w1 := K1
  have K2w1 := K2
  subst hv
  go_wp2
  go_ret
  exact ⟨by simp, Hw1.out⟩
end Go.Proofs.Ytpdebnecfknohaa
