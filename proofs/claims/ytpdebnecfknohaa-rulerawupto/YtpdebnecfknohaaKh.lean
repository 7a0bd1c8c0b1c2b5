/-
  What the reference's 'here' leaves.
-/
import Derived.Test.YtpdebnecfknohaaTr
namespace Go.Proofs.Ytpdebnecfknohaa
open Go.RowKit
set_option linter.unusedVariables false
set_option linter.unusedSimpArgs false
set_option maxRecDepth 20000

def hereF (nl ng nf ns : Nat) (k i : Int) : Bool := if k = 0 then withF i 1 else thereF nl ng nf ns k i
set_option maxHeartbeats 4000000 in
theorem here_any (As Ag Af Ae Al At Ab : Option Addr) (ls cs ng cg nf cf ne ce nl cl ns ct lb cb : Nat) (fn fp k i : Int) (w : World) (h0 : 0 ≤ k) (h4 : k ≤ 4) :
    Calls Try.prog 72 #[.agg #[.slice As ls cs, .slice Ag ng cg, .slice Af nf cf, .slice Ae ne ce], .agg #[.int .i64 fn, .int .i64 fp, .slice Al nl cl, .slice At ns ct, .slice Ab lb cb], .agg #[.int .u8 k, .int .i64 i]] w (BlB w (hereF nl ng nf ns k i)) := by
  obtain ⟨m, hm⟩ : ∃ m : Nat, m = if k = 0 then 1 else if k = 1 then nl else if k = 2 then ng else if k = 3 then nf else ns := ⟨_, rfl⟩
  have hv : hereF nl ng nf ns k i = withF i m := by
    unfold hereF thereF
    rw [hm]
    rcases (show k = 0 ∨ k = 1 ∨ k = 2 ∨ k = 3 ∨ k = 4 by omega) with rfl | rfl | rfl | rfl | rfl <;> rfl
  rw [hv]
  clear hv
  obtain ⟨w1, hw1⟩ : ∃ w1, w1 = ((w.alloc (.cells #[.slice As ls cs, .slice Ag ng cg, .slice Af nf cf, .slice Ae ne ce] 30)).alloc (.cells #[.int .i64 fn, .int .i64 fp, .slice Al nl cl, .slice At ns ct, .slice Ab lb cb] 40)).alloc (.cells #[.int .u8 k, .int .i64 i] 46) := ⟨_, rfl⟩
  have HB1 : Hid (Below w.heap.size w w1) := by rw [hw1]; exact (((Below.refl _ _).alloc (Nat.le_refl _) _).alloc (by simp) _).alloc (by simp; omega) _
  have K1 : Hid (Blk w1 w.heap.size 30 #[.slice As ls cs, .slice Ag ng cg, .slice Af nf cf, .slice Ae ne ce]) := by rw [hw1]; exact ((Blk.new w 30 _).alloc _).alloc _
  have K2 : Hid (Blk w1 (w.heap.size + 1) 40 #[.int .i64 fn, .int .i64 fp, .slice Al nl cl, .slice At ns ct, .slice Ab lb cb]) := by rw [hw1]; exact (Blk.new' _ 40 _ _ (by simp)).alloc _
  have K3 : Hid (Blk w1 (w.heap.size + 1 + 1) 46 #[.int .u8 k, .int .i64 i]) := by rw [hw1]; exact Blk.new' _ 46 _ _ (by simp)
  go_enter Try.func72, Try.ntmps72
  go_upto_region 1 with (fail)
  rw [← hw1]
  clear hw1
  obtain ⟨m0, m1, m2, m3⟩ := K1.out.c4
  obtain ⟨f0, f1, f2, f3, f4⟩ := K2.out.c5
  obtain ⟨r0, r1⟩ := K3.out.c2
  have z1 : w.heap.size < w1.heap.size := K1.out.lt
  have z2 : w.heap.size + 1 < w1.heap.size := K2.out.lt
  have z3 : w.heap.size + 1 + 1 < w1.heap.size := K3.out.lt
  have HB2 : Hid (Below w.heap.size w (w1.alloc (.cells #[.int .i64 1, .int .i64 (nl : Int), .int .i64 (ng : Int), .int .i64 (nf : Int), .int .i64 (ns : Int)] 3))) := HB1.out.alloc HB1.out.size _
  by_cases q0 : 0 ≤ i
  · by_cases q1 : i < (m : Int)
    · have e : withF i m = true := by simp [withF, q0, q1]
      clear e
      rcases (show k = 0 ∨ k = 1 ∨ k = 2 ∨ k = 3 ∨ k = 4 by omega) with rfl | rfl | rfl | rfl | rfl
      all_goals simp at hm
      all_goals subst hm
      all_goals go_wp2
      all_goals go_ret
      all_goals exact ⟨by first | (simp [withF, q0, q1]; done) | (simp [withF, q0, q1] at *; omega), HB2.out⟩
    · have e : withF i m = false := by simp [withF, q1]
      clear e
      rcases (show k = 0 ∨ k = 1 ∨ k = 2 ∨ k = 3 ∨ k = 4 by omega) with rfl | rfl | rfl | rfl | rfl
      all_goals simp at hm
      all_goals subst hm
      all_goals go_wp2
      all_goals go_ret
      all_goals exact ⟨by first | (simp [withF, q0, q1]; done) | (simp [withF, q0, q1] at *; omega), HB2.out⟩
  · have e : withF i m = false := by simp [withF, q0]
    clear e
    rcases (show k = 0 ∨ k = 1 ∨ k = 2 ∨ k = 3 ∨ k = 4 by omega) with rfl | rfl | rfl | rfl | rfl
    all_goals simp at hm
    all_goals subst hm
    all_goals go_wp2
    all_goals go_ret
    all_goals exact ⟨by first | (simp [withF, q0]; done) | (simp [withF]; omega), HB2.out⟩
end Go.Proofs.Ytpdebnecfknohaa
