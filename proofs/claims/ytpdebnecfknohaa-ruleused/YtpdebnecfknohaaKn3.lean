/-
  What the rule on kinds leaves: kinds 3, 4.
-/
import Derived.Test.YtpdebnecfknohaaTm
namespace Go.Proofs.Ytpdebnecfknohaa
open Go.RowKit
set_option linter.unusedVariables false
set_option linter.unusedSimpArgs false
set_option maxRecDepth 20000

set_option maxHeartbeats 4000000 in
theorem kinds_3 (Aa Asub : Option Addr) (ca lsub csub : Nat) (a1 a2 b1 b2 : Int) (xs : List (Int × Int)) (w : World) (h : ArgsAt w (.slice Aa xs.length ca) xs) (hl : xs.length ≤ 1000000000) (hx : xs.length = 0) (hs : lsub = 0):
    Calls Try.prog 67 #[.agg #[.int .u8 3, .int .u8 a1, .int .i64 a2, .int .u8 b1, .int .i64 b2, .slice Aa xs.length ca, .slice Asub lsub csub]] w (BlB w (kindF 3 a1 a2 b1 b2 xs lsub)) := by
  obtain ⟨v, hv⟩ : ∃ v, v = kindF 3 a1 a2 b1 b2 xs lsub := ⟨_, rfl⟩
  rw [← hv]
  have hal := fun wx (hx : Below w.heap.size w wx) => allVar_any Aa ca xs wx (h.old hx) hl
  obtain ⟨na, hn⟩ : ∃ n, n = xs.length := ⟨_, rfl⟩
  unfold kindF at hv
  rw [← hn] at hv hal ⊢
  have HV := Lib.hid (fun k i wx => var_any k i wx)
  have HO := Lib.hid (fun k i wx => obj_any k i wx)
  have HAl := Lib.hid hal
  rw [if_neg (by omega)] at hv
  obtain rfl : na = 0 := by omega
  subst hs
  rw [if_neg (by omega)] at hv
  rw [if_pos (by omega)] at hv
  clear h hl hn hal
  obtain ⟨w1, hw1⟩ : ∃ w1, w1 = (w.alloc (.cells #[.int .u8 3, .int .u8 a1, .int .i64 a2, .int .u8 b1, .int .i64 b2, .slice Aa 0 ca, .slice Asub 0 csub] 50)).alloc (.cells #[.int .u8 0, .int .i64 0] 46) := ⟨_, rfl⟩
  have HB1 : Hid (Below w.heap.size w w1) := by rw [hw1]; exact ((Below.refl _ _).alloc (Nat.le_refl _) _).alloc (by simp) _
  have K1 : Hid (Blk w1 w.heap.size 50 #[.int .u8 3, .int .u8 a1, .int .i64 a2, .int .u8 b1, .int .i64 b2, .slice Aa 0 ca, .slice Asub 0 csub]) := by rw [hw1]; exact (Blk.new w 50 _).alloc _
  have K2 : Hid (Blk w1 (w.heap.size + 1) 46 #[.int .u8 0, .int .i64 0]) := by rw [hw1]; exact Blk.new' _ 46 _ _ (by simp)
  go_enter Try.func67, Try.ntmps67
  go_upto_region 4 with (fail)
  rw [← hw1]
  clear hw1
  obtain ⟨s0, s1, s2, s3, s4, s5, s6⟩ := K1.out.c7
  obtain ⟨o0, o1⟩ := K2.out.c2
  have z1 : w.heap.size < w1.heap.size := K1.out.lt
  have z2 : w.heap.size + 1 < w1.heap.size := K2.out.lt
  have Hw1 := HB1
  have K1w1 := K1
  have K2w1 := K2
  go_wp2_with fail
  refine (HV.out a1 a2 _).mono ?_
  rintro e w2 ⟨rfl, hb2⟩
  have Hw2 := Lib.hid (Hw1.out.trans (hb2.mono Hw1.out.size))
  have K1w2 := Lib.hid (K1w1.out.old hb2)
  have K2w2 := Lib.hid (K2w1.out.old hb2)
  clear hb2 s0 s1 s2 s3 s4 s5 s6 o0 o1 z1 z2
  obtain ⟨s0, s1, s2, s3, s4, s5, s6⟩ := K1w2.out.c7
  obtain ⟨o0, o1⟩ := K2w2.out.c2
  have z1 : w.heap.size < w2.heap.size := K1w2.out.lt
  have z2 : w.heap.size + 1 < w2.heap.size := K2w2.out.lt
  obtain ⟨bv, hbv⟩ : ∃ b, b = varB a1 := ⟨_, rfl⟩
  rw [← hbv] at hv ⊢
  clear hbv
  cases bv with
  | false =>
    obtain rfl : v = false := by rw [hv]; simp
    clear hv
    go_wp2
    go_ret
    exact ⟨by simp, Hw2.out⟩
  | true =>
    go_wp2_with fail
    refine (HV.out b1 b2 _).mono ?_
    rintro e w3 ⟨rfl, hb2⟩
    have Hw3 := Lib.hid (Hw2.out.trans (hb2.mono Hw2.out.size))
    have K1w3 := Lib.hid (K1w2.out.old hb2)
    have K2w3 := Lib.hid (K2w2.out.old hb2)
    clear hb2 s0 s1 s2 s3 s4 s5 s6 o0 o1 z1 z2
    obtain ⟨s0, s1, s2, s3, s4, s5, s6⟩ := K1w3.out.c7
    obtain ⟨o0, o1⟩ := K2w3.out.c2
    have z1 : w.heap.size < w3.heap.size := K1w3.out.lt
    have z2 : w.heap.size + 1 < w3.heap.size := K2w3.out.lt
    obtain ⟨bu, hbu⟩ : ∃ b, b = varB b1 := ⟨_, rfl⟩
    rw [← hbu] at hv ⊢
    clear hbu
    cases bu with
    | false =>
      obtain rfl : v = false := by rw [hv]; simp
      clear hv
      go_wp2
      go_ret
      exact ⟨by simp, Hw3.out⟩
    | true =>
      obtain rfl : v = true := by rw [hv]; simp
      clear hv
      go_wp2
      go_ret
      exact ⟨by simp, Hw3.out⟩
set_option maxHeartbeats 4000000 in
theorem kinds_4 (Aa Asub : Option Addr) (ca lsub csub : Nat) (a1 a2 b1 b2 : Int) (xs : List (Int × Int)) (w : World) (h : ArgsAt w (.slice Aa xs.length ca) xs) (hl : xs.length ≤ 1000000000) (hx : xs.length = 0) (hs : lsub = 0):
    Calls Try.prog 67 #[.agg #[.int .u8 4, .int .u8 a1, .int .i64 a2, .int .u8 b1, .int .i64 b2, .slice Aa xs.length ca, .slice Asub lsub csub]] w (BlB w (kindF 4 a1 a2 b1 b2 xs lsub)) := by
  obtain ⟨v, hv⟩ : ∃ v, v = kindF 4 a1 a2 b1 b2 xs lsub := ⟨_, rfl⟩
  rw [← hv]
  have hal := fun wx (hx : Below w.heap.size w wx) => allVar_any Aa ca xs wx (h.old hx) hl
  obtain ⟨na, hn⟩ : ∃ n, n = xs.length := ⟨_, rfl⟩
  unfold kindF at hv
  rw [← hn] at hv hal ⊢
  have HV := Lib.hid (fun k i wx => var_any k i wx)
  have HO := Lib.hid (fun k i wx => obj_any k i wx)
  have HAl := Lib.hid hal
  rw [if_neg (by omega)] at hv
  obtain rfl : na = 0 := by omega
  subst hs
  rw [if_neg (by omega)] at hv
  rw [if_pos (by omega)] at hv
  clear h hl hn hal
  obtain ⟨w1, hw1⟩ : ∃ w1, w1 = (w.alloc (.cells #[.int .u8 4, .int .u8 a1, .int .i64 a2, .int .u8 b1, .int .i64 b2, .slice Aa 0 ca, .slice Asub 0 csub] 50)).alloc (.cells #[.int .u8 0, .int .i64 0] 46) := ⟨_, rfl⟩
  have HB1 : Hid (Below w.heap.size w w1) := by rw [hw1]; exact ((Below.refl _ _).alloc (Nat.le_refl _) _).alloc (by simp) _
  have K1 : Hid (Blk w1 w.heap.size 50 #[.int .u8 4, .int .u8 a1, .int .i64 a2, .int .u8 b1, .int .i64 b2, .slice Aa 0 ca, .slice Asub 0 csub]) := by rw [hw1]; exact (Blk.new w 50 _).alloc _
  have K2 : Hid (Blk w1 (w.heap.size + 1) 46 #[.int .u8 0, .int .i64 0]) := by rw [hw1]; exact Blk.new' _ 46 _ _ (by simp)
  go_enter Try.func67, Try.ntmps67
  go_upto_region 4 with (fail)
  rw [← hw1]
  clear hw1
  obtain ⟨s0, s1, s2, s3, s4, s5, s6⟩ := K1.out.c7
  obtain ⟨o0, o1⟩ := K2.out.c2
  have z1 : w.heap.size < w1.heap.size := K1.out.lt
  have z2 : w.heap.size + 1 < w1.heap.size := K2.out.lt
  have Hw1 := HB1
  have K1w1 := K1
  have K2w1 := K2
  go_wp2_with fail
  refine (HV.out a1 a2 _).mono ?_
  rintro e w2 ⟨rfl, hb2⟩
  have Hw2 := Lib.hid (Hw1.out.trans (hb2.mono Hw1.out.size))
  have K1w2 := Lib.hid (K1w1.out.old hb2)
  have K2w2 := Lib.hid (K2w1.out.old hb2)
  clear hb2 s0 s1 s2 s3 s4 s5 s6 o0 o1 z1 z2
  obtain ⟨s0, s1, s2, s3, s4, s5, s6⟩ := K1w2.out.c7
  obtain ⟨o0, o1⟩ := K2w2.out.c2
  have z1 : w.heap.size < w2.heap.size := K1w2.out.lt
  have z2 : w.heap.size + 1 < w2.heap.size := K2w2.out.lt
  obtain ⟨bv, hbv⟩ : ∃ b, b = varB a1 := ⟨_, rfl⟩
  rw [← hbv] at hv ⊢
  clear hbv
  cases bv with
  | false =>
    obtain rfl : v = false := by rw [hv]; simp
    clear hv
    go_wp2
    go_ret
    exact ⟨by simp, Hw2.out⟩
  | true =>
    go_wp2_with fail
    refine (HV.out b1 b2 _).mono ?_
    rintro e w3 ⟨rfl, hb2⟩
    have Hw3 := Lib.hid (Hw2.out.trans (hb2.mono Hw2.out.size))
    have K1w3 := Lib.hid (K1w2.out.old hb2)
    have K2w3 := Lib.hid (K2w2.out.old hb2)
    clear hb2 s0 s1 s2 s3 s4 s5 s6 o0 o1 z1 z2
    obtain ⟨s0, s1, s2, s3, s4, s5, s6⟩ := K1w3.out.c7
    obtain ⟨o0, o1⟩ := K2w3.out.c2
    have z1 : w.heap.size < w3.heap.size := K1w3.out.lt
    have z2 : w.heap.size + 1 < w3.heap.size := K2w3.out.lt
    obtain ⟨bu, hbu⟩ : ∃ b, b = varB b1 := ⟨_, rfl⟩
    rw [← hbu] at hv ⊢
    clear hbu
    cases bu with
    | false =>
      obtain rfl : v = false := by rw [hv]; simp
      clear hv
      go_wp2
      go_ret
      exact ⟨by simp, Hw3.out⟩
    | true =>
      obtain rfl : v = true := by rw [hv]; simp
      clear hv
      go_wp2
      go_ret
      exact ⟨by simp, Hw3.out⟩
end Go.Proofs.Ytpdebnecfknohaa
