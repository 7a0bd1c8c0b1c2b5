/-
  What the reference's rule on kinds leaves: all.
-/
import Derived.Test.YtpdebnecfknohaaKn
namespace Go.Proofs.Ytpdebnecfknohaa
open Go.RowKit
set_option linter.unusedVariables false
set_option linter.unusedSimpArgs false
set_option maxRecDepth 20000

theorem var84_any (k i : Int) (w : World) : Calls Try.prog 84 #[.agg #[.int .u8 k, .int .i64 i]] w (BlB w (varB k)) := by
  obtain ⟨v, hv⟩ : ∃ v, v = varB k := ⟨_, rfl⟩
  rw [← hv]
  have HB : Hid (Below w.heap.size w (w.alloc (.cells #[.int .u8 k, .int .i64 i] 46))) := (Below.refl _ _).alloc (Nat.le_refl _) _
  by_cases h1 : k = 1
  · subst h1
    obtain rfl : v = true := by rw [hv]; rfl
    clear hv
    go_enter Try.func84, Try.ntmps84
    go_wp2
    go_ret
    exact ⟨by simp, HB.out⟩
  · by_cases h2 : k = 2
    · subst h2
      obtain rfl : v = true := by rw [hv]; rfl
      clear hv
      go_enter Try.func84, Try.ntmps84
      go_wp2
      go_ret
      exact ⟨by simp, HB.out⟩
    · have e1 : (k == 1) = false := by simpa using h1
      have e2 : (k == 2) = false := by simpa using h2
      obtain rfl : v = false := by rw [hv]; simp [varB, e1, e2]
      clear hv
      go_enter Try.func84, Try.ntmps84
      go_wp2
      go_ret
      exact ⟨by simp [e1, e2], HB.out⟩
set_option maxHeartbeats 4000000 in
theorem fits_early (Aa Asub : Option Addr) (ca lsub csub : Nat) (k a1 a2 b1 b2 : Int) (xs : List (Int × Int)) (w : World) (h : ArgsAt w (.slice Aa xs.length ca) xs) (hl : xs.length ≤ 1000000000) (hc : k < 1 ∨ 7 < k ∨ (k ≠ 7 ∧ 0 < lsub) ∨ (k ≠ 5 ∧ 0 < xs.length)) :
    Calls Try.prog 71 #[.agg #[.int .u8 k, .int .u8 a1, .int .i64 a2, .int .u8 b1, .int .i64 b2, .slice Aa xs.length ca, .slice Asub lsub csub]] w (BlB w (kindF k a1 a2 b1 b2 xs lsub)) := by
  obtain ⟨v, hv⟩ : ∃ v, v = kindF k a1 a2 b1 b2 xs lsub := ⟨_, rfl⟩
  rw [← hv]
  have hal := h
  obtain ⟨na, hn⟩ : ∃ n, n = xs.length := ⟨_, rfl⟩
  unfold kindF at hv
  rw [← hn] at hv hal ⊢
  have HV := Lib.hid (fun k i wx => var84_any k i wx)
  rw [← hn] at hc
  have hF : v = false := by
    rw [hv]
    by_cases hc2 : (k ≠ 5 ∧ 0 < na) ∨ (k ≠ 7 ∧ 0 < lsub)
    · rw [if_pos hc2]
    · rw [if_neg hc2, if_neg (by omega), if_neg (by omega), if_neg (by omega), if_neg (by omega), if_neg (by omega)]
  clear h hl hn hal hv
  subst hF
  obtain ⟨w1, hw1⟩ : ∃ w1, w1 = (w.alloc (.cells #[.int .u8 k, .int .u8 a1, .int .i64 a2, .int .u8 b1, .int .i64 b2, .slice Aa na ca, .slice Asub lsub csub] 50)).alloc (.cells #[.int .u8 0, .int .i64 0] 46) := ⟨_, rfl⟩
  have HB1 : Hid (Below w.heap.size w w1) := by rw [hw1]; exact ((Below.refl _ _).alloc (Nat.le_refl _) _).alloc (by simp) _
  have K1 : Hid (Blk w1 w.heap.size 50 #[.int .u8 k, .int .u8 a1, .int .i64 a2, .int .u8 b1, .int .i64 b2, .slice Aa na ca, .slice Asub lsub csub]) := by rw [hw1]; exact (Blk.new w 50 _).alloc _
  have K2 : Hid (Blk w1 (w.heap.size + 1) 46 #[.int .u8 0, .int .i64 0]) := by rw [hw1]; exact Blk.new' _ 46 _ _ (by simp)
  by_cases e1 : k < 1
  · clear hc
    go_enter Try.func71, Try.ntmps71
    go_upto_region 2 with (fail)
    rw [← hw1]
    clear hw1
    obtain ⟨s0, s1, s2, s3, s4, s5, s6⟩ := K1.out.c7
    obtain ⟨o0, o1⟩ := K2.out.c2
    have z1 : w.heap.size < w1.heap.size := K1.out.lt
    have z2 : w.heap.size + 1 < w1.heap.size := K2.out.lt
    have Hw1 := HB1
    have K1w1 := K1
    have K2w1 := K2
    go_wp2
    go_ret
    exact ⟨rfl, Hw1.out⟩
  by_cases e2 : 7 < k
  · clear hc
    go_enter Try.func71, Try.ntmps71
    go_upto_region 2 with (fail)
    rw [← hw1]
    clear hw1
    obtain ⟨s0, s1, s2, s3, s4, s5, s6⟩ := K1.out.c7
    obtain ⟨o0, o1⟩ := K2.out.c2
    have z1 : w.heap.size < w1.heap.size := K1.out.lt
    have z2 : w.heap.size + 1 < w1.heap.size := K2.out.lt
    have Hw1 := HB1
    have K1w1 := K1
    have K2w1 := K2
    go_wp2
    go_ret
    exact ⟨rfl, Hw1.out⟩
  by_cases e3 : k ≠ 7 ∧ 0 < lsub
  · obtain ⟨e31, e32⟩ := e3
    have g1 : (k != 7) = true := by simpa using e31
    have g2 : (k == 7) = false := by simpa using e31
    have g3 : (0 : Int) < (lsub : Int) := by omega
    clear hc
    go_enter Try.func71, Try.ntmps71
    go_upto_region 2 with (fail)
    rw [← hw1]
    clear hw1
    obtain ⟨s0, s1, s2, s3, s4, s5, s6⟩ := K1.out.c7
    obtain ⟨o0, o1⟩ := K2.out.c2
    have z1 : w.heap.size < w1.heap.size := K1.out.lt
    have z2 : w.heap.size + 1 < w1.heap.size := K2.out.lt
    have Hw1 := HB1
    have K1w1 := K1
    have K2w1 := K2
    go_wp2
    go_ret
    exact ⟨rfl, Hw1.out⟩
  have e4 : k ≠ 5 ∧ 0 < na := by omega
  obtain ⟨e41, e42⟩ := e4
  have g1 : (k != 5) = true := by simpa using e41
  have g2 : (k == 5) = false := by simpa using e41
  have g3 : (0 : Int) < (na : Int) := by omega
  by_cases e7 : k = 7
  · subst e7
    clear hc e1 e2 e3 e41 g1 g2
    go_enter Try.func71, Try.ntmps71
    go_upto_region 2 with (fail)
    rw [← hw1]
    clear hw1
    obtain ⟨s0, s1, s2, s3, s4, s5, s6⟩ := K1.out.c7
    obtain ⟨o0, o1⟩ := K2.out.c2
    have z1 : w.heap.size < w1.heap.size := K1.out.lt
    have z2 : w.heap.size + 1 < w1.heap.size := K2.out.lt
    have Hw1 := HB1
    have K1w1 := K1
    have K2w1 := K2
    go_wp2
    go_ret
    exact ⟨rfl, Hw1.out⟩
  · have e70 : lsub = 0 := by omega
    subst e70
    have g4 : (k != 7) = true := by simpa using e7
    have g5 : (k == 7) = false := by simpa using e7
    clear hc e3 e7
    go_enter Try.func71, Try.ntmps71
    go_upto_region 2 with (fail)
    rw [← hw1]
    clear hw1
    obtain ⟨s0, s1, s2, s3, s4, s5, s6⟩ := K1.out.c7
    obtain ⟨o0, o1⟩ := K2.out.c2
    have z1 : w.heap.size < w1.heap.size := K1.out.lt
    have z2 : w.heap.size + 1 < w1.heap.size := K2.out.lt
    have Hw1 := HB1
    have K1w1 := K1
    have K2w1 := K2
    go_wp2
    go_ret
    exact ⟨rfl, Hw1.out⟩
end Go.Proofs.Ytpdebnecfknohaa
namespace Go.Proofs.Ytpdebnecfknohaa
open Go.RowKit
set_option linter.unusedVariables false
set_option linter.unusedSimpArgs false
set_option maxRecDepth 20000

set_option maxHeartbeats 4000000 in
theorem fits_1 (Aa Asub : Option Addr) (ca lsub csub : Nat) (a1 a2 b1 b2 : Int) (xs : List (Int × Int)) (w : World) (h : ArgsAt w (.slice Aa xs.length ca) xs) (hl : xs.length ≤ 1000000000) (hx : xs.length = 0) (hs : lsub = 0):
    Calls Try.prog 71 #[.agg #[.int .u8 1, .int .u8 a1, .int .i64 a2, .int .u8 b1, .int .i64 b2, .slice Aa xs.length ca, .slice Asub lsub csub]] w (BlB w (kindF 1 a1 a2 b1 b2 xs lsub)) := by
  obtain ⟨v, hv⟩ : ∃ v, v = kindF 1 a1 a2 b1 b2 xs lsub := ⟨_, rfl⟩
  rw [← hv]
  have hal := h
  obtain ⟨na, hn⟩ : ∃ n, n = xs.length := ⟨_, rfl⟩
  unfold kindF at hv
  rw [← hn] at hv hal ⊢
  have HV := Lib.hid (fun k i wx => var84_any k i wx)
  rw [if_neg (by omega)] at hv
  obtain rfl : na = 0 := by omega
  subst hs
  rw [if_pos (by omega)] at hv
  clear h hl hn hal
  obtain ⟨w1, hw1⟩ : ∃ w1, w1 = (w.alloc (.cells #[.int .u8 1, .int .u8 a1, .int .i64 a2, .int .u8 b1, .int .i64 b2, .slice Aa 0 ca, .slice Asub 0 csub] 50)).alloc (.cells #[.int .u8 0, .int .i64 0] 46) := ⟨_, rfl⟩
  have HB1 : Hid (Below w.heap.size w w1) := by rw [hw1]; exact ((Below.refl _ _).alloc (Nat.le_refl _) _).alloc (by simp) _
  have K1 : Hid (Blk w1 w.heap.size 50 #[.int .u8 1, .int .u8 a1, .int .i64 a2, .int .u8 b1, .int .i64 b2, .slice Aa 0 ca, .slice Asub 0 csub]) := by rw [hw1]; exact (Blk.new w 50 _).alloc _
  have K2 : Hid (Blk w1 (w.heap.size + 1) 46 #[.int .u8 0, .int .i64 0]) := by rw [hw1]; exact Blk.new' _ 46 _ _ (by simp)
  go_enter Try.func71, Try.ntmps71
  go_upto_region 2 with (fail)
  rw [← hw1]
  clear hw1
  obtain ⟨s0, s1, s2, s3, s4, s5, s6⟩ := K1.out.c7
  obtain ⟨o0, o1⟩ := K2.out.c2
  have z1 : w.heap.size < w1.heap.size := K1.out.lt
  have z2 : w.heap.size + 1 < w1.heap.size := K2.out.lt
  have Hw1 := HB1
  have K1w1 := K1
  have K2w1 := K2
  go_wp2_with fail
  refine (HV.out a1 a2 _).mono ?_
  rintro e w2 ⟨rfl, hb2⟩
  have Hw2 := Lib.hid (Hw1.out.trans (hb2.mono Hw1.out.size))
  have K1w2 := Lib.hid (K1w1.out.old hb2)
  have K2w2 := Lib.hid (K2w1.out.old hb2)
  clear hb2 s0 s1 s2 s3 s4 s5 s6 o0 o1 z1 z2
  obtain ⟨s0, s1, s2, s3, s4, s5, s6⟩ := K1w2.out.c7
  obtain ⟨o0, o1⟩ := K2w2.out.c2
  have z1 : w.heap.size < w2.heap.size := K1w2.out.lt
  have z2 : w.heap.size + 1 < w2.heap.size := K2w2.out.lt
  obtain ⟨bv, hbv⟩ : ∃ b, b = varB a1 := ⟨_, rfl⟩
  rw [← hbv] at hv ⊢
  clear hbv
  cases bv with
  | false =>
    obtain rfl : v = false := by rw [hv]; simp
    clear hv
    go_wp2
    go_ret
    exact ⟨by simp, Hw2.out⟩
  | true =>
    by_cases q1 : 1 ≤ b1
    · by_cases q4 : b1 ≤ 4
      · have ho : objB b1 = true := by rcases (show b1 = 1 ∨ b1 = 2 ∨ b1 = 3 ∨ b1 = 4 by omega) with rfl | rfl | rfl | rfl <;> rfl
        rw [ho] at hv
        obtain rfl : v = true := by rw [hv]; simp
        clear hv
        go_wp2
        go_ret
        exact ⟨by simp, Hw2.out⟩
      · have ho : objB b1 = false := by simp [objB, varB]; omega
        rw [ho] at hv
        obtain rfl : v = false := by rw [hv]; simp
        clear hv
        go_wp2
        go_ret
        exact ⟨by simp; omega, Hw2.out⟩
    · have ho : objB b1 = false := by simp [objB, varB]; omega
      rw [ho] at hv
      obtain rfl : v = false := by rw [hv]; simp
      clear hv
      go_wp2
      go_ret
      exact ⟨by simp, Hw2.out⟩
set_option maxHeartbeats 4000000 in
theorem fits_2 (Aa Asub : Option Addr) (ca lsub csub : Nat) (a1 a2 b1 b2 : Int) (xs : List (Int × Int)) (w : World) (h : ArgsAt w (.slice Aa xs.length ca) xs) (hl : xs.length ≤ 1000000000) (hx : xs.length = 0) (hs : lsub = 0):
    Calls Try.prog 71 #[.agg #[.int .u8 2, .int .u8 a1, .int .i64 a2, .int .u8 b1, .int .i64 b2, .slice Aa xs.length ca, .slice Asub lsub csub]] w (BlB w (kindF 2 a1 a2 b1 b2 xs lsub)) := by
  obtain ⟨v, hv⟩ : ∃ v, v = kindF 2 a1 a2 b1 b2 xs lsub := ⟨_, rfl⟩
  rw [← hv]
  have hal := h
  obtain ⟨na, hn⟩ : ∃ n, n = xs.length := ⟨_, rfl⟩
  unfold kindF at hv
  rw [← hn] at hv hal ⊢
  have HV := Lib.hid (fun k i wx => var84_any k i wx)
  rw [if_neg (by omega)] at hv
  obtain rfl : na = 0 := by omega
  subst hs
  rw [if_neg (by omega)] at hv
  rw [if_pos (by omega)] at hv
  clear h hl hn hal
  obtain ⟨w1, hw1⟩ : ∃ w1, w1 = (w.alloc (.cells #[.int .u8 2, .int .u8 a1, .int .i64 a2, .int .u8 b1, .int .i64 b2, .slice Aa 0 ca, .slice Asub 0 csub] 50)).alloc (.cells #[.int .u8 0, .int .i64 0] 46) := ⟨_, rfl⟩
  have HB1 : Hid (Below w.heap.size w w1) := by rw [hw1]; exact ((Below.refl _ _).alloc (Nat.le_refl _) _).alloc (by simp) _
  have K1 : Hid (Blk w1 w.heap.size 50 #[.int .u8 2, .int .u8 a1, .int .i64 a2, .int .u8 b1, .int .i64 b2, .slice Aa 0 ca, .slice Asub 0 csub]) := by rw [hw1]; exact (Blk.new w 50 _).alloc _
  have K2 : Hid (Blk w1 (w.heap.size + 1) 46 #[.int .u8 0, .int .i64 0]) := by rw [hw1]; exact Blk.new' _ 46 _ _ (by simp)
  go_enter Try.func71, Try.ntmps71
  go_upto_region 2 with (fail)
  rw [← hw1]
  clear hw1
  obtain ⟨s0, s1, s2, s3, s4, s5, s6⟩ := K1.out.c7
  obtain ⟨o0, o1⟩ := K2.out.c2
  have z1 : w.heap.size < w1.heap.size := K1.out.lt
  have z2 : w.heap.size + 1 < w1.heap.size := K2.out.lt
  have Hw1 := HB1
  have K1w1 := K1
  have K2w1 := K2
  go_wp2_with fail
  refine (HV.out a1 a2 _).mono ?_
  rintro e w2 ⟨rfl, hb2⟩
  have Hw2 := Lib.hid (Hw1.out.trans (hb2.mono Hw1.out.size))
  have K1w2 := Lib.hid (K1w1.out.old hb2)
  have K2w2 := Lib.hid (K2w1.out.old hb2)
  clear hb2 s0 s1 s2 s3 s4 s5 s6 o0 o1 z1 z2
  obtain ⟨s0, s1, s2, s3, s4, s5, s6⟩ := K1w2.out.c7
  obtain ⟨o0, o1⟩ := K2w2.out.c2
  have z1 : w.heap.size < w2.heap.size := K1w2.out.lt
  have z2 : w.heap.size + 1 < w2.heap.size := K2w2.out.lt
  obtain ⟨bv, hbv⟩ : ∃ b, b = varB a1 := ⟨_, rfl⟩
  rw [← hbv] at hv ⊢
  clear hbv
  cases bv with
  | false =>
    obtain rfl : v = false := by rw [hv]; simp
    clear hv
    go_wp2
    go_ret
    exact ⟨by simp, Hw2.out⟩
  | true =>
    go_wp2_with fail
    refine (HV.out b1 b2 _).mono ?_
    rintro e w3 ⟨rfl, hb2⟩
    have Hw3 := Lib.hid (Hw2.out.trans (hb2.mono Hw2.out.size))
    have K1w3 := Lib.hid (K1w2.out.old hb2)
    have K2w3 := Lib.hid (K2w2.out.old hb2)
    clear hb2 s0 s1 s2 s3 s4 s5 s6 o0 o1 z1 z2
    obtain ⟨s0, s1, s2, s3, s4, s5, s6⟩ := K1w3.out.c7
    obtain ⟨o0, o1⟩ := K2w3.out.c2
    have z1 : w.heap.size < w3.heap.size := K1w3.out.lt
    have z2 : w.heap.size + 1 < w3.heap.size := K2w3.out.lt
    obtain ⟨bu, hbu⟩ : ∃ b, b = varB b1 := ⟨_, rfl⟩
    rw [← hbu] at hv ⊢
    clear hbu
    cases bu with
    | false =>
      obtain rfl : v = false := by rw [hv]; simp
      clear hv
      go_wp2
      go_ret
      exact ⟨by simp, Hw3.out⟩
    | true =>
      obtain rfl : v = true := by rw [hv]; simp
      clear hv
      go_wp2
      go_ret
      exact ⟨by simp, Hw3.out⟩
set_option maxHeartbeats 4000000 in
theorem fits_3 (Aa Asub : Option Addr) (ca lsub csub : Nat) (a1 a2 b1 b2 : Int) (xs : List (Int × Int)) (w : World) (h : ArgsAt w (.slice Aa xs.length ca) xs) (hl : xs.length ≤ 1000000000) (hx : xs.length = 0) (hs : lsub = 0):
    Calls Try.prog 71 #[.agg #[.int .u8 3, .int .u8 a1, .int .i64 a2, .int .u8 b1, .int .i64 b2, .slice Aa xs.length ca, .slice Asub lsub csub]] w (BlB w (kindF 3 a1 a2 b1 b2 xs lsub)) := by
  obtain ⟨v, hv⟩ : ∃ v, v = kindF 3 a1 a2 b1 b2 xs lsub := ⟨_, rfl⟩
  rw [← hv]
  have hal := h
  obtain ⟨na, hn⟩ : ∃ n, n = xs.length := ⟨_, rfl⟩
  unfold kindF at hv
  rw [← hn] at hv hal ⊢
  have HV := Lib.hid (fun k i wx => var84_any k i wx)
  rw [if_neg (by omega)] at hv
  obtain rfl : na = 0 := by omega
  subst hs
  rw [if_neg (by omega)] at hv
  rw [if_pos (by omega)] at hv
  clear h hl hn hal
  obtain ⟨w1, hw1⟩ : ∃ w1, w1 = (w.alloc (.cells #[.int .u8 3, .int .u8 a1, .int .i64 a2, .int .u8 b1, .int .i64 b2, .slice Aa 0 ca, .slice Asub 0 csub] 50)).alloc (.cells #[.int .u8 0, .int .i64 0] 46) := ⟨_, rfl⟩
  have HB1 : Hid (Below w.heap.size w w1) := by rw [hw1]; exact ((Below.refl _ _).alloc (Nat.le_refl _) _).alloc (by simp) _
  have K1 : Hid (Blk w1 w.heap.size 50 #[.int .u8 3, .int .u8 a1, .int .i64 a2, .int .u8 b1, .int .i64 b2, .slice Aa 0 ca, .slice Asub 0 csub]) := by rw [hw1]; exact (Blk.new w 50 _).alloc _
  have K2 : Hid (Blk w1 (w.heap.size + 1) 46 #[.int .u8 0, .int .i64 0]) := by rw [hw1]; exact Blk.new' _ 46 _ _ (by simp)
  go_enter Try.func71, Try.ntmps71
  go_upto_region 2 with (fail)
  rw [← hw1]
  clear hw1
  obtain ⟨s0, s1, s2, s3, s4, s5, s6⟩ := K1.out.c7
  obtain ⟨o0, o1⟩ := K2.out.c2
  have z1 : w.heap.size < w1.heap.size := K1.out.lt
  have z2 : w.heap.size + 1 < w1.heap.size := K2.out.lt
  have Hw1 := HB1
  have K1w1 := K1
  have K2w1 := K2
  go_wp2_with fail
  refine (HV.out a1 a2 _).mono ?_
  rintro e w2 ⟨rfl, hb2⟩
  have Hw2 := Lib.hid (Hw1.out.trans (hb2.mono Hw1.out.size))
  have K1w2 := Lib.hid (K1w1.out.old hb2)
  have K2w2 := Lib.hid (K2w1.out.old hb2)
  clear hb2 s0 s1 s2 s3 s4 s5 s6 o0 o1 z1 z2
  obtain ⟨s0, s1, s2, s3, s4, s5, s6⟩ := K1w2.out.c7
  obtain ⟨o0, o1⟩ := K2w2.out.c2
  have z1 : w.heap.size < w2.heap.size := K1w2.out.lt
  have z2 : w.heap.size + 1 < w2.heap.size := K2w2.out.lt
  obtain ⟨bv, hbv⟩ : ∃ b, b = varB a1 := ⟨_, rfl⟩
  rw [← hbv] at hv ⊢
  clear hbv
  cases bv with
  | false =>
    obtain rfl : v = false := by rw [hv]; simp
    clear hv
    go_wp2
    go_ret
    exact ⟨by simp, Hw2.out⟩
  | true =>
    go_wp2_with fail
    refine (HV.out b1 b2 _).mono ?_
    rintro e w3 ⟨rfl, hb2⟩
    have Hw3 := Lib.hid (Hw2.out.trans (hb2.mono Hw2.out.size))
    have K1w3 := Lib.hid (K1w2.out.old hb2)
    have K2w3 := Lib.hid (K2w2.out.old hb2)
    clear hb2 s0 s1 s2 s3 s4 s5 s6 o0 o1 z1 z2
    obtain ⟨s0, s1, s2, s3, s4, s5, s6⟩ := K1w3.out.c7
    obtain ⟨o0, o1⟩ := K2w3.out.c2
    have z1 : w.heap.size < w3.heap.size := K1w3.out.lt
    have z2 : w.heap.size + 1 < w3.heap.size := K2w3.out.lt
    obtain ⟨bu, hbu⟩ : ∃ b, b = varB b1 := ⟨_, rfl⟩
    rw [← hbu] at hv ⊢
    clear hbu
    cases bu with
    | false =>
      obtain rfl : v = false := by rw [hv]; simp
      clear hv
      go_wp2
      go_ret
      exact ⟨by simp, Hw3.out⟩
    | true =>
      obtain rfl : v = true := by rw [hv]; simp
      clear hv
      go_wp2
      go_ret
      exact ⟨by simp, Hw3.out⟩
set_option maxHeartbeats 4000000 in
theorem fits_4 (Aa Asub : Option Addr) (ca lsub csub : Nat) (a1 a2 b1 b2 : Int) (xs : List (Int × Int)) (w : World) (h : ArgsAt w (.slice Aa xs.length ca) xs) (hl : xs.length ≤ 1000000000) (hx : xs.length = 0) (hs : lsub = 0):
    Calls Try.prog 71 #[.agg #[.int .u8 4, .int .u8 a1, .int .i64 a2, .int .u8 b1, .int .i64 b2, .slice Aa xs.length ca, .slice Asub lsub csub]] w (BlB w (kindF 4 a1 a2 b1 b2 xs lsub)) := by
  obtain ⟨v, hv⟩ : ∃ v, v = kindF 4 a1 a2 b1 b2 xs lsub := ⟨_, rfl⟩
  rw [← hv]
  have hal := h
  obtain ⟨na, hn⟩ : ∃ n, n = xs.length := ⟨_, rfl⟩
  unfold kindF at hv
  rw [← hn] at hv hal ⊢
  have HV := Lib.hid (fun k i wx => var84_any k i wx)
  rw [if_neg (by omega)] at hv
  obtain rfl : na = 0 := by omega
  subst hs
  rw [if_neg (by omega)] at hv
  rw [if_pos (by omega)] at hv
  clear h hl hn hal
  obtain ⟨w1, hw1⟩ : ∃ w1, w1 = (w.alloc (.cells #[.int .u8 4, .int .u8 a1, .int .i64 a2, .int .u8 b1, .int .i64 b2, .slice Aa 0 ca, .slice Asub 0 csub] 50)).alloc (.cells #[.int .u8 0, .int .i64 0] 46) := ⟨_, rfl⟩
  have HB1 : Hid (Below w.heap.size w w1) := by rw [hw1]; exact ((Below.refl _ _).alloc (Nat.le_refl _) _).alloc (by simp) _
  have K1 : Hid (Blk w1 w.heap.size 50 #[.int .u8 4, .int .u8 a1, .int .i64 a2, .int .u8 b1, .int .i64 b2, .slice Aa 0 ca, .slice Asub 0 csub]) := by rw [hw1]; exact (Blk.new w 50 _).alloc _
  have K2 : Hid (Blk w1 (w.heap.size + 1) 46 #[.int .u8 0, .int .i64 0]) := by rw [hw1]; exact Blk.new' _ 46 _ _ (by simp)
  go_enter Try.func71, Try.ntmps71
  go_upto_region 2 with (fail)
  rw [← hw1]
  clear hw1
  obtain ⟨s0, s1, s2, s3, s4, s5, s6⟩ := K1.out.c7
  obtain ⟨o0, o1⟩ := K2.out.c2
  have z1 : w.heap.size < w1.heap.size := K1.out.lt
  have z2 : w.heap.size + 1 < w1.heap.size := K2.out.lt
  have Hw1 := HB1
  have K1w1 := K1
  have K2w1 := K2
  go_wp2_with fail
  refine (HV.out a1 a2 _).mono ?_
  rintro e w2 ⟨rfl, hb2⟩
  have Hw2 := Lib.hid (Hw1.out.trans (hb2.mono Hw1.out.size))
  have K1w2 := Lib.hid (K1w1.out.old hb2)
  have K2w2 := Lib.hid (K2w1.out.old hb2)
  clear hb2 s0 s1 s2 s3 s4 s5 s6 o0 o1 z1 z2
  obtain ⟨s0, s1, s2, s3, s4, s5, s6⟩ := K1w2.out.c7
  obtain ⟨o0, o1⟩ := K2w2.out.c2
  have z1 : w.heap.size < w2.heap.size := K1w2.out.lt
  have z2 : w.heap.size + 1 < w2.heap.size := K2w2.out.lt
  obtain ⟨bv, hbv⟩ : ∃ b, b = varB a1 := ⟨_, rfl⟩
  rw [← hbv] at hv ⊢
  clear hbv
  cases bv with
  | false =>
    obtain rfl : v = false := by rw [hv]; simp
    clear hv
    go_wp2
    go_ret
    exact ⟨by simp, Hw2.out⟩
  | true =>
    go_wp2_with fail
    refine (HV.out b1 b2 _).mono ?_
    rintro e w3 ⟨rfl, hb2⟩
    have Hw3 := Lib.hid (Hw2.out.trans (hb2.mono Hw2.out.size))
    have K1w3 := Lib.hid (K1w2.out.old hb2)
    have K2w3 := Lib.hid (K2w2.out.old hb2)
    clear hb2 s0 s1 s2 s3 s4 s5 s6 o0 o1 z1 z2
    obtain ⟨s0, s1, s2, s3, s4, s5, s6⟩ := K1w3.out.c7
    obtain ⟨o0, o1⟩ := K2w3.out.c2
    have z1 : w.heap.size < w3.heap.size := K1w3.out.lt
    have z2 : w.heap.size + 1 < w3.heap.size := K2w3.out.lt
    obtain ⟨bu, hbu⟩ : ∃ b, b = varB b1 := ⟨_, rfl⟩
    rw [← hbu] at hv ⊢
    clear hbu
    cases bu with
    | false =>
      obtain rfl : v = false := by rw [hv]; simp
      clear hv
      go_wp2
      go_ret
      exact ⟨by simp, Hw3.out⟩
    | true =>
      obtain rfl : v = true := by rw [hv]; simp
      clear hv
      go_wp2
      go_ret
      exact ⟨by simp, Hw3.out⟩
end Go.Proofs.Ytpdebnecfknohaa
namespace Go.Proofs.Ytpdebnecfknohaa
open Go.RowKit
set_option linter.unusedVariables false
set_option linter.unusedSimpArgs false
set_option maxRecDepth 20000

set_option maxHeartbeats 4000000 in
theorem fits_5a (Aa Asub : Option Addr) (ca lsub csub : Nat) (a1 a2 b1 b2 : Int) (xs : List (Int × Int)) (w : World) (h : ArgsAt w (.slice Aa xs.length ca) xs) (hl : xs.length ≤ 1000000000) (hs : lsub = 0) (zz : a1 = 0 ∧ a2 = 0):
    Calls Try.prog 71 #[.agg #[.int .u8 5, .int .u8 a1, .int .i64 a2, .int .u8 b1, .int .i64 b2, .slice Aa xs.length ca, .slice Asub lsub csub]] w (BlB w (kindF 5 a1 a2 b1 b2 xs lsub)) := by
  obtain ⟨v, hv⟩ : ∃ v, v = kindF 5 a1 a2 b1 b2 xs lsub := ⟨_, rfl⟩
  rw [← hv]
  have hal := h
  obtain ⟨na, hn⟩ : ∃ n, n = xs.length := ⟨_, rfl⟩
  unfold kindF at hv
  rw [← hn] at hv hal ⊢
  have HV := Lib.hid (fun k i wx => var84_any k i wx)
  rw [if_neg (by omega)] at hv
  rw [if_neg (by omega)] at hv
  rw [if_neg (by omega)] at hv
  rw [if_pos rfl] at hv
  subst hs
  obtain ⟨A', c', hA1, hA2⟩ := hal
  injection hA1 with hA11 hA12 hA13
  subst hA11 hA13
  have HAr := Lib.hid hA2
  have HN := Lib.hid hn
  rw [← hn] at hl
  have hv1 : v = (allVar (xs.drop 0) && ((zeroB a1 a2 || varB a1) && (b1 == 3 || varB b1))) := by rw [hv, Bool.and_comm]; rfl
  have HV0 := Lib.hid hv1
  clear hv hv1 hA2 hA12
  obtain ⟨rfl, rfl⟩ := zz
  clear h hn
  obtain ⟨w1, hw1⟩ : ∃ w1, w1 = (w.alloc (.cells #[.int .u8 5, .int .u8 0, .int .i64 0, .int .u8 b1, .int .i64 b2, .slice Aa na ca, .slice Asub 0 csub] 50)).alloc (.cells #[.int .u8 0, .int .i64 0] 46) := ⟨_, rfl⟩
  have HB1 : Hid (Below w.heap.size w w1) := by rw [hw1]; exact ((Below.refl _ _).alloc (Nat.le_refl _) _).alloc (by simp) _
  have K1 : Hid (Blk w1 w.heap.size 50 #[.int .u8 5, .int .u8 0, .int .i64 0, .int .u8 b1, .int .i64 b2, .slice Aa na ca, .slice Asub 0 csub]) := by rw [hw1]; exact (Blk.new w 50 _).alloc _
  have K2 : Hid (Blk w1 (w.heap.size + 1) 46 #[.int .u8 0, .int .i64 0]) := by rw [hw1]; exact Blk.new' _ 46 _ _ (by simp)
  go_enter Try.func71, Try.ntmps71
  go_upto_region 2 with (fail)
  rw [← hw1]
  clear hw1
  obtain ⟨s0, s1, s2, s3, s4, s5, s6⟩ := K1.out.c7
  obtain ⟨o0, o1⟩ := K2.out.c2
  have z1 : w.heap.size < w1.heap.size := K1.out.lt
  have z2 : w.heap.size + 1 < w1.heap.size := K2.out.lt
  have Hw1 := HB1
  have K1w1 := K1
  have K2w1 := K2
  go_wp2_with fail
  go_loopw [4] (fun s wr => ∃ (i : Nat), i ≤ na ∧ s = .int .i64 (i : Int) ∧ Hid (v = (allVar (xs.drop i) && ((zeroB 0 0 || varB 0) && (b1 == 3 || varB b1)))) ∧ Hid (Below w.heap.size w wr) ∧ Hid (Blk wr w.heap.size 50 #[.int .u8 5, .int .u8 0, .int .i64 0, .int .u8 b1, .int .i64 b2, .slice Aa na ca, .slice Asub 0 csub]) ∧ Hid (Blk wr (w.heap.size + 1) 46 #[.int .u8 0, .int .i64 0])) (fun s _ => na - (intOf s).toNat)
  case atStart => exact ⟨0, Nat.zero_le _, rfl, HV0, HB1, K1, K2⟩
  case round =>
    clear HV0 K1w1 K2w1 Hw1 K1 K2 HB1 s0 s1 s2 s3 s4 s5 s6 o0 o1 z1 z2
    obtain ⟨i, hi, rfl, hE, hB, hK1, hK2⟩ := hrel
    obtain ⟨s0, s1, s2, s3, s4, s5, s6⟩ := hK1.out.c7
    have z1 : w.heap.size < wr.heap.size := hK1.out.lt
    by_cases hlt : i < na
    · have hkl : i < xs.length := by rw [← HN.out]; exact hlt
      have hli : (i : Int) < (na : Int) := by omega
      obtain ⟨b, o, rfl, hc⟩ := HAr.out (by omega)
      obtain ⟨d0, d1⟩ := hc i hkl
      have hbl : b < w.heap.size := World.block_lt_of_cell? w ⟨b, o + i * 2, none⟩ d0
      have e0 := cell_old hB.out hbl d0
      have e1 := cell_old hB.out hbl d1
      rw [show xs.getD i (0, 0) = xs[i] from by simp [List.getD, hkl]] at e0 e1
      have hE2 := hE.out
      rw [List.drop_eq_getElem_cons hkl] at hE2
      simp only [allVar, List.all_cons] at hE2
      generalize xs[i] = x at *
      obtain ⟨xk, xi⟩ := x
      dsimp only at e0 e1 hE2
      have hz : b < wr.heap.size := by have := hB.out.size; omega
      have HE2 := Lib.hid hE2
      clear hE2 hc d0 d1 hbl hE
      go_wp2_with fail
      refine (HV.out xk xi _).mono ?_
      rintro e w2 ⟨rfl, hb2⟩
      have HB3 := Lib.hid (hB.out.trans (hb2.mono hB.out.size))
      have K13 := Lib.hid (hK1.out.old hb2)
      have K23 := Lib.hid (hK2.out.old hb2)
      clear hb2 e0 e1 hz s0 s1 s2 s3 s4 s5 s6 z1
      obtain ⟨bv, hbv⟩ : ∃ b, b = varB xk := ⟨_, rfl⟩
      have hE3 := HE2.out
      rw [← hbv] at hE3 ⊢
      have HE3 := Lib.hid hE3
      clear HE2 hE3 hbv
      cases bv with
      | false =>
        obtain rfl : v = false := by rw [HE3.out]; rfl
        go_wp2
        go_ret
        exact ⟨rfl, HB3.out⟩
      | true =>
        have HE4 : Hid (v = (allVar (xs.drop (i + 1)) && ((zeroB 0 0 || varB 0) && (b1 == 3 || varB b1)))) := by show _ = _; rw [HE3.out]; simp [allVar]
        go_wp2
        go_roundw
        case rel => exact ⟨i + 1, by omega, by go_num, HE4, HB3, K13, K23⟩
        case measure => simp [intOf]; omega
    · obtain rfl : i = na := by omega
      have hv := hE.out
      rw [List.drop_of_length_le (by rw [← HN.out]; omega)] at hv
      have hn1 : allVar [] = true := rfl
      rw [hn1] at hv
      clear hn1 hE hlt
      have Hw1 := hB
      have K1w1 := hK1
      have K2w1 := hK2
      obtain ⟨w1, hw1⟩ : ∃ w1, w1 = wr := ⟨_, rfl⟩
      subst hw1
      obtain ⟨o0, o1⟩ := K2w1.out.c2
      have z2 : w.heap.size + 1 < w1.heap.size := K2w1.out.lt
      have hz : zeroB 0 0 = true := rfl
      rw [hz] at hv
      clear hz
      go_wp2_with fail
      refine (HV.out b1 b2 _).mono ?_
      rintro e w4 ⟨rfl, hb2⟩
      have Hw4 := Lib.hid (Hw1.out.trans (hb2.mono Hw1.out.size))
      have K1w4 := Lib.hid (K1w1.out.old hb2)
      have K2w4 := Lib.hid (K2w1.out.old hb2)
      clear hb2 s0 s1 s2 s3 s4 s5 s6 o0 o1 z1 z2
      obtain ⟨s0, s1, s2, s3, s4, s5, s6⟩ := K1w4.out.c7
      obtain ⟨o0, o1⟩ := K2w4.out.c2
      have z1 : w.heap.size < w4.heap.size := K1w4.out.lt
      have z2 : w.heap.size + 1 < w4.heap.size := K2w4.out.lt
      obtain ⟨bu, hbu⟩ : ∃ b, b = varB b1 := ⟨_, rfl⟩
      rw [← hbu] at hv ⊢
      clear hbu
      cases bu with
      | true =>
        obtain rfl : v = true := by rw [hv]; simp
        clear hv
        go_wp2
        go_ret
        exact ⟨by simp, Hw4.out⟩
      | false =>
        by_cases q3 : b1 = 3
        · subst q3
          obtain rfl : v = true := by rw [hv]; simp
          clear hv
          go_wp2
          go_ret
          exact ⟨by simp, Hw4.out⟩
        · have g3 : (b1 == 3) = false := by simpa using q3
          rw [g3] at hv
          obtain rfl : v = false := by rw [hv]; simp
          clear hv
          go_wp2
          go_ret
          exact ⟨by simp, Hw4.out⟩
end Go.Proofs.Ytpdebnecfknohaa
namespace Go.Proofs.Ytpdebnecfknohaa
open Go.RowKit
set_option linter.unusedVariables false
set_option linter.unusedSimpArgs false
set_option maxRecDepth 20000

set_option maxHeartbeats 4000000 in
theorem fits_5b (Aa Asub : Option Addr) (ca lsub csub : Nat) (a1 a2 b1 b2 : Int) (xs : List (Int × Int)) (w : World) (h : ArgsAt w (.slice Aa xs.length ca) xs) (hl : xs.length ≤ 1000000000) (hs : lsub = 0) (zz : ¬ (a1 = 0 ∧ a2 = 0)):
    Calls Try.prog 71 #[.agg #[.int .u8 5, .int .u8 a1, .int .i64 a2, .int .u8 b1, .int .i64 b2, .slice Aa xs.length ca, .slice Asub lsub csub]] w (BlB w (kindF 5 a1 a2 b1 b2 xs lsub)) := by
  obtain ⟨v, hv⟩ : ∃ v, v = kindF 5 a1 a2 b1 b2 xs lsub := ⟨_, rfl⟩
  rw [← hv]
  have hal := h
  obtain ⟨na, hn⟩ : ∃ n, n = xs.length := ⟨_, rfl⟩
  unfold kindF at hv
  rw [← hn] at hv hal ⊢
  have HV := Lib.hid (fun k i wx => var84_any k i wx)
  rw [if_neg (by omega)] at hv
  rw [if_neg (by omega)] at hv
  rw [if_neg (by omega)] at hv
  rw [if_pos rfl] at hv
  subst hs
  obtain ⟨A', c', hA1, hA2⟩ := hal
  injection hA1 with hA11 hA12 hA13
  subst hA11 hA13
  have HAr := Lib.hid hA2
  have HN := Lib.hid hn
  rw [← hn] at hl
  have hv1 : v = (allVar (xs.drop 0) && ((zeroB a1 a2 || varB a1) && (b1 == 3 || varB b1))) := by rw [hv, Bool.and_comm]; rfl
  have HV0 := Lib.hid hv1
  clear hv hv1 hA2 hA12
  clear h hn
  obtain ⟨w1, hw1⟩ : ∃ w1, w1 = (w.alloc (.cells #[.int .u8 5, .int .u8 a1, .int .i64 a2, .int .u8 b1, .int .i64 b2, .slice Aa na ca, .slice Asub 0 csub] 50)).alloc (.cells #[.int .u8 0, .int .i64 0] 46) := ⟨_, rfl⟩
  have HB1 : Hid (Below w.heap.size w w1) := by rw [hw1]; exact ((Below.refl _ _).alloc (Nat.le_refl _) _).alloc (by simp) _
  have K1 : Hid (Blk w1 w.heap.size 50 #[.int .u8 5, .int .u8 a1, .int .i64 a2, .int .u8 b1, .int .i64 b2, .slice Aa na ca, .slice Asub 0 csub]) := by rw [hw1]; exact (Blk.new w 50 _).alloc _
  have K2 : Hid (Blk w1 (w.heap.size + 1) 46 #[.int .u8 0, .int .i64 0]) := by rw [hw1]; exact Blk.new' _ 46 _ _ (by simp)
  go_enter Try.func71, Try.ntmps71
  go_upto_region 2 with (fail)
  rw [← hw1]
  clear hw1
  obtain ⟨s0, s1, s2, s3, s4, s5, s6⟩ := K1.out.c7
  obtain ⟨o0, o1⟩ := K2.out.c2
  have z1 : w.heap.size < w1.heap.size := K1.out.lt
  have z2 : w.heap.size + 1 < w1.heap.size := K2.out.lt
  have Hw1 := HB1
  have K1w1 := K1
  have K2w1 := K2
  go_wp2_with fail
  go_loopw [4] (fun s wr => ∃ (i : Nat), i ≤ na ∧ s = .int .i64 (i : Int) ∧ Hid (v = (allVar (xs.drop i) && ((zeroB a1 a2 || varB a1) && (b1 == 3 || varB b1)))) ∧ Hid (Below w.heap.size w wr) ∧ Hid (Blk wr w.heap.size 50 #[.int .u8 5, .int .u8 a1, .int .i64 a2, .int .u8 b1, .int .i64 b2, .slice Aa na ca, .slice Asub 0 csub]) ∧ Hid (Blk wr (w.heap.size + 1) 46 #[.int .u8 0, .int .i64 0])) (fun s _ => na - (intOf s).toNat)
  case atStart => exact ⟨0, Nat.zero_le _, rfl, HV0, HB1, K1, K2⟩
  case round =>
    clear HV0 K1w1 K2w1 Hw1 K1 K2 HB1 s0 s1 s2 s3 s4 s5 s6 o0 o1 z1 z2
    obtain ⟨i, hi, rfl, hE, hB, hK1, hK2⟩ := hrel
    obtain ⟨s0, s1, s2, s3, s4, s5, s6⟩ := hK1.out.c7
    have z1 : w.heap.size < wr.heap.size := hK1.out.lt
    by_cases hlt : i < na
    · have hkl : i < xs.length := by rw [← HN.out]; exact hlt
      have hli : (i : Int) < (na : Int) := by omega
      obtain ⟨b, o, rfl, hc⟩ := HAr.out (by omega)
      obtain ⟨d0, d1⟩ := hc i hkl
      have hbl : b < w.heap.size := World.block_lt_of_cell? w ⟨b, o + i * 2, none⟩ d0
      have e0 := cell_old hB.out hbl d0
      have e1 := cell_old hB.out hbl d1
      rw [show xs.getD i (0, 0) = xs[i] from by simp [List.getD, hkl]] at e0 e1
      have hE2 := hE.out
      rw [List.drop_eq_getElem_cons hkl] at hE2
      simp only [allVar, List.all_cons] at hE2
      generalize xs[i] = x at *
      obtain ⟨xk, xi⟩ := x
      dsimp only at e0 e1 hE2
      have hz : b < wr.heap.size := by have := hB.out.size; omega
      have HE2 := Lib.hid hE2
      clear hE2 hc d0 d1 hbl hE
      go_wp2_with fail
      refine (HV.out xk xi _).mono ?_
      rintro e w2 ⟨rfl, hb2⟩
      have HB3 := Lib.hid (hB.out.trans (hb2.mono hB.out.size))
      have K13 := Lib.hid (hK1.out.old hb2)
      have K23 := Lib.hid (hK2.out.old hb2)
      clear hb2 e0 e1 hz s0 s1 s2 s3 s4 s5 s6 z1
      obtain ⟨bv, hbv⟩ : ∃ b, b = varB xk := ⟨_, rfl⟩
      have hE3 := HE2.out
      rw [← hbv] at hE3 ⊢
      have HE3 := Lib.hid hE3
      clear HE2 hE3 hbv
      cases bv with
      | false =>
        obtain rfl : v = false := by rw [HE3.out]; rfl
        go_wp2
        go_ret
        exact ⟨rfl, HB3.out⟩
      | true =>
        have HE4 : Hid (v = (allVar (xs.drop (i + 1)) && ((zeroB a1 a2 || varB a1) && (b1 == 3 || varB b1)))) := by show _ = _; rw [HE3.out]; simp [allVar]
        go_wp2
        go_roundw
        case rel => exact ⟨i + 1, by omega, by go_num, HE4, HB3, K13, K23⟩
        case measure => simp [intOf]; omega
    · obtain rfl : i = na := by omega
      have hv := hE.out
      rw [List.drop_of_length_le (by rw [← HN.out]; omega)] at hv
      have hn1 : allVar [] = true := rfl
      rw [hn1] at hv
      clear hn1 hE hlt
      have Hw1 := hB
      have K1w1 := hK1
      have K2w1 := hK2
      obtain ⟨w1, hw1⟩ : ∃ w1, w1 = wr := ⟨_, rfl⟩
      subst hw1
      obtain ⟨o0, o1⟩ := K2w1.out.c2
      have z2 : w.heap.size + 1 < w1.heap.size := K2w1.out.lt
      have hz : zeroB a1 a2 = false := by simp only [zeroB, Bool.and_eq_false_iff, beq_eq_false_iff_ne]; omega
      rw [hz] at hv
      clear hz
      by_cases za : a1 = 0
      · have zb : (a2 == 0) = false := by simp only [beq_eq_false_iff_ne]; omega
        subst za
        clear zz
        go_wp2_with fail
        refine (HV.out 0 a2 _).mono ?_
        rintro e w2 ⟨rfl, hb2⟩
        have Hw2 := Lib.hid (Hw1.out.trans (hb2.mono Hw1.out.size))
        have K1w2 := Lib.hid (K1w1.out.old hb2)
        have K2w2 := Lib.hid (K2w1.out.old hb2)
        clear hb2 s0 s1 s2 s3 s4 s5 s6 o0 o1 z1 z2
        obtain ⟨s0, s1, s2, s3, s4, s5, s6⟩ := K1w2.out.c7
        obtain ⟨o0, o1⟩ := K2w2.out.c2
        have z1 : w.heap.size < w2.heap.size := K1w2.out.lt
        have z2 : w.heap.size + 1 < w2.heap.size := K2w2.out.lt
        obtain ⟨bv, hbv⟩ : ∃ b, b = varB 0 := ⟨_, rfl⟩
        rw [← hbv] at hv ⊢
        clear hbv
        cases bv with
        | false =>
          obtain rfl : v = false := by rw [hv]; simp
          clear hv
          go_wp2
          go_ret
          exact ⟨by simp, Hw2.out⟩
        | true =>
          go_wp2_with fail
          refine (HV.out b1 b2 _).mono ?_
          rintro e w4 ⟨rfl, hb2⟩
          have Hw4 := Lib.hid (Hw2.out.trans (hb2.mono Hw2.out.size))
          have K1w4 := Lib.hid (K1w2.out.old hb2)
          have K2w4 := Lib.hid (K2w2.out.old hb2)
          clear hb2 s0 s1 s2 s3 s4 s5 s6 o0 o1 z1 z2
          obtain ⟨s0, s1, s2, s3, s4, s5, s6⟩ := K1w4.out.c7
          obtain ⟨o0, o1⟩ := K2w4.out.c2
          have z1 : w.heap.size < w4.heap.size := K1w4.out.lt
          have z2 : w.heap.size + 1 < w4.heap.size := K2w4.out.lt
          obtain ⟨bu, hbu⟩ : ∃ b, b = varB b1 := ⟨_, rfl⟩
          rw [← hbu] at hv ⊢
          clear hbu
          cases bu with
          | true =>
            obtain rfl : v = true := by rw [hv]; simp
            clear hv
            go_wp2
            go_ret
            exact ⟨by simp, Hw4.out⟩
          | false =>
            by_cases q3 : b1 = 3
            · subst q3
              obtain rfl : v = true := by rw [hv]; simp
              clear hv
              go_wp2
              go_ret
              exact ⟨by simp, Hw4.out⟩
            · have g3 : (b1 == 3) = false := by simpa using q3
              rw [g3] at hv
              obtain rfl : v = false := by rw [hv]; simp
              clear hv
              go_wp2
              go_ret
              exact ⟨by simp, Hw4.out⟩
      · have zb : (a1 == 0) = false := by simp only [beq_eq_false_iff_ne]; omega
        clear zz za
        go_wp2_with fail
        refine (HV.out a1 a2 _).mono ?_
        rintro e w2 ⟨rfl, hb2⟩
        have Hw2 := Lib.hid (Hw1.out.trans (hb2.mono Hw1.out.size))
        have K1w2 := Lib.hid (K1w1.out.old hb2)
        have K2w2 := Lib.hid (K2w1.out.old hb2)
        clear hb2 s0 s1 s2 s3 s4 s5 s6 o0 o1 z1 z2
        obtain ⟨s0, s1, s2, s3, s4, s5, s6⟩ := K1w2.out.c7
        obtain ⟨o0, o1⟩ := K2w2.out.c2
        have z1 : w.heap.size < w2.heap.size := K1w2.out.lt
        have z2 : w.heap.size + 1 < w2.heap.size := K2w2.out.lt
        obtain ⟨bv, hbv⟩ : ∃ b, b = varB a1 := ⟨_, rfl⟩
        rw [← hbv] at hv ⊢
        clear hbv
        cases bv with
        | false =>
          obtain rfl : v = false := by rw [hv]; simp
          clear hv
          go_wp2
          go_ret
          exact ⟨by simp, Hw2.out⟩
        | true =>
          go_wp2_with fail
          refine (HV.out b1 b2 _).mono ?_
          rintro e w4 ⟨rfl, hb2⟩
          have Hw4 := Lib.hid (Hw2.out.trans (hb2.mono Hw2.out.size))
          have K1w4 := Lib.hid (K1w2.out.old hb2)
          have K2w4 := Lib.hid (K2w2.out.old hb2)
          clear hb2 s0 s1 s2 s3 s4 s5 s6 o0 o1 z1 z2
          obtain ⟨s0, s1, s2, s3, s4, s5, s6⟩ := K1w4.out.c7
          obtain ⟨o0, o1⟩ := K2w4.out.c2
          have z1 : w.heap.size < w4.heap.size := K1w4.out.lt
          have z2 : w.heap.size + 1 < w4.heap.size := K2w4.out.lt
          obtain ⟨bu, hbu⟩ : ∃ b, b = varB b1 := ⟨_, rfl⟩
          rw [← hbu] at hv ⊢
          clear hbu
          cases bu with
          | true =>
            obtain rfl : v = true := by rw [hv]; simp
            clear hv
            go_wp2
            go_ret
            exact ⟨by simp, Hw4.out⟩
          | false =>
            by_cases q3 : b1 = 3
            · subst q3
              obtain rfl : v = true := by rw [hv]; simp
              clear hv
              go_wp2
              go_ret
              exact ⟨by simp, Hw4.out⟩
            · have g3 : (b1 == 3) = false := by simpa using q3
              rw [g3] at hv
              obtain rfl : v = false := by rw [hv]; simp
              clear hv
              go_wp2
              go_ret
              exact ⟨by simp, Hw4.out⟩
end Go.Proofs.Ytpdebnecfknohaa
namespace Go.Proofs.Ytpdebnecfknohaa
open Go.RowKit
set_option linter.unusedVariables false
set_option linter.unusedSimpArgs false
set_option maxRecDepth 20000

set_option maxHeartbeats 4000000 in
theorem fits_6 (Aa Asub : Option Addr) (ca lsub csub : Nat) (a1 a2 b1 b2 : Int) (xs : List (Int × Int)) (w : World) (h : ArgsAt w (.slice Aa xs.length ca) xs) (hl : xs.length ≤ 1000000000) (hx : xs.length = 0) (hs : lsub = 0):
    Calls Try.prog 71 #[.agg #[.int .u8 6, .int .u8 a1, .int .i64 a2, .int .u8 b1, .int .i64 b2, .slice Aa xs.length ca, .slice Asub lsub csub]] w (BlB w (kindF 6 a1 a2 b1 b2 xs lsub)) := by
  obtain ⟨v, hv⟩ : ∃ v, v = kindF 6 a1 a2 b1 b2 xs lsub := ⟨_, rfl⟩
  rw [← hv]
  have hal := h
  obtain ⟨na, hn⟩ : ∃ n, n = xs.length := ⟨_, rfl⟩
  unfold kindF at hv
  rw [← hn] at hv hal ⊢
  have HV := Lib.hid (fun k i wx => var84_any k i wx)
  rw [if_neg (by omega)] at hv
  obtain rfl : na = 0 := by omega
  subst hs
  rw [if_neg (by omega)] at hv
  rw [if_neg (by omega)] at hv
  rw [if_neg (by omega)] at hv
  rw [if_pos (by omega)] at hv
  clear h hl hn hal
  obtain ⟨w1, hw1⟩ : ∃ w1, w1 = (w.alloc (.cells #[.int .u8 6, .int .u8 a1, .int .i64 a2, .int .u8 b1, .int .i64 b2, .slice Aa 0 ca, .slice Asub 0 csub] 50)).alloc (.cells #[.int .u8 0, .int .i64 0] 46) := ⟨_, rfl⟩
  have HB1 : Hid (Below w.heap.size w w1) := by rw [hw1]; exact ((Below.refl _ _).alloc (Nat.le_refl _) _).alloc (by simp) _
  have K1 : Hid (Blk w1 w.heap.size 50 #[.int .u8 6, .int .u8 a1, .int .i64 a2, .int .u8 b1, .int .i64 b2, .slice Aa 0 ca, .slice Asub 0 csub]) := by rw [hw1]; exact (Blk.new w 50 _).alloc _
  have K2 : Hid (Blk w1 (w.heap.size + 1) 46 #[.int .u8 0, .int .i64 0]) := by rw [hw1]; exact Blk.new' _ 46 _ _ (by simp)
  go_enter Try.func71, Try.ntmps71
  go_upto_region 2 with (fail)
  rw [← hw1]
  clear hw1
  obtain ⟨s0, s1, s2, s3, s4, s5, s6⟩ := K1.out.c7
  obtain ⟨o0, o1⟩ := K2.out.c2
  have z1 : w.heap.size < w1.heap.size := K1.out.lt
  have z2 : w.heap.size + 1 < w1.heap.size := K2.out.lt
  have Hw1 := HB1
  have K1w1 := K1
  have K2w1 := K2
  by_cases zz : a1 = 0 ∧ a2 = 0
  · obtain ⟨rfl, rfl⟩ := zz
    have hz : zeroB 0 0 = true := rfl
    rw [hz] at hv
    clear hz
    go_wp2_with fail
    refine (HV.out b1 b2 _).mono ?_
    rintro e w2 ⟨rfl, hb2⟩
    have Hw2 := Lib.hid (Hw1.out.trans (hb2.mono Hw1.out.size))
    have K1w2 := Lib.hid (K1w1.out.old hb2)
    have K2w2 := Lib.hid (K2w1.out.old hb2)
    clear hb2 s0 s1 s2 s3 s4 s5 s6 o0 o1 z1 z2
    obtain ⟨s0, s1, s2, s3, s4, s5, s6⟩ := K1w2.out.c7
    obtain ⟨o0, o1⟩ := K2w2.out.c2
    have z1 : w.heap.size < w2.heap.size := K1w2.out.lt
    have z2 : w.heap.size + 1 < w2.heap.size := K2w2.out.lt
    obtain ⟨bv, hbv⟩ : ∃ b, b = varB b1 := ⟨_, rfl⟩
    rw [← hbv] at hv ⊢
    clear hbv
    cases bv with
    | false =>
      obtain rfl : v = false := by rw [hv]; simp
      clear hv
      go_wp2
      go_ret
      exact ⟨by simp, Hw2.out⟩
    | true =>
      obtain rfl : v = true := by rw [hv]; simp
      clear hv
      go_wp2
      go_ret
      exact ⟨by simp, Hw2.out⟩
  · have hz : zeroB a1 a2 = false := by simp only [zeroB, Bool.and_eq_false_iff, beq_eq_false_iff_ne]; omega
    rw [hz] at hv
    clear hz
    by_cases za : a1 = 0
    · have zb : (a2 == 0) = false := by simp only [beq_eq_false_iff_ne]; omega
      subst za
      clear zz
      obtain rfl : v = false := by rw [hv]; simp
      clear hv
      go_wp2
      go_ret
      exact ⟨by simp, Hw1.out⟩
    · have zb : (a1 == 0) = false := by simp only [beq_eq_false_iff_ne]; omega
      clear zz za
      obtain rfl : v = false := by rw [hv]; simp
      clear hv
      go_wp2
      go_ret
      exact ⟨by simp, Hw1.out⟩
set_option maxHeartbeats 4000000 in
theorem fits_7 (Aa Asub : Option Addr) (ca lsub csub : Nat) (a1 a2 b1 b2 : Int) (xs : List (Int × Int)) (w : World) (h : ArgsAt w (.slice Aa xs.length ca) xs) (hl : xs.length ≤ 1000000000) (hx : xs.length = 0):
    Calls Try.prog 71 #[.agg #[.int .u8 7, .int .u8 a1, .int .i64 a2, .int .u8 b1, .int .i64 b2, .slice Aa xs.length ca, .slice Asub lsub csub]] w (BlB w (kindF 7 a1 a2 b1 b2 xs lsub)) := by
  obtain ⟨v, hv⟩ : ∃ v, v = kindF 7 a1 a2 b1 b2 xs lsub := ⟨_, rfl⟩
  rw [← hv]
  have hal := h
  obtain ⟨na, hn⟩ : ∃ n, n = xs.length := ⟨_, rfl⟩
  unfold kindF at hv
  rw [← hn] at hv hal ⊢
  have HV := Lib.hid (fun k i wx => var84_any k i wx)
  rw [if_neg (by omega)] at hv
  obtain rfl : na = 0 := by omega
  rw [if_neg (by omega)] at hv
  rw [if_neg (by omega)] at hv
  rw [if_neg (by omega)] at hv
  rw [if_neg (by omega)] at hv
  rw [if_pos rfl] at hv
  clear h hl hn hal
  obtain ⟨w1, hw1⟩ : ∃ w1, w1 = (w.alloc (.cells #[.int .u8 7, .int .u8 a1, .int .i64 a2, .int .u8 b1, .int .i64 b2, .slice Aa 0 ca, .slice Asub lsub csub] 50)).alloc (.cells #[.int .u8 0, .int .i64 0] 46) := ⟨_, rfl⟩
  have HB1 : Hid (Below w.heap.size w w1) := by rw [hw1]; exact ((Below.refl _ _).alloc (Nat.le_refl _) _).alloc (by simp) _
  have K1 : Hid (Blk w1 w.heap.size 50 #[.int .u8 7, .int .u8 a1, .int .i64 a2, .int .u8 b1, .int .i64 b2, .slice Aa 0 ca, .slice Asub lsub csub]) := by rw [hw1]; exact (Blk.new w 50 _).alloc _
  have K2 : Hid (Blk w1 (w.heap.size + 1) 46 #[.int .u8 0, .int .i64 0]) := by rw [hw1]; exact Blk.new' _ 46 _ _ (by simp)
  go_enter Try.func71, Try.ntmps71
  go_upto_region 2 with (fail)
  rw [← hw1]
  clear hw1
  obtain ⟨s0, s1, s2, s3, s4, s5, s6⟩ := K1.out.c7
  obtain ⟨o0, o1⟩ := K2.out.c2
  have z1 : w.heap.size < w1.heap.size := K1.out.lt
  have z2 : w.heap.size + 1 < w1.heap.size := K2.out.lt
  have Hw1 := HB1
  have K1w1 := K1
  have K2w1 := K2
  by_cases zz : a1 = 0 ∧ a2 = 0
  · obtain ⟨rfl, rfl⟩ := zz
    have hz : zeroB 0 0 = true := rfl
    rw [hz] at hv
    clear hz
    by_cases zz : b1 = 0 ∧ b2 = 0
    · obtain ⟨rfl, rfl⟩ := zz
      have hz : zeroB 0 0 = true := rfl
      rw [hz] at hv
      clear hz
      obtain rfl : v = true := by rw [hv]; simp
      clear hv
      go_wp2
      go_ret
      exact ⟨by simp, Hw1.out⟩
    · have hz : zeroB b1 b2 = false := by simp only [zeroB, Bool.and_eq_false_iff, beq_eq_false_iff_ne]; omega
      rw [hz] at hv
      clear hz
      by_cases za : b1 = 0
      · have zb : (b2 == 0) = false := by simp only [beq_eq_false_iff_ne]; omega
        subst za
        clear zz
        obtain rfl : v = false := by rw [hv]; simp
        clear hv
        go_wp2
        go_ret
        exact ⟨by simp, Hw1.out⟩
      · have zb : (b1 == 0) = false := by simp only [beq_eq_false_iff_ne]; omega
        clear zz za
        obtain rfl : v = false := by rw [hv]; simp
        clear hv
        go_wp2
        go_ret
        exact ⟨by simp, Hw1.out⟩
  · have hz : zeroB a1 a2 = false := by simp only [zeroB, Bool.and_eq_false_iff, beq_eq_false_iff_ne]; omega
    rw [hz] at hv
    clear hz
    by_cases za : a1 = 0
    · have zb : (a2 == 0) = false := by simp only [beq_eq_false_iff_ne]; omega
      subst za
      clear zz
      obtain rfl : v = false := by rw [hv]; simp
      clear hv
      go_wp2
      go_ret
      exact ⟨by simp, Hw1.out⟩
    · have zb : (a1 == 0) = false := by simp only [beq_eq_false_iff_ne]; omega
      clear zz za
      obtain rfl : v = false := by rw [hv]; simp
      clear hv
      go_wp2
      go_ret
      exact ⟨by simp, Hw1.out⟩
end Go.Proofs.Ytpdebnecfknohaa
namespace Go.Proofs.Ytpdebnecfknohaa
open Go.RowKit
set_option linter.unusedVariables false
set_option linter.unusedSimpArgs false
set_option maxRecDepth 20000

theorem fits_any (Aa Asub : Option Addr) (ca lsub csub : Nat) (k a1 a2 b1 b2 : Int) (xs : List (Int × Int)) (w : World) (h : ArgsAt w (.slice Aa xs.length ca) xs) (hl : xs.length ≤ 1000000000) :
    Calls Try.prog 71 #[.agg #[.int .u8 k, .int .u8 a1, .int .i64 a2, .int .u8 b1, .int .i64 b2, .slice Aa xs.length ca, .slice Asub lsub csub]] w (BlB w (kindF k a1 a2 b1 b2 xs lsub)) := by
  by_cases hc : k < 1 ∨ 7 < k ∨ (k ≠ 7 ∧ 0 < lsub) ∨ (k ≠ 5 ∧ 0 < xs.length)
  · exact fits_early Aa Asub ca lsub csub k a1 a2 b1 b2 xs w h hl hc
  rcases (show k = 1 ∨ k = 2 ∨ k = 3 ∨ k = 4 ∨ k = 5 ∨ k = 6 ∨ k = 7 by omega) with rfl | rfl | rfl | rfl | rfl | rfl | rfl
  · exact fits_1 Aa Asub ca lsub csub a1 a2 b1 b2 xs w h hl (by omega) (by omega)
  · exact fits_2 Aa Asub ca lsub csub a1 a2 b1 b2 xs w h hl (by omega) (by omega)
  · exact fits_3 Aa Asub ca lsub csub a1 a2 b1 b2 xs w h hl (by omega) (by omega)
  · exact fits_4 Aa Asub ca lsub csub a1 a2 b1 b2 xs w h hl (by omega) (by omega)
  · by_cases zz : a1 = 0 ∧ a2 = 0
    · exact fits_5a Aa Asub ca lsub csub a1 a2 b1 b2 xs w h hl (by omega) zz
    · exact fits_5b Aa Asub ca lsub csub a1 a2 b1 b2 xs w h hl (by omega) zz
  · exact fits_6 Aa Asub ca lsub csub a1 a2 b1 b2 xs w h hl (by omega) (by omega)
  · exact fits_7 Aa Asub ca lsub csub a1 a2 b1 b2 xs w h hl (by omega)
end Go.Proofs.Ytpdebnecfknohaa
