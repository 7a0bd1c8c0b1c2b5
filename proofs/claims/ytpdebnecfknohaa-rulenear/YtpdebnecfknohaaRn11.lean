/-
  Parts: Kfa Kh Kb Dp Ze.
-/
import Derived.Test.YtpdebnecfknohaaRn00
import Derived.Test.YtpdebnecfknohaaRn01
import Derived.Test.YtpdebnecfknohaaRn02
import Derived.Test.YtpdebnecfknohaaRn03
import Derived.Test.YtpdebnecfknohaaRn04
import Derived.Test.YtpdebnecfknohaaRn05
import Derived.Test.YtpdebnecfknohaaRn06
import Derived.Test.YtpdebnecfknohaaRn07
import Derived.Test.YtpdebnecfknohaaRn08
import Derived.Test.YtpdebnecfknohaaRn09
import Derived.Test.YtpdebnecfknohaaRn10
import Derived.Deep.RegionLaw
import Derived.Deep.DeepCutAuto
import Derived.Deep.CutBlock
namespace Go.Proofs.Ytpdebnecfknohaa
open Go.RowKit
set_option linter.unusedVariables false
set_option linter.unusedSimpArgs false
set_option maxRecDepth 20000
theorem var84_any (k i : Int) (w : World) : Calls Try.prog 84 #[.agg #[.int .u8 k, .int .i64 i]] w (BlB w (varB k)) := by
  obtain ⟨v, hv⟩ : ∃ v, v = varB k := ⟨_, rfl⟩
  rw [← hv]
  have HB : Hid (Below w.heap.size w (w.alloc (.cells #[.int .u8 k, .int .i64 i] 46))) := (Below.refl _ _).alloc (Nat.le_refl _) _
  by_cases h1 : k = 1
  · subst h1
    obtain rfl : v = true := by rw [hv]; rfl
    clear hv
    go_enter Try.func84, Try.ntmps84
    go_wp2
    go_ret
    exact ⟨by simp, HB.out⟩
  · by_cases h2 : k = 2
    · subst h2
      obtain rfl : v = true := by rw [hv]; rfl
      clear hv
      go_enter Try.func84, Try.ntmps84
      go_wp2
      go_ret
      exact ⟨by simp, HB.out⟩
    · have e1 : (k == 1) = false := by simpa using h1
      have e2 : (k == 2) = false := by simpa using h2
      obtain rfl : v = false := by rw [hv]; simp [varB, e1, e2]
      clear hv
      go_enter Try.func84, Try.ntmps84
      go_wp2
      go_ret
      exact ⟨by simp [e1, e2], HB.out⟩
set_option maxHeartbeats 4000000 in
theorem fits_early (Aa Asub : Option Addr) (ca lsub csub : Nat) (k a1 a2 b1 b2 : Int) (xs : List (Int × Int)) (w : World) (h : ArgsAt w (.slice Aa xs.length ca) xs) (hl : xs.length ≤ 1000000000) (hc : k < 1 ∨ 7 < k ∨ (k ≠ 7 ∧ 0 < lsub) ∨ (k ≠ 5 ∧ 0 < xs.length)) :
    Calls Try.prog 71 #[.agg #[.int .u8 k, .int .u8 a1, .int .i64 a2, .int .u8 b1, .int .i64 b2, .slice Aa xs.length ca, .slice Asub lsub csub]] w (BlB w (kindF k a1 a2 b1 b2 xs lsub)) := by
  obtain ⟨v, hv⟩ : ∃ v, v = kindF k a1 a2 b1 b2 xs lsub := ⟨_, rfl⟩
  rw [← hv]
  have hal := h
  obtain ⟨na, hn⟩ : ∃ n, n = xs.length := ⟨_, rfl⟩
  unfold kindF at hv
  rw [← hn] at hv hal ⊢
  have HV := Lib.hid (fun k i wx => var84_any k i wx)
  rw [← hn] at hc
  have hF : v = false := by
    rw [hv]
    by_cases hc2 : (k ≠ 5 ∧ 0 < na) ∨ (k ≠ 7 ∧ 0 < lsub)
    · rw [if_pos hc2]
    · rw [if_neg hc2, if_neg (by omega), if_neg (by omega), if_neg (by omega), if_neg (by omega), if_neg (by omega)]
  clear h hl hn hal hv
  subst hF
  obtain ⟨w1, hw1⟩ : ∃ w1, w1 = (w.alloc (.cells #[.int .u8 k, .int .u8 a1, .int .i64 a2, .int .u8 b1, .int .i64 b2, .slice Aa na ca, .slice Asub lsub csub] 50)).alloc (.cells #[.int .u8 0, .int .i64 0] 46) := ⟨_, rfl⟩
  have HB1 : Hid (Below w.heap.size w w1) := by rw [hw1]; exact ((Below.refl _ _).alloc (Nat.le_refl _) _).alloc (by simp) _
  have K1 : Hid (Blk w1 w.heap.size 50 #[.int .u8 k, .int .u8 a1, .int .i64 a2, .int .u8 b1, .int .i64 b2, .slice Aa na ca, .slice Asub lsub csub]) := by rw [hw1]; exact (Blk.new w 50 _).alloc _
  have K2 : Hid (Blk w1 (w.heap.size + 1) 46 #[.int .u8 0, .int .i64 0]) := by rw [hw1]; exact Blk.new' _ 46 _ _ (by simp)
  by_cases e1 : k < 1
  · clear hc
    go_enter Try.func71, Try.ntmps71
    go_upto_region 2 with (fail)
    rw [← hw1]
    clear hw1
    obtain ⟨s0, s1, s2, s3, s4, s5, s6⟩ := K1.out.c7
    obtain ⟨o0, o1⟩ := K2.out.c2
    have z1 : w.heap.size < w1.heap.size := K1.out.lt
    have z2 : w.heap.size + 1 < w1.heap.size := K2.out.lt
    have Hw1 := HB1
    have K1w1 := K1
    have K2w1 := K2
    go_wp2
    go_ret
    exact ⟨rfl, Hw1.out⟩
  by_cases e2 : 7 < k
  · clear hc
    go_enter Try.func71, Try.ntmps71
    go_upto_region 2 with (fail)
    rw [← hw1]
    clear hw1
    obtain ⟨s0, s1, s2, s3, s4, s5, s6⟩ := K1.out.c7
    obtain ⟨o0, o1⟩ := K2.out.c2
    have z1 : w.heap.size < w1.heap.size := K1.out.lt
    have z2 : w.heap.size + 1 < w1.heap.size := K2.out.lt
    have Hw1 := HB1
    have K1w1 := K1
    have K2w1 := K2
    go_wp2
    go_ret
    exact ⟨rfl, Hw1.out⟩
  by_cases e3 : k ≠ 7 ∧ 0 < lsub
  · obtain ⟨e31, e32⟩ := e3
    have g1 : (k != 7) = true := by simpa using e31
    have g2 : (k == 7) = false := by simpa using e31
    have g3 : (0 : Int) < (lsub : Int) := by omega
    clear hc
    go_enter Try.func71, Try.ntmps71
    go_upto_region 2 with (fail)
    rw [← hw1]
    clear hw1
    obtain ⟨s0, s1, s2, s3, s4, s5, s6⟩ := K1.out.c7
    obtain ⟨o0, o1⟩ := K2.out.c2
    have z1 : w.heap.size < w1.heap.size := K1.out.lt
    have z2 : w.heap.size + 1 < w1.heap.size := K2.out.lt
    have Hw1 := HB1
    have K1w1 := K1
    have K2w1 := K2
    go_wp2
    go_ret
    exact ⟨rfl, Hw1.out⟩
  have e4 : k ≠ 5 ∧ 0 < na := by omega
  obtain ⟨e41, e42⟩ := e4
  have g1 : (k != 5) = true := by simpa using e41
  have g2 : (k == 5) = false := by simpa using e41
  have g3 : (0 : Int) < (na : Int) := by omega
  by_cases e7 : k = 7
  · subst e7
    clear hc e1 e2 e3 e41 g1 g2
    go_enter Try.func71, Try.ntmps71
    go_upto_region 2 with (fail)
    rw [← hw1]
    clear hw1
    obtain ⟨s0, s1, s2, s3, s4, s5, s6⟩ := K1.out.c7
    obtain ⟨o0, o1⟩ := K2.out.c2
    have z1 : w.heap.size < w1.heap.size := K1.out.lt
    have z2 : w.heap.size + 1 < w1.heap.size := K2.out.lt
    have Hw1 := HB1
    have K1w1 := K1
    have K2w1 := K2
    go_wp2
    go_ret
    exact ⟨rfl, Hw1.out⟩
  · have e70 : lsub = 0 := by omega
    subst e70
    have g4 : (k != 7) = true := by simpa using e7
    have g5 : (k == 7) = false := by simpa using e7
    clear hc e3 e7
    go_enter Try.func71, Try.ntmps71
    go_upto_region 2 with (fail)
    rw [← hw1]
    clear hw1
    obtain ⟨s0, s1, s2, s3, s4, s5, s6⟩ := K1.out.c7
    obtain ⟨o0, o1⟩ := K2.out.c2
    have z1 : w.heap.size < w1.heap.size := K1.out.lt
    have z2 : w.heap.size + 1 < w1.heap.size := K2.out.lt
    have Hw1 := HB1
    have K1w1 := K1
    have K2w1 := K2
    go_wp2
    go_ret
    exact ⟨rfl, Hw1.out⟩
end Go.Proofs.Ytpdebnecfknohaa
namespace Go.Proofs.Ytpdebnecfknohaa
open Go.RowKit
set_option linter.unusedVariables false
set_option linter.unusedSimpArgs false
set_option maxRecDepth 20000
set_option maxHeartbeats 4000000 in
theorem fits_1 (Aa Asub : Option Addr) (ca lsub csub : Nat) (a1 a2 b1 b2 : Int) (xs : List (Int × Int)) (w : World) (h : ArgsAt w (.slice Aa xs.length ca) xs) (hl : xs.length ≤ 1000000000) (hx : xs.length = 0) (hs : lsub = 0):
    Calls Try.prog 71 #[.agg #[.int .u8 1, .int .u8 a1, .int .i64 a2, .int .u8 b1, .int .i64 b2, .slice Aa xs.length ca, .slice Asub lsub csub]] w (BlB w (kindF 1 a1 a2 b1 b2 xs lsub)) := by
  obtain ⟨v, hv⟩ : ∃ v, v = kindF 1 a1 a2 b1 b2 xs lsub := ⟨_, rfl⟩
  rw [← hv]
  have hal := h
  obtain ⟨na, hn⟩ : ∃ n, n = xs.length := ⟨_, rfl⟩
  unfold kindF at hv
  rw [← hn] at hv hal ⊢
  have HV := Lib.hid (fun k i wx => var84_any k i wx)
  rw [if_neg (by omega)] at hv
  obtain rfl : na = 0 := by omega
  subst hs
  rw [if_pos (by omega)] at hv
  clear h hl hn hal
  obtain ⟨w1, hw1⟩ : ∃ w1, w1 = (w.alloc (.cells #[.int .u8 1, .int .u8 a1, .int .i64 a2, .int .u8 b1, .int .i64 b2, .slice Aa 0 ca, .slice Asub 0 csub] 50)).alloc (.cells #[.int .u8 0, .int .i64 0] 46) := ⟨_, rfl⟩
  have HB1 : Hid (Below w.heap.size w w1) := by rw [hw1]; exact ((Below.refl _ _).alloc (Nat.le_refl _) _).alloc (by simp) _
  have K1 : Hid (Blk w1 w.heap.size 50 #[.int .u8 1, .int .u8 a1, .int .i64 a2, .int .u8 b1, .int .i64 b2, .slice Aa 0 ca, .slice Asub 0 csub]) := by rw [hw1]; exact (Blk.new w 50 _).alloc _
  have K2 : Hid (Blk w1 (w.heap.size + 1) 46 #[.int .u8 0, .int .i64 0]) := by rw [hw1]; exact Blk.new' _ 46 _ _ (by simp)
  go_enter Try.func71, Try.ntmps71
  go_upto_region 2 with (fail)
  rw [← hw1]
  clear hw1
  obtain ⟨s0, s1, s2, s3, s4, s5, s6⟩ := K1.out.c7
  obtain ⟨o0, o1⟩ := K2.out.c2
  have z1 : w.heap.size < w1.heap.size := K1.out.lt
  have z2 : w.heap.size + 1 < w1.heap.size := K2.out.lt
  have Hw1 := HB1
  have K1w1 := K1
  have K2w1 := K2
  go_wp2_with fail
  refine (HV.out a1 a2 _).mono ?_
  rintro e w2 ⟨rfl, hb2⟩
  have Hw2 := Lib.hid (Hw1.out.trans (hb2.mono Hw1.out.size))
  have K1w2 := Lib.hid (K1w1.out.old hb2)
  have K2w2 := Lib.hid (K2w1.out.old hb2)
  clear hb2 s0 s1 s2 s3 s4 s5 s6 o0 o1 z1 z2
  obtain ⟨s0, s1, s2, s3, s4, s5, s6⟩ := K1w2.out.c7
  obtain ⟨o0, o1⟩ := K2w2.out.c2
  have z1 : w.heap.size < w2.heap.size := K1w2.out.lt
  have z2 : w.heap.size + 1 < w2.heap.size := K2w2.out.lt
  obtain ⟨bv, hbv⟩ : ∃ b, b = varB a1 := ⟨_, rfl⟩
  rw [← hbv] at hv ⊢
  clear hbv
  cases bv with
  | false =>
    obtain rfl : v = false := by rw [hv]; simp
    clear hv
    go_wp2
    go_ret
    exact ⟨by simp, Hw2.out⟩
  | true =>
    by_cases q1 : 1 ≤ b1
    · by_cases q4 : b1 ≤ 4
      · have ho : objB b1 = true := by rcases (show b1 = 1 ∨ b1 = 2 ∨ b1 = 3 ∨ b1 = 4 by omega) with rfl | rfl | rfl | rfl <;> rfl
        rw [ho] at hv
        obtain rfl : v = true := by rw [hv]; simp
        clear hv
        go_wp2
        go_ret
        exact ⟨by simp, Hw2.out⟩
      · have ho : objB b1 = false := by simp [objB, varB]; omega
        rw [ho] at hv
        obtain rfl : v = false := by rw [hv]; simp
        clear hv
        go_wp2
        go_ret
        exact ⟨by simp; omega, Hw2.out⟩
    · have ho : objB b1 = false := by simp [objB, varB]; omega
      rw [ho] at hv
      obtain rfl : v = false := by rw [hv]; simp
      clear hv
      go_wp2
      go_ret
      exact ⟨by simp, Hw2.out⟩
set_option maxHeartbeats 4000000 in
theorem fits_2 (Aa Asub : Option Addr) (ca lsub csub : Nat) (a1 a2 b1 b2 : Int) (xs : List (Int × Int)) (w : World) (h : ArgsAt w (.slice Aa xs.length ca) xs) (hl : xs.length ≤ 1000000000) (hx : xs.length = 0) (hs : lsub = 0):
    Calls Try.prog 71 #[.agg #[.int .u8 2, .int .u8 a1, .int .i64 a2, .int .u8 b1, .int .i64 b2, .slice Aa xs.length ca, .slice Asub lsub csub]] w (BlB w (kindF 2 a1 a2 b1 b2 xs lsub)) := by
  obtain ⟨v, hv⟩ : ∃ v, v = kindF 2 a1 a2 b1 b2 xs lsub := ⟨_, rfl⟩
  rw [← hv]
  have hal := h
  obtain ⟨na, hn⟩ : ∃ n, n = xs.length := ⟨_, rfl⟩
  unfold kindF at hv
  rw [← hn] at hv hal ⊢
  have HV := Lib.hid (fun k i wx => var84_any k i wx)
  rw [if_neg (by omega)] at hv
  obtain rfl : na = 0 := by omega
  subst hs
  rw [if_neg (by omega)] at hv
  rw [if_pos (by omega)] at hv
  clear h hl hn hal
  obtain ⟨w1, hw1⟩ : ∃ w1, w1 = (w.alloc (.cells #[.int .u8 2, .int .u8 a1, .int .i64 a2, .int .u8 b1, .int .i64 b2, .slice Aa 0 ca, .slice Asub 0 csub] 50)).alloc (.cells #[.int .u8 0, .int .i64 0] 46) := ⟨_, rfl⟩
  have HB1 : Hid (Below w.heap.size w w1) := by rw [hw1]; exact ((Below.refl _ _).alloc (Nat.le_refl _) _).alloc (by simp) _
  have K1 : Hid (Blk w1 w.heap.size 50 #[.int .u8 2, .int .u8 a1, .int .i64 a2, .int .u8 b1, .int .i64 b2, .slice Aa 0 ca, .slice Asub 0 csub]) := by rw [hw1]; exact (Blk.new w 50 _).alloc _
  have K2 : Hid (Blk w1 (w.heap.size + 1) 46 #[.int .u8 0, .int .i64 0]) := by rw [hw1]; exact Blk.new' _ 46 _ _ (by simp)
  go_enter Try.func71, Try.ntmps71
  go_upto_region 2 with (fail)
  rw [← hw1]
  clear hw1
  obtain ⟨s0, s1, s2, s3, s4, s5, s6⟩ := K1.out.c7
  obtain ⟨o0, o1⟩ := K2.out.c2
  have z1 : w.heap.size < w1.heap.size := K1.out.lt
  have z2 : w.heap.size + 1 < w1.heap.size := K2.out.lt
  have Hw1 := HB1
  have K1w1 := K1
  have K2w1 := K2
  go_wp2_with fail
  refine (HV.out a1 a2 _).mono ?_
  rintro e w2 ⟨rfl, hb2⟩
  have Hw2 := Lib.hid (Hw1.out.trans (hb2.mono Hw1.out.size))
  have K1w2 := Lib.hid (K1w1.out.old hb2)
  have K2w2 := Lib.hid (K2w1.out.old hb2)
  clear hb2 s0 s1 s2 s3 s4 s5 s6 o0 o1 z1 z2
  obtain ⟨s0, s1, s2, s3, s4, s5, s6⟩ := K1w2.out.c7
  obtain ⟨o0, o1⟩ := K2w2.out.c2
  have z1 : w.heap.size < w2.heap.size := K1w2.out.lt
  have z2 : w.heap.size + 1 < w2.heap.size := K2w2.out.lt
  obtain ⟨bv, hbv⟩ : ∃ b, b = varB a1 := ⟨_, rfl⟩
  rw [← hbv] at hv ⊢
  clear hbv
  cases bv with
  | false =>
    obtain rfl : v = false := by rw [hv]; simp
    clear hv
    go_wp2
    go_ret
    exact ⟨by simp, Hw2.out⟩
  | true =>
    go_wp2_with fail
    refine (HV.out b1 b2 _).mono ?_
    rintro e w3 ⟨rfl, hb2⟩
    have Hw3 := Lib.hid (Hw2.out.trans (hb2.mono Hw2.out.size))
    have K1w3 := Lib.hid (K1w2.out.old hb2)
    have K2w3 := Lib.hid (K2w2.out.old hb2)
    clear hb2 s0 s1 s2 s3 s4 s5 s6 o0 o1 z1 z2
    obtain ⟨s0, s1, s2, s3, s4, s5, s6⟩ := K1w3.out.c7
    obtain ⟨o0, o1⟩ := K2w3.out.c2
    have z1 : w.heap.size < w3.heap.size := K1w3.out.lt
    have z2 : w.heap.size + 1 < w3.heap.size := K2w3.out.lt
    obtain ⟨bu, hbu⟩ : ∃ b, b = varB b1 := ⟨_, rfl⟩
    rw [← hbu] at hv ⊢
    clear hbu
    cases bu with
    | false =>
      obtain rfl : v = false := by rw [hv]; simp
      clear hv
      go_wp2
      go_ret
      exact ⟨by simp, Hw3.out⟩
    | true =>
      obtain rfl : v = true := by rw [hv]; simp
      clear hv
      go_wp2
      go_ret
      exact ⟨by simp, Hw3.out⟩
set_option maxHeartbeats 4000000 in
theorem fits_3 (Aa Asub : Option Addr) (ca lsub csub : Nat) (a1 a2 b1 b2 : Int) (xs : List (Int × Int)) (w : World) (h : ArgsAt w (.slice Aa xs.length ca) xs) (hl : xs.length ≤ 1000000000) (hx : xs.length = 0) (hs : lsub = 0):
    Calls Try.prog 71 #[.agg #[.int .u8 3, .int .u8 a1, .int .i64 a2, .int .u8 b1, .int .i64 b2, .slice Aa xs.length ca, .slice Asub lsub csub]] w (BlB w (kindF 3 a1 a2 b1 b2 xs lsub)) := by
  obtain ⟨v, hv⟩ : ∃ v, v = kindF 3 a1 a2 b1 b2 xs lsub := ⟨_, rfl⟩
  rw [← hv]
  have hal := h
  obtain ⟨na, hn⟩ : ∃ n, n = xs.length := ⟨_, rfl⟩
  unfold kindF at hv
  rw [← hn] at hv hal ⊢
  have HV := Lib.hid (fun k i wx => var84_any k i wx)
  rw [if_neg (by omega)] at hv
  obtain rfl : na = 0 := by omega
  subst hs
  rw [if_neg (by omega)] at hv
  rw [if_pos (by omega)] at hv
  clear h hl hn hal
  obtain ⟨w1, hw1⟩ : ∃ w1, w1 = (w.alloc (.cells #[.int .u8 3, .int .u8 a1, .int .i64 a2, .int .u8 b1, .int .i64 b2, .slice Aa 0 ca, .slice Asub 0 csub] 50)).alloc (.cells #[.int .u8 0, .int .i64 0] 46) := ⟨_, rfl⟩
  have HB1 : Hid (Below w.heap.size w w1) := by rw [hw1]; exact ((Below.refl _ _).alloc (Nat.le_refl _) _).alloc (by simp) _
  have K1 : Hid (Blk w1 w.heap.size 50 #[.int .u8 3, .int .u8 a1, .int .i64 a2, .int .u8 b1, .int .i64 b2, .slice Aa 0 ca, .slice Asub 0 csub]) := by rw [hw1]; exact (Blk.new w 50 _).alloc _
  have K2 : Hid (Blk w1 (w.heap.size + 1) 46 #[.int .u8 0, .int .i64 0]) := by rw [hw1]; exact Blk.new' _ 46 _ _ (by simp)
  go_enter Try.func71, Try.ntmps71
  go_upto_region 2 with (fail)
  rw [← hw1]
  clear hw1
  obtain ⟨s0, s1, s2, s3, s4, s5, s6⟩ := K1.out.c7
  obtain ⟨o0, o1⟩ := K2.out.c2
  have z1 : w.heap.size < w1.heap.size := K1.out.lt
  have z2 : w.heap.size + 1 < w1.heap.size := K2.out.lt
  have Hw1 := HB1
  have K1w1 := K1
  have K2w1 := K2
  go_wp2_with fail
  refine (HV.out a1 a2 _).mono ?_
  rintro e w2 ⟨rfl, hb2⟩
  have Hw2 := Lib.hid (Hw1.out.trans (hb2.mono Hw1.out.size))
  have K1w2 := Lib.hid (K1w1.out.old hb2)
  have K2w2 := Lib.hid (K2w1.out.old hb2)
  clear hb2 s0 s1 s2 s3 s4 s5 s6 o0 o1 z1 z2
  obtain ⟨s0, s1, s2, s3, s4, s5, s6⟩ := K1w2.out.c7
  obtain ⟨o0, o1⟩ := K2w2.out.c2
  have z1 : w.heap.size < w2.heap.size := K1w2.out.lt
  have z2 : w.heap.size + 1 < w2.heap.size := K2w2.out.lt
  obtain ⟨bv, hbv⟩ : ∃ b, b = varB a1 := ⟨_, rfl⟩
  rw [← hbv] at hv ⊢
  clear hbv
  cases bv with
  | false =>
    obtain rfl : v = false := by rw [hv]; simp
    clear hv
    go_wp2
    go_ret
    exact ⟨by simp, Hw2.out⟩
  | true =>
    go_wp2_with fail
    refine (HV.out b1 b2 _).mono ?_
    rintro e w3 ⟨rfl, hb2⟩
    have Hw3 := Lib.hid (Hw2.out.trans (hb2.mono Hw2.out.size))
    have K1w3 := Lib.hid (K1w2.out.old hb2)
    have K2w3 := Lib.hid (K2w2.out.old hb2)
    clear hb2 s0 s1 s2 s3 s4 s5 s6 o0 o1 z1 z2
    obtain ⟨s0, s1, s2, s3, s4, s5, s6⟩ := K1w3.out.c7
    obtain ⟨o0, o1⟩ := K2w3.out.c2
    have z1 : w.heap.size < w3.heap.size := K1w3.out.lt
    have z2 : w.heap.size + 1 < w3.heap.size := K2w3.out.lt
    obtain ⟨bu, hbu⟩ : ∃ b, b = varB b1 := ⟨_, rfl⟩
    rw [← hbu] at hv ⊢
    clear hbu
    cases bu with
    | false =>
      obtain rfl : v = false := by rw [hv]; simp
      clear hv
      go_wp2
      go_ret
      exact ⟨by simp, Hw3.out⟩
    | true =>
      obtain rfl : v = true := by rw [hv]; simp
      clear hv
      go_wp2
      go_ret
      exact ⟨by simp, Hw3.out⟩
set_option maxHeartbeats 4000000 in
theorem fits_4 (Aa Asub : Option Addr) (ca lsub csub : Nat) (a1 a2 b1 b2 : Int) (xs : List (Int × Int)) (w : World) (h : ArgsAt w (.slice Aa xs.length ca) xs) (hl : xs.length ≤ 1000000000) (hx : xs.length = 0) (hs : lsub = 0):
    Calls Try.prog 71 #[.agg #[.int .u8 4, .int .u8 a1, .int .i64 a2, .int .u8 b1, .int .i64 b2, .slice Aa xs.length ca, .slice Asub lsub csub]] w (BlB w (kindF 4 a1 a2 b1 b2 xs lsub)) := by
  obtain ⟨v, hv⟩ : ∃ v, v = kindF 4 a1 a2 b1 b2 xs lsub := ⟨_, rfl⟩
  rw [← hv]
  have hal := h
  obtain ⟨na, hn⟩ : ∃ n, n = xs.length := ⟨_, rfl⟩
  unfold kindF at hv
  rw [← hn] at hv hal ⊢
  have HV := Lib.hid (fun k i wx => var84_any k i wx)
  rw [if_neg (by omega)] at hv
  obtain rfl : na = 0 := by omega
  subst hs
  rw [if_neg (by omega)] at hv
  rw [if_pos (by omega)] at hv
  clear h hl hn hal
  obtain ⟨w1, hw1⟩ : ∃ w1, w1 = (w.alloc (.cells #[.int .u8 4, .int .u8 a1, .int .i64 a2, .int .u8 b1, .int .i64 b2, .slice Aa 0 ca, .slice Asub 0 csub] 50)).alloc (.cells #[.int .u8 0, .int .i64 0] 46) := ⟨_, rfl⟩
  have HB1 : Hid (Below w.heap.size w w1) := by rw [hw1]; exact ((Below.refl _ _).alloc (Nat.le_refl _) _).alloc (by simp) _
  have K1 : Hid (Blk w1 w.heap.size 50 #[.int .u8 4, .int .u8 a1, .int .i64 a2, .int .u8 b1, .int .i64 b2, .slice Aa 0 ca, .slice Asub 0 csub]) := by rw [hw1]; exact (Blk.new w 50 _).alloc _
  have K2 : Hid (Blk w1 (w.heap.size + 1) 46 #[.int .u8 0, .int .i64 0]) := by rw [hw1]; exact Blk.new' _ 46 _ _ (by simp)
  go_enter Try.func71, Try.ntmps71
  go_upto_region 2 with (fail)
  rw [← hw1]
  clear hw1
  obtain ⟨s0, s1, s2, s3, s4, s5, s6⟩ := K1.out.c7
  obtain ⟨o0, o1⟩ := K2.out.c2
  have z1 : w.heap.size < w1.heap.size := K1.out.lt
  have z2 : w.heap.size + 1 < w1.heap.size := K2.out.lt
  have Hw1 := HB1
  have K1w1 := K1
  have K2w1 := K2
  go_wp2_with fail
  refine (HV.out a1 a2 _).mono ?_
  rintro e w2 ⟨rfl, hb2⟩
  have Hw2 := Lib.hid (Hw1.out.trans (hb2.mono Hw1.out.size))
  have K1w2 := Lib.hid (K1w1.out.old hb2)
  have K2w2 := Lib.hid (K2w1.out.old hb2)
  clear hb2 s0 s1 s2 s3 s4 s5 s6 o0 o1 z1 z2
  obtain ⟨s0, s1, s2, s3, s4, s5, s6⟩ := K1w2.out.c7
  obtain ⟨o0, o1⟩ := K2w2.out.c2
  have z1 : w.heap.size < w2.heap.size := K1w2.out.lt
  have z2 : w.heap.size + 1 < w2.heap.size := K2w2.out.lt
  obtain ⟨bv, hbv⟩ : ∃ b, b = varB a1 := ⟨_, rfl⟩
  rw [← hbv] at hv ⊢
  clear hbv
  cases bv with
  | false =>
    obtain rfl : v = false := by rw [hv]; simp
    clear hv
    go_wp2
    go_ret
    exact ⟨by simp, Hw2.out⟩
  | true =>
    go_wp2_with fail
    refine (HV.out b1 b2 _).mono ?_
    rintro e w3 ⟨rfl, hb2⟩
    have Hw3 := Lib.hid (Hw2.out.trans (hb2.mono Hw2.out.size))
    have K1w3 := Lib.hid (K1w2.out.old hb2)
    have K2w3 := Lib.hid (K2w2.out.old hb2)
    clear hb2 s0 s1 s2 s3 s4 s5 s6 o0 o1 z1 z2
    obtain ⟨s0, s1, s2, s3, s4, s5, s6⟩ := K1w3.out.c7
    obtain ⟨o0, o1⟩ := K2w3.out.c2
    have z1 : w.heap.size < w3.heap.size := K1w3.out.lt
    have z2 : w.heap.size + 1 < w3.heap.size := K2w3.out.lt
    obtain ⟨bu, hbu⟩ : ∃ b, b = varB b1 := ⟨_, rfl⟩
    rw [← hbu] at hv ⊢
    clear hbu
    cases bu with
    | false =>
      obtain rfl : v = false := by rw [hv]; simp
      clear hv
      go_wp2
      go_ret
      exact ⟨by simp, Hw3.out⟩
    | true =>
      obtain rfl : v = true := by rw [hv]; simp
      clear hv
      go_wp2
      go_ret
      exact ⟨by simp, Hw3.out⟩
end Go.Proofs.Ytpdebnecfknohaa
namespace Go.Proofs.Ytpdebnecfknohaa
open Go.RowKit
set_option linter.unusedVariables false
set_option linter.unusedSimpArgs false
set_option maxRecDepth 20000
set_option maxHeartbeats 4000000 in
theorem fits_5a (Aa Asub : Option Addr) (ca lsub csub : Nat) (a1 a2 b1 b2 : Int) (xs : List (Int × Int)) (w : World) (h : ArgsAt w (.slice Aa xs.length ca) xs) (hl : xs.length ≤ 1000000000) (hs : lsub = 0) (zz : a1 = 0 ∧ a2 = 0):
    Calls Try.prog 71 #[.agg #[.int .u8 5, .int .u8 a1, .int .i64 a2, .int .u8 b1, .int .i64 b2, .slice Aa xs.length ca, .slice Asub lsub csub]] w (BlB w (kindF 5 a1 a2 b1 b2 xs lsub)) := by
  obtain ⟨v, hv⟩ : ∃ v, v = kindF 5 a1 a2 b1 b2 xs lsub := ⟨_, rfl⟩
  rw [← hv]
  have hal := h
  obtain ⟨na, hn⟩ : ∃ n, n = xs.length := ⟨_, rfl⟩
  unfold kindF at hv
  rw [← hn] at hv hal ⊢
  have HV := Lib.hid (fun k i wx => var84_any k i wx)
  rw [if_neg (by omega)] at hv
  rw [if_neg (by omega)] at hv
  rw [if_neg (by omega)] at hv
  rw [if_pos rfl] at hv
  subst hs
  obtain ⟨A', c', hA1, hA2⟩ := hal
  injection hA1 with hA11 hA12 hA13
  subst hA11 hA13
  have HAr := Lib.hid hA2
  have HN := Lib.hid hn
  rw [← hn] at hl
  have hv1 : v = (allVar (xs.drop 0) && ((zeroB a1 a2 || varB a1) && (b1 == 3 || varB b1))) := by rw [hv, Bool.and_comm]; rfl
  have HV0 := Lib.hid hv1
  clear hv hv1 hA2 hA12
  obtain ⟨rfl, rfl⟩ := zz
  clear h hn
  obtain ⟨w1, hw1⟩ : ∃ w1, w1 = (w.alloc (.cells #[.int .u8 5, .int .u8 0, .int .i64 0, .int .u8 b1, .int .i64 b2, .slice Aa na ca, .slice Asub 0 csub] 50)).alloc (.cells #[.int .u8 0, .int .i64 0] 46) := ⟨_, rfl⟩
  have HB1 : Hid (Below w.heap.size w w1) := by rw [hw1]; exact ((Below.refl _ _).alloc (Nat.le_refl _) _).alloc (by simp) _
  have K1 : Hid (Blk w1 w.heap.size 50 #[.int .u8 5, .int .u8 0, .int .i64 0, .int .u8 b1, .int .i64 b2, .slice Aa na ca, .slice Asub 0 csub]) := by rw [hw1]; exact (Blk.new w 50 _).alloc _
  have K2 : Hid (Blk w1 (w.heap.size + 1) 46 #[.int .u8 0, .int .i64 0]) := by rw [hw1]; exact Blk.new' _ 46 _ _ (by simp)
  go_enter Try.func71, Try.ntmps71
  go_upto_region 2 with (fail)
  rw [← hw1]
  clear hw1
  obtain ⟨s0, s1, s2, s3, s4, s5, s6⟩ := K1.out.c7
  obtain ⟨o0, o1⟩ := K2.out.c2
  have z1 : w.heap.size < w1.heap.size := K1.out.lt
  have z2 : w.heap.size + 1 < w1.heap.size := K2.out.lt
  have Hw1 := HB1
  have K1w1 := K1
  have K2w1 := K2
  go_wp2_with fail
  go_loopw [4] (fun s wr => ∃ (i : Nat), i ≤ na ∧ s = .int .i64 (i : Int) ∧ Hid (v = (allVar (xs.drop i) && ((zeroB 0 0 || varB 0) && (b1 == 3 || varB b1)))) ∧ Hid (Below w.heap.size w wr) ∧ Hid (Blk wr w.heap.size 50 #[.int .u8 5, .int .u8 0, .int .i64 0, .int .u8 b1, .int .i64 b2, .slice Aa na ca, .slice Asub 0 csub]) ∧ Hid (Blk wr (w.heap.size + 1) 46 #[.int .u8 0, .int .i64 0])) (fun s _ => na - (intOf s).toNat)
  case atStart => exact ⟨0, Nat.zero_le _, rfl, HV0, HB1, K1, K2⟩
  case round =>
    clear HV0 K1w1 K2w1 Hw1 K1 K2 HB1 s0 s1 s2 s3 s4 s5 s6 o0 o1 z1 z2
    obtain ⟨i, hi, rfl, hE, hB, hK1, hK2⟩ := hrel
    obtain ⟨s0, s1, s2, s3, s4, s5, s6⟩ := hK1.out.c7
    have z1 : w.heap.size < wr.heap.size := hK1.out.lt
    by_cases hlt : i < na
    · have hkl : i < xs.length := by rw [← HN.out]; exact hlt
      have hli : (i : Int) < (na : Int) := by omega
      obtain ⟨b, o, rfl, hc⟩ := HAr.out (by omega)
      obtain ⟨d0, d1⟩ := hc i hkl
      have hbl : b < w.heap.size := World.block_lt_of_cell? w ⟨b, o + i * 2, none⟩ d0
      have e0 := cell_old hB.out hbl d0
      have e1 := cell_old hB.out hbl d1
      rw [show xs.getD i (0, 0) = xs[i] from by simp [List.getD, hkl]] at e0 e1
      have hE2 := hE.out
      rw [List.drop_eq_getElem_cons hkl] at hE2
      simp only [allVar, List.all_cons] at hE2
      generalize xs[i] = x at *
      obtain ⟨xk, xi⟩ := x
      dsimp only at e0 e1 hE2
      have hz : b < wr.heap.size := by have := hB.out.size; omega
      have HE2 := Lib.hid hE2
      clear hE2 hc d0 d1 hbl hE
      go_wp2_with fail
      refine (HV.out xk xi _).mono ?_
      rintro e w2 ⟨rfl, hb2⟩
      have HB3 := Lib.hid (hB.out.trans (hb2.mono hB.out.size))
      have K13 := Lib.hid (hK1.out.old hb2)
      have K23 := Lib.hid (hK2.out.old hb2)
      clear hb2 e0 e1 hz s0 s1 s2 s3 s4 s5 s6 z1
      obtain ⟨bv, hbv⟩ : ∃ b, b = varB xk := ⟨_, rfl⟩
      have hE3 := HE2.out
      rw [← hbv] at hE3 ⊢
      have HE3 := Lib.hid hE3
      clear HE2 hE3 hbv
      cases bv with
      | false =>
        obtain rfl : v = false := by rw [HE3.out]; rfl
        go_wp2
        go_ret
        exact ⟨rfl, HB3.out⟩
      | true =>
        have HE4 : Hid (v = (allVar (xs.drop (i + 1)) && ((zeroB 0 0 || varB 0) && (b1 == 3 || varB b1)))) := by show _ = _; rw [HE3.out]; simp [allVar]
        go_wp2
        go_roundw
        case rel => exact ⟨i + 1, by omega, by go_num, HE4, HB3, K13, K23⟩
        case measure => simp [intOf]; omega
    · obtain rfl : i = na := by omega
      have hv := hE.out
      rw [List.drop_of_length_le (by rw [← HN.out]; omega)] at hv
      have hn1 : allVar [] = true := rfl
      rw [hn1] at hv
      clear hn1 hE hlt
      have Hw1 := hB
      have K1w1 := hK1
      have K2w1 := hK2
      obtain ⟨w1, hw1⟩ : ∃ w1, w1 = wr := ⟨_, rfl⟩
      subst hw1
      obtain ⟨o0, o1⟩ := K2w1.out.c2
      have z2 : w.heap.size + 1 < w1.heap.size := K2w1.out.lt
      have hz : zeroB 0 0 = true := rfl
      rw [hz] at hv
      clear hz
      go_wp2_with fail
      refine (HV.out b1 b2 _).mono ?_
      rintro e w4 ⟨rfl, hb2⟩
      have Hw4 := Lib.hid (Hw1.out.trans (hb2.mono Hw1.out.size))
      have K1w4 := Lib.hid (K1w1.out.old hb2)
      have K2w4 := Lib.hid (K2w1.out.old hb2)
      clear hb2 s0 s1 s2 s3 s4 s5 s6 o0 o1 z1 z2
      obtain ⟨s0, s1, s2, s3, s4, s5, s6⟩ := K1w4.out.c7
      obtain ⟨o0, o1⟩ := K2w4.out.c2
      have z1 : w.heap.size < w4.heap.size := K1w4.out.lt
      have z2 : w.heap.size + 1 < w4.heap.size := K2w4.out.lt
      obtain ⟨bu, hbu⟩ : ∃ b, b = varB b1 := ⟨_, rfl⟩
      rw [← hbu] at hv ⊢
      clear hbu
      cases bu with
      | true =>
        obtain rfl : v = true := by rw [hv]; simp
        clear hv
        go_wp2
        go_ret
        exact ⟨by simp, Hw4.out⟩
      | false =>
        by_cases q3 : b1 = 3
        · subst q3
          obtain rfl : v = true := by rw [hv]; simp
          clear hv
          go_wp2
          go_ret
          exact ⟨by simp, Hw4.out⟩
        · have g3 : (b1 == 3) = false := by simpa using q3
          rw [g3] at hv
          obtain rfl : v = false := by rw [hv]; simp
          clear hv
          go_wp2
          go_ret
          exact ⟨by simp, Hw4.out⟩
end Go.Proofs.Ytpdebnecfknohaa
namespace Go.Proofs.Ytpdebnecfknohaa
open Go.RowKit
set_option linter.unusedVariables false
set_option linter.unusedSimpArgs false
set_option maxRecDepth 20000
set_option maxHeartbeats 4000000 in
theorem fits_5b (Aa Asub : Option Addr) (ca lsub csub : Nat) (a1 a2 b1 b2 : Int) (xs : List (Int × Int)) (w : World) (h : ArgsAt w (.slice Aa xs.length ca) xs) (hl : xs.length ≤ 1000000000) (hs : lsub = 0) (zz : ¬ (a1 = 0 ∧ a2 = 0)):
    Calls Try.prog 71 #[.agg #[.int .u8 5, .int .u8 a1, .int .i64 a2, .int .u8 b1, .int .i64 b2, .slice Aa xs.length ca, .slice Asub lsub csub]] w (BlB w (kindF 5 a1 a2 b1 b2 xs lsub)) := by
  obtain ⟨v, hv⟩ : ∃ v, v = kindF 5 a1 a2 b1 b2 xs lsub := ⟨_, rfl⟩
  rw [← hv]
  have hal := h
  obtain ⟨na, hn⟩ : ∃ n, n = xs.length := ⟨_, rfl⟩
  unfold kindF at hv
  rw [← hn] at hv hal ⊢
  have HV := Lib.hid (fun k i wx => var84_any k i wx)
  rw [if_neg (by omega)] at hv
  rw [if_neg (by omega)] at hv
  rw [if_neg (by omega)] at hv
  rw [if_pos rfl] at hv
  subst hs
  obtain ⟨A', c', hA1, hA2⟩ := hal
  injection hA1 with hA11 hA12 hA13
  subst hA11 hA13
  have HAr := Lib.hid hA2
  have HN := Lib.hid hn
  rw [← hn] at hl
  have hv1 : v = (allVar (xs.drop 0) && ((zeroB a1 a2 || varB a1) && (b1 == 3 || varB b1))) := by rw [hv, Bool.and_comm]; rfl
  have HV0 := Lib.hid hv1
  clear hv hv1 hA2 hA12
  clear h hn
  obtain ⟨w1, hw1⟩ : ∃ w1, w1 = (w.alloc (.cells #[.int .u8 5, .int .u8 a1, .int .i64 a2, .int .u8 b1, .int .i64 b2, .slice Aa na ca, .slice Asub 0 csub] 50)).alloc (.cells #[.int .u8 0, .int .i64 0] 46) := ⟨_, rfl⟩
  have HB1 : Hid (Below w.heap.size w w1) := by rw [hw1]; exact ((Below.refl _ _).alloc (Nat.le_refl _) _).alloc (by simp) _
  have K1 : Hid (Blk w1 w.heap.size 50 #[.int .u8 5, .int .u8 a1, .int .i64 a2, .int .u8 b1, .int .i64 b2, .slice Aa na ca, .slice Asub 0 csub]) := by rw [hw1]; exact (Blk.new w 50 _).alloc _
  have K2 : Hid (Blk w1 (w.heap.size + 1) 46 #[.int .u8 0, .int .i64 0]) := by rw [hw1]; exact Blk.new' _ 46 _ _ (by simp)
  go_enter Try.func71, Try.ntmps71
  go_upto_region 2 with (fail)
  rw [← hw1]
  clear hw1
  obtain ⟨s0, s1, s2, s3, s4, s5, s6⟩ := K1.out.c7
  obtain ⟨o0, o1⟩ := K2.out.c2
  have z1 : w.heap.size < w1.heap.size := K1.out.lt
  have z2 : w.heap.size + 1 < w1.heap.size := K2.out.lt
  have Hw1 := HB1
  have K1w1 := K1
  have K2w1 := K2
  go_wp2_with fail
  go_loopw [4] (fun s wr => ∃ (i : Nat), i ≤ na ∧ s = .int .i64 (i : Int) ∧ Hid (v = (allVar (xs.drop i) && ((zeroB a1 a2 || varB a1) && (b1 == 3 || varB b1)))) ∧ Hid (Below w.heap.size w wr) ∧ Hid (Blk wr w.heap.size 50 #[.int .u8 5, .int .u8 a1, .int .i64 a2, .int .u8 b1, .int .i64 b2, .slice Aa na ca, .slice Asub 0 csub]) ∧ Hid (Blk wr (w.heap.size + 1) 46 #[.int .u8 0, .int .i64 0])) (fun s _ => na - (intOf s).toNat)
  case atStart => exact ⟨0, Nat.zero_le _, rfl, HV0, HB1, K1, K2⟩
  case round =>
    clear HV0 K1w1 K2w1 Hw1 K1 K2 HB1 s0 s1 s2 s3 s4 s5 s6 o0 o1 z1 z2
    obtain ⟨i, hi, rfl, hE, hB, hK1, hK2⟩ := hrel
    obtain ⟨s0, s1, s2, s3, s4, s5, s6⟩ := hK1.out.c7
    have z1 : w.heap.size < wr.heap.size := hK1.out.lt
    by_cases hlt : i < na
    · have hkl : i < xs.length := by rw [← HN.out]; exact hlt
      have hli : (i : Int) < (na : Int) := by omega
      obtain ⟨b, o, rfl, hc⟩ := HAr.out (by omega)
      obtain ⟨d0, d1⟩ := hc i hkl
      have hbl : b < w.heap.size := World.block_lt_of_cell? w ⟨b, o + i * 2, none⟩ d0
      have e0 := cell_old hB.out hbl d0
      have e1 := cell_old hB.out hbl d1
      rw [show xs.getD i (0, 0) = xs[i] from by simp [List.getD, hkl]] at e0 e1
      have hE2 := hE.out
      rw [List.drop_eq_getElem_cons hkl] at hE2
      simp only [allVar, List.all_cons] at hE2
      generalize xs[i] = x at *
      obtain ⟨xk, xi⟩ := x
      dsimp only at e0 e1 hE2
      have hz : b < wr.heap.size := by have := hB.out.size; omega
      have HE2 := Lib.hid hE2
      clear hE2 hc d0 d1 hbl hE
      go_wp2_with fail
      refine (HV.out xk xi _).mono ?_
      rintro e w2 ⟨rfl, hb2⟩
      have HB3 := Lib.hid (hB.out.trans (hb2.mono hB.out.size))
      have K13 := Lib.hid (hK1.out.old hb2)
      have K23 := Lib.hid (hK2.out.old hb2)
      clear hb2 e0 e1 hz s0 s1 s2 s3 s4 s5 s6 z1
      obtain ⟨bv, hbv⟩ : ∃ b, b = varB xk := ⟨_, rfl⟩
      have hE3 := HE2.out
      rw [← hbv] at hE3 ⊢
      have HE3 := Lib.hid hE3
      clear HE2 hE3 hbv
      cases bv with
      | false =>
        obtain rfl : v = false := by rw [HE3.out]; rfl
        go_wp2
        go_ret
        exact ⟨rfl, HB3.out⟩
      | true =>
        have HE4 : Hid (v = (allVar (xs.drop (i + 1)) && ((zeroB a1 a2 || varB a1) && (b1 == 3 || varB b1)))) := by show _ = _; rw [HE3.out]; simp [allVar]
        go_wp2
        go_roundw
        case rel => exact ⟨i + 1, by omega, by go_num, HE4, HB3, K13, K23⟩
        case measure => simp [intOf]; omega
    · obtain rfl : i = na := by omega
      have hv := hE.out
      rw [List.drop_of_length_le (by rw [← HN.out]; omega)] at hv
      have hn1 : allVar [] = true := rfl
      rw [hn1] at hv
      clear hn1 hE hlt
      have Hw1 := hB
      have K1w1 := hK1
      have K2w1 := hK2
      obtain ⟨w1, hw1⟩ : ∃ w1, w1 = wr := ⟨_, rfl⟩
      subst hw1
      obtain ⟨o0, o1⟩ := K2w1.out.c2
      have z2 : w.heap.size + 1 < w1.heap.size := K2w1.out.lt
      have hz : zeroB a1 a2 = false := by simp only [zeroB, Bool.and_eq_false_iff, beq_eq_false_iff_ne]; omega
      rw [hz] at hv
      clear hz
      by_cases za : a1 = 0
      · have zb : (a2 == 0) = false := by simp only [beq_eq_false_iff_ne]; omega
        subst za
        clear zz
        go_wp2_with fail
        refine (HV.out 0 a2 _).mono ?_
        rintro e w2 ⟨rfl, hb2⟩
        have Hw2 := Lib.hid (Hw1.out.trans (hb2.mono Hw1.out.size))
        have K1w2 := Lib.hid (K1w1.out.old hb2)
        have K2w2 := Lib.hid (K2w1.out.old hb2)
        clear hb2 s0 s1 s2 s3 s4 s5 s6 o0 o1 z1 z2
        obtain ⟨s0, s1, s2, s3, s4, s5, s6⟩ := K1w2.out.c7
        obtain ⟨o0, o1⟩ := K2w2.out.c2
        have z1 : w.heap.size < w2.heap.size := K1w2.out.lt
        have z2 : w.heap.size + 1 < w2.heap.size := K2w2.out.lt
        obtain ⟨bv, hbv⟩ : ∃ b, b = varB 0 := ⟨_, rfl⟩
        rw [← hbv] at hv ⊢
        clear hbv
        cases bv with
        | false =>
          obtain rfl : v = false := by rw [hv]; simp
          clear hv
          go_wp2
          go_ret
          exact ⟨by simp, Hw2.out⟩
        | true =>
          go_wp2_with fail
          refine (HV.out b1 b2 _).mono ?_
          rintro e w4 ⟨rfl, hb2⟩
          have Hw4 := Lib.hid (Hw2.out.trans (hb2.mono Hw2.out.size))
          have K1w4 := Lib.hid (K1w2.out.old hb2)
          have K2w4 := Lib.hid (K2w2.out.old hb2)
          clear hb2 s0 s1 s2 s3 s4 s5 s6 o0 o1 z1 z2
          obtain ⟨s0, s1, s2, s3, s4, s5, s6⟩ := K1w4.out.c7
          obtain ⟨o0, o1⟩ := K2w4.out.c2
          have z1 : w.heap.size < w4.heap.size := K1w4.out.lt
          have z2 : w.heap.size + 1 < w4.heap.size := K2w4.out.lt
          obtain ⟨bu, hbu⟩ : ∃ b, b = varB b1 := ⟨_, rfl⟩
          rw [← hbu] at hv ⊢
          clear hbu
          cases bu with
          | true =>
            obtain rfl : v = true := by rw [hv]; simp
            clear hv
            go_wp2
            go_ret
            exact ⟨by simp, Hw4.out⟩
          | false =>
            by_cases q3 : b1 = 3
            · subst q3
              obtain rfl : v = true := by rw [hv]; simp
              clear hv
              go_wp2
              go_ret
              exact ⟨by simp, Hw4.out⟩
            · have g3 : (b1 == 3) = false := by simpa using q3
              rw [g3] at hv
              obtain rfl : v = false := by rw [hv]; simp
              clear hv
              go_wp2
              go_ret
              exact ⟨by simp, Hw4.out⟩
      · have zb : (a1 == 0) = false := by simp only [beq_eq_false_iff_ne]; omega
        clear zz za
        go_wp2_with fail
        refine (HV.out a1 a2 _).mono ?_
        rintro e w2 ⟨rfl, hb2⟩
        have Hw2 := Lib.hid (Hw1.out.trans (hb2.mono Hw1.out.size))
        have K1w2 := Lib.hid (K1w1.out.old hb2)
        have K2w2 := Lib.hid (K2w1.out.old hb2)
        clear hb2 s0 s1 s2 s3 s4 s5 s6 o0 o1 z1 z2
        obtain ⟨s0, s1, s2, s3, s4, s5, s6⟩ := K1w2.out.c7
        obtain ⟨o0, o1⟩ := K2w2.out.c2
        have z1 : w.heap.size < w2.heap.size := K1w2.out.lt
        have z2 : w.heap.size + 1 < w2.heap.size := K2w2.out.lt
        obtain ⟨bv, hbv⟩ : ∃ b, b = varB a1 := ⟨_, rfl⟩
        rw [← hbv] at hv ⊢
        clear hbv
        cases bv with
        | false =>
          obtain rfl : v = false := by rw [hv]; simp
          clear hv
          go_wp2
          go_ret
          exact ⟨by simp, Hw2.out⟩
        | true =>
          go_wp2_with fail
          refine (HV.out b1 b2 _).mono ?_
          rintro e w4 ⟨rfl, hb2⟩
          have Hw4 := Lib.hid (Hw2.out.trans (hb2.mono Hw2.out.size))
          have K1w4 := Lib.hid (K1w2.out.old hb2)
          have K2w4 := Lib.hid (K2w2.out.old hb2)
          clear hb2 s0 s1 s2 s3 s4 s5 s6 o0 o1 z1 z2
          obtain ⟨s0, s1, s2, s3, s4, s5, s6⟩ := K1w4.out.c7
          obtain ⟨o0, o1⟩ := K2w4.out.c2
          have z1 : w.heap.size < w4.heap.size := K1w4.out.lt
          have z2 : w.heap.size + 1 < w4.heap.size := K2w4.out.lt
          obtain ⟨bu, hbu⟩ : ∃ b, b = varB b1 := ⟨_, rfl⟩
          rw [← hbu] at hv ⊢
          clear hbu
          cases bu with
          | true =>
            obtain rfl : v = true := by rw [hv]; simp
            clear hv
            go_wp2
            go_ret
            exact ⟨by simp, Hw4.out⟩
          | false =>
            by_cases q3 : b1 = 3
            · subst q3
              obtain rfl : v = true := by rw [hv]; simp
              clear hv
              go_wp2
              go_ret
              exact ⟨by simp, Hw4.out⟩
            · have g3 : (b1 == 3) = false := by simpa using q3
              rw [g3] at hv
              obtain rfl : v = false := by rw [hv]; simp
              clear hv
              go_wp2
              go_ret
              exact ⟨by simp, Hw4.out⟩
end Go.Proofs.Ytpdebnecfknohaa
namespace Go.Proofs.Ytpdebnecfknohaa
open Go.RowKit
set_option linter.unusedVariables false
set_option linter.unusedSimpArgs false
set_option maxRecDepth 20000
set_option maxHeartbeats 4000000 in
theorem fits_6 (Aa Asub : Option Addr) (ca lsub csub : Nat) (a1 a2 b1 b2 : Int) (xs : List (Int × Int)) (w : World) (h : ArgsAt w (.slice Aa xs.length ca) xs) (hl : xs.length ≤ 1000000000) (hx : xs.length = 0) (hs : lsub = 0):
    Calls Try.prog 71 #[.agg #[.int .u8 6, .int .u8 a1, .int .i64 a2, .int .u8 b1, .int .i64 b2, .slice Aa xs.length ca, .slice Asub lsub csub]] w (BlB w (kindF 6 a1 a2 b1 b2 xs lsub)) := by
  obtain ⟨v, hv⟩ : ∃ v, v = kindF 6 a1 a2 b1 b2 xs lsub := ⟨_, rfl⟩
  rw [← hv]
  have hal := h
  obtain ⟨na, hn⟩ : ∃ n, n = xs.length := ⟨_, rfl⟩
  unfold kindF at hv
  rw [← hn] at hv hal ⊢
  have HV := Lib.hid (fun k i wx => var84_any k i wx)
  rw [if_neg (by omega)] at hv
  obtain rfl : na = 0 := by omega
  subst hs
  rw [if_neg (by omega)] at hv
  rw [if_neg (by omega)] at hv
  rw [if_neg (by omega)] at hv
  rw [if_pos (by omega)] at hv
  clear h hl hn hal
  obtain ⟨w1, hw1⟩ : ∃ w1, w1 = (w.alloc (.cells #[.int .u8 6, .int .u8 a1, .int .i64 a2, .int .u8 b1, .int .i64 b2, .slice Aa 0 ca, .slice Asub 0 csub] 50)).alloc (.cells #[.int .u8 0, .int .i64 0] 46) := ⟨_, rfl⟩
  have HB1 : Hid (Below w.heap.size w w1) := by rw [hw1]; exact ((Below.refl _ _).alloc (Nat.le_refl _) _).alloc (by simp) _
  have K1 : Hid (Blk w1 w.heap.size 50 #[.int .u8 6, .int .u8 a1, .int .i64 a2, .int .u8 b1, .int .i64 b2, .slice Aa 0 ca, .slice Asub 0 csub]) := by rw [hw1]; exact (Blk.new w 50 _).alloc _
  have K2 : Hid (Blk w1 (w.heap.size + 1) 46 #[.int .u8 0, .int .i64 0]) := by rw [hw1]; exact Blk.new' _ 46 _ _ (by simp)
  go_enter Try.func71, Try.ntmps71
  go_upto_region 2 with (fail)
  rw [← hw1]
  clear hw1
  obtain ⟨s0, s1, s2, s3, s4, s5, s6⟩ := K1.out.c7
  obtain ⟨o0, o1⟩ := K2.out.c2
  have z1 : w.heap.size < w1.heap.size := K1.out.lt
  have z2 : w.heap.size + 1 < w1.heap.size := K2.out.lt
  have Hw1 := HB1
  have K1w1 := K1
  have K2w1 := K2
  by_cases zz : a1 = 0 ∧ a2 = 0
  · obtain ⟨rfl, rfl⟩ := zz
    have hz : zeroB 0 0 = true := rfl
    rw [hz] at hv
    clear hz
    go_wp2_with fail
    refine (HV.out b1 b2 _).mono ?_
    rintro e w2 ⟨rfl, hb2⟩
    have Hw2 := Lib.hid (Hw1.out.trans (hb2.mono Hw1.out.size))
    have K1w2 := Lib.hid (K1w1.out.old hb2)
    have K2w2 := Lib.hid (K2w1.out.old hb2)
    clear hb2 s0 s1 s2 s3 s4 s5 s6 o0 o1 z1 z2
    obtain ⟨s0, s1, s2, s3, s4, s5, s6⟩ := K1w2.out.c7
    obtain ⟨o0, o1⟩ := K2w2.out.c2
    have z1 : w.heap.size < w2.heap.size := K1w2.out.lt
    have z2 : w.heap.size + 1 < w2.heap.size := K2w2.out.lt
    obtain ⟨bv, hbv⟩ : ∃ b, b = varB b1 := ⟨_, rfl⟩
    rw [← hbv] at hv ⊢
    clear hbv
    cases bv with
    | false =>
      obtain rfl : v = false := by rw [hv]; simp
      clear hv
      go_wp2
      go_ret
      exact ⟨by simp, Hw2.out⟩
    | true =>
      obtain rfl : v = true := by rw [hv]; simp
      clear hv
      go_wp2
      go_ret
      exact ⟨by simp, Hw2.out⟩
  · have hz : zeroB a1 a2 = false := by simp only [zeroB, Bool.and_eq_false_iff, beq_eq_false_iff_ne]; omega
    rw [hz] at hv
    clear hz
    by_cases za : a1 = 0
    · have zb : (a2 == 0) = false := by simp only [beq_eq_false_iff_ne]; omega
      subst za
      clear zz
      obtain rfl : v = false := by rw [hv]; simp
      clear hv
      go_wp2
      go_ret
      exact ⟨by simp, Hw1.out⟩
    · have zb : (a1 == 0) = false := by simp only [beq_eq_false_iff_ne]; omega
      clear zz za
      obtain rfl : v = false := by rw [hv]; simp
      clear hv
      go_wp2
      go_ret
      exact ⟨by simp, Hw1.out⟩
set_option maxHeartbeats 4000000 in
theorem fits_7 (Aa Asub : Option Addr) (ca lsub csub : Nat) (a1 a2 b1 b2 : Int) (xs : List (Int × Int)) (w : World) (h : ArgsAt w (.slice Aa xs.length ca) xs) (hl : xs.length ≤ 1000000000) (hx : xs.length = 0):
    Calls Try.prog 71 #[.agg #[.int .u8 7, .int .u8 a1, .int .i64 a2, .int .u8 b1, .int .i64 b2, .slice Aa xs.length ca, .slice Asub lsub csub]] w (BlB w (kindF 7 a1 a2 b1 b2 xs lsub)) := by
  obtain ⟨v, hv⟩ : ∃ v, v = kindF 7 a1 a2 b1 b2 xs lsub := ⟨_, rfl⟩
  rw [← hv]
  have hal := h
  obtain ⟨na, hn⟩ : ∃ n, n = xs.length := ⟨_, rfl⟩
  unfold kindF at hv
  rw [← hn] at hv hal ⊢
  have HV := Lib.hid (fun k i wx => var84_any k i wx)
  rw [if_neg (by omega)] at hv
  obtain rfl : na = 0 := by omega
  rw [if_neg (by omega)] at hv
  rw [if_neg (by omega)] at hv
  rw [if_neg (by omega)] at hv
  rw [if_neg (by omega)] at hv
  rw [if_pos rfl] at hv
  clear h hl hn hal
  obtain ⟨w1, hw1⟩ : ∃ w1, w1 = (w.alloc (.cells #[.int .u8 7, .int .u8 a1, .int .i64 a2, .int .u8 b1, .int .i64 b2, .slice Aa 0 ca, .slice Asub lsub csub] 50)).alloc (.cells #[.int .u8 0, .int .i64 0] 46) := ⟨_, rfl⟩
  have HB1 : Hid (Below w.heap.size w w1) := by rw [hw1]; exact ((Below.refl _ _).alloc (Nat.le_refl _) _).alloc (by simp) _
  have K1 : Hid (Blk w1 w.heap.size 50 #[.int .u8 7, .int .u8 a1, .int .i64 a2, .int .u8 b1, .int .i64 b2, .slice Aa 0 ca, .slice Asub lsub csub]) := by rw [hw1]; exact (Blk.new w 50 _).alloc _
  have K2 : Hid (Blk w1 (w.heap.size + 1) 46 #[.int .u8 0, .int .i64 0]) := by rw [hw1]; exact Blk.new' _ 46 _ _ (by simp)
  go_enter Try.func71, Try.ntmps71
  go_upto_region 2 with (fail)
  rw [← hw1]
  clear hw1
  obtain ⟨s0, s1, s2, s3, s4, s5, s6⟩ := K1.out.c7
  obtain ⟨o0, o1⟩ := K2.out.c2
  have z1 : w.heap.size < w1.heap.size := K1.out.lt
  have z2 : w.heap.size + 1 < w1.heap.size := K2.out.lt
  have Hw1 := HB1
  have K1w1 := K1
  have K2w1 := K2
  by_cases zz : a1 = 0 ∧ a2 = 0
  · obtain ⟨rfl, rfl⟩ := zz
    have hz : zeroB 0 0 = true := rfl
    rw [hz] at hv
    clear hz
    by_cases zz : b1 = 0 ∧ b2 = 0
    · obtain ⟨rfl, rfl⟩ := zz
      have hz : zeroB 0 0 = true := rfl
      rw [hz] at hv
      clear hz
      obtain rfl : v = true := by rw [hv]; simp
      clear hv
      go_wp2
      go_ret
      exact ⟨by simp, Hw1.out⟩
    · have hz : zeroB b1 b2 = false := by simp only [zeroB, Bool.and_eq_false_iff, beq_eq_false_iff_ne]; omega
      rw [hz] at hv
      clear hz
      by_cases za : b1 = 0
      · have zb : (b2 == 0) = false := by simp only [beq_eq_false_iff_ne]; omega
        subst za
        clear zz
        obtain rfl : v = false := by rw [hv]; simp
        clear hv
        go_wp2
        go_ret
        exact ⟨by simp, Hw1.out⟩
      · have zb : (b1 == 0) = false := by simp only [beq_eq_false_iff_ne]; omega
        clear zz za
        obtain rfl : v = false := by rw [hv]; simp
        clear hv
        go_wp2
        go_ret
        exact ⟨by simp, Hw1.out⟩
  · have hz : zeroB a1 a2 = false := by simp only [zeroB, Bool.and_eq_false_iff, beq_eq_false_iff_ne]; omega
    rw [hz] at hv
    clear hz
    by_cases za : a1 = 0
    · have zb : (a2 == 0) = false := by simp only [beq_eq_false_iff_ne]; omega
      subst za
      clear zz
      obtain rfl : v = false := by rw [hv]; simp
      clear hv
      go_wp2
      go_ret
      exact ⟨by simp, Hw1.out⟩
    · have zb : (a1 == 0) = false := by simp only [beq_eq_false_iff_ne]; omega
      clear zz za
      obtain rfl : v = false := by rw [hv]; simp
      clear hv
      go_wp2
      go_ret
      exact ⟨by simp, Hw1.out⟩
end Go.Proofs.Ytpdebnecfknohaa
namespace Go.Proofs.Ytpdebnecfknohaa
open Go.RowKit
set_option linter.unusedVariables false
set_option linter.unusedSimpArgs false
set_option maxRecDepth 20000
theorem fits_any (Aa Asub : Option Addr) (ca lsub csub : Nat) (k a1 a2 b1 b2 : Int) (xs : List (Int × Int)) (w : World) (h : ArgsAt w (.slice Aa xs.length ca) xs) (hl : xs.length ≤ 1000000000) :
    Calls Try.prog 71 #[.agg #[.int .u8 k, .int .u8 a1, .int .i64 a2, .int .u8 b1, .int .i64 b2, .slice Aa xs.length ca, .slice Asub lsub csub]] w (BlB w (kindF k a1 a2 b1 b2 xs lsub)) := by
  by_cases hc : k < 1 ∨ 7 < k ∨ (k ≠ 7 ∧ 0 < lsub) ∨ (k ≠ 5 ∧ 0 < xs.length)
  · exact fits_early Aa Asub ca lsub csub k a1 a2 b1 b2 xs w h hl hc
  rcases (show k = 1 ∨ k = 2 ∨ k = 3 ∨ k = 4 ∨ k = 5 ∨ k = 6 ∨ k = 7 by omega) with rfl | rfl | rfl | rfl | rfl | rfl | rfl
  · exact fits_1 Aa Asub ca lsub csub a1 a2 b1 b2 xs w h hl (by omega) (by omega)
  · exact fits_2 Aa Asub ca lsub csub a1 a2 b1 b2 xs w h hl (by omega) (by omega)
  · exact fits_3 Aa Asub ca lsub csub a1 a2 b1 b2 xs w h hl (by omega) (by omega)
  · exact fits_4 Aa Asub ca lsub csub a1 a2 b1 b2 xs w h hl (by omega) (by omega)
  · by_cases zz : a1 = 0 ∧ a2 = 0
    · exact fits_5a Aa Asub ca lsub csub a1 a2 b1 b2 xs w h hl (by omega) zz
    · exact fits_5b Aa Asub ca lsub csub a1 a2 b1 b2 xs w h hl (by omega) zz
  · exact fits_6 Aa Asub ca lsub csub a1 a2 b1 b2 xs w h hl (by omega) (by omega)
  · exact fits_7 Aa Asub ca lsub csub a1 a2 b1 b2 xs w h hl (by omega)
end Go.Proofs.Ytpdebnecfknohaa
namespace Go.Proofs.Ytpdebnecfknohaa
open Go.RowKit
set_option linter.unusedVariables false
set_option linter.unusedSimpArgs false
set_option maxRecDepth 20000
def hereF (nl ng nf ns : Nat) (k i : Int) : Bool := if k = 0 then withF i 1 else thereF nl ng nf ns k i
set_option maxHeartbeats 4000000 in
theorem here_any (As Ag Af Ae Al At Ab : Option Addr) (ls cs ng cg nf cf ne ce nl cl ns ct lb cb : Nat) (fn fp k i : Int) (w : World) (h0 : 0 ≤ k) (h4 : k ≤ 4) :
    Calls Try.prog 72 #[.agg #[.slice As ls cs, .slice Ag ng cg, .slice Af nf cf, .slice Ae ne ce], .agg #[.int .i64 fn, .int .i64 fp, .slice Al nl cl, .slice At ns ct, .slice Ab lb cb], .agg #[.int .u8 k, .int .i64 i]] w (BlB w (hereF nl ng nf ns k i)) := by
  obtain ⟨m, hm⟩ : ∃ m : Nat, m = if k = 0 then 1 else if k = 1 then nl else if k = 2 then ng else if k = 3 then nf else ns := ⟨_, rfl⟩
  have hv : hereF nl ng nf ns k i = withF i m := by
    unfold hereF thereF
    rw [hm]
    rcases (show k = 0 ∨ k = 1 ∨ k = 2 ∨ k = 3 ∨ k = 4 by omega) with rfl | rfl | rfl | rfl | rfl <;> rfl
  rw [hv]
  clear hv
  obtain ⟨w1, hw1⟩ : ∃ w1, w1 = ((w.alloc (.cells #[.slice As ls cs, .slice Ag ng cg, .slice Af nf cf, .slice Ae ne ce] 30)).alloc (.cells #[.int .i64 fn, .int .i64 fp, .slice Al nl cl, .slice At ns ct, .slice Ab lb cb] 40)).alloc (.cells #[.int .u8 k, .int .i64 i] 46) := ⟨_, rfl⟩
  have HB1 : Hid (Below w.heap.size w w1) := by rw [hw1]; exact (((Below.refl _ _).alloc (Nat.le_refl _) _).alloc (by simp) _).alloc (by simp; omega) _
  have K1 : Hid (Blk w1 w.heap.size 30 #[.slice As ls cs, .slice Ag ng cg, .slice Af nf cf, .slice Ae ne ce]) := by rw [hw1]; exact ((Blk.new w 30 _).alloc _).alloc _
  have K2 : Hid (Blk w1 (w.heap.size + 1) 40 #[.int .i64 fn, .int .i64 fp, .slice Al nl cl, .slice At ns ct, .slice Ab lb cb]) := by rw [hw1]; exact (Blk.new' _ 40 _ _ (by simp)).alloc _
  have K3 : Hid (Blk w1 (w.heap.size + 1 + 1) 46 #[.int .u8 k, .int .i64 i]) := by rw [hw1]; exact Blk.new' _ 46 _ _ (by simp)
  go_enter Try.func72, Try.ntmps72
  go_upto_region 1 with (fail)
  rw [← hw1]
  clear hw1
  obtain ⟨m0, m1, m2, m3⟩ := K1.out.c4
  obtain ⟨f0, f1, f2, f3, f4⟩ := K2.out.c5
  obtain ⟨r0, r1⟩ := K3.out.c2
  have z1 : w.heap.size < w1.heap.size := K1.out.lt
  have z2 : w.heap.size + 1 < w1.heap.size := K2.out.lt
  have z3 : w.heap.size + 1 + 1 < w1.heap.size := K3.out.lt
  have HB2 : Hid (Below w.heap.size w (w1.alloc (.cells #[.int .i64 1, .int .i64 (nl : Int), .int .i64 (ng : Int), .int .i64 (nf : Int), .int .i64 (ns : Int)] 3))) := HB1.out.alloc HB1.out.size _
  by_cases q0 : 0 ≤ i
  · by_cases q1 : i < (m : Int)
    · have e : withF i m = true := by simp [withF, q0, q1]
      clear e
      rcases (show k = 0 ∨ k = 1 ∨ k = 2 ∨ k = 3 ∨ k = 4 by omega) with rfl | rfl | rfl | rfl | rfl
      all_goals simp at hm
      all_goals subst hm
      all_goals go_wp2
      all_goals go_ret
      all_goals exact ⟨by first | (simp [withF, q0, q1]; done) | (simp [withF, q0, q1] at *; omega), HB2.out⟩
    · have e : withF i m = false := by simp [withF, q1]
      clear e
      rcases (show k = 0 ∨ k = 1 ∨ k = 2 ∨ k = 3 ∨ k = 4 by omega) with rfl | rfl | rfl | rfl | rfl
      all_goals simp at hm
      all_goals subst hm
      all_goals go_wp2
      all_goals go_ret
      all_goals exact ⟨by first | (simp [withF, q0, q1]; done) | (simp [withF, q0, q1] at *; omega), HB2.out⟩
  · have e : withF i m = false := by simp [withF, q0]
    clear e
    rcases (show k = 0 ∨ k = 1 ∨ k = 2 ∨ k = 3 ∨ k = 4 by omega) with rfl | rfl | rfl | rfl | rfl
    all_goals simp at hm
    all_goals subst hm
    all_goals go_wp2
    all_goals go_ret
    all_goals exact ⟨by first | (simp [withF, q0]; done) | (simp [withF]; omega), HB2.out⟩
end Go.Proofs.Ytpdebnecfknohaa
namespace Go.Proofs.Ytpdebnecfknohaa
open Go.RowKit
set_option linter.unusedVariables false
set_option linter.unusedSimpArgs false
set_option maxRecDepth 20000
/-- Of no kind greater than 4. -/
def It.Low (x : It) : Prop := 0 ≤ x.a1 ∧ x.a1 ≤ 4 ∧ 0 ≤ x.b1 ∧ x.b1 ≤ 4 ∧ ∀ p ∈ x.xs, 0 ≤ p.1 ∧ p.1 ≤ 4
def brkF (L : List Fn) (nl ng ns : Nat) (x : It) : Int :=
  if 8 < x.deep then 6 else if kindF x.k x.a1 x.a2 x.b1 x.b2 x.xs x.sub.len = false then 7
  else if hereF nl ng L.length ns x.a1 x.a2 = false then 8
  else if hereF nl ng L.length ns x.b1 x.b2 = false then 8
  else if (x.xs.all fun p => hereF nl ng L.length ns p.1 p.2) = false then 8
  else if x.k = 5 then (if 6 < x.xs.length then 9 else if x.b1 = 3 ∧ (x.xs.length : Int) ≠ ((L[x.b2.toNat]?).map Fn.params).getD 0 then 9 else 0) else 0
theorem there_here (nl ng nf ns : Nat) (k i : Int) (h : k = 0 → i = 0) : hereF nl ng nf ns k i = thereF nl ng nf ns k i := by
  unfold hereF
  split
  · rename_i h0
    rw [h h0, h0]; rfl
  · rfl
theorem all_congr' {α : Type} {l : List α} {f g : α → Bool} (h : ∀ x ∈ l, f x = g x) : l.all f = l.all g := by
  induction l with
  | nil => rfl
  | cons a l ih => rw [List.all_cons, List.all_cons, h a List.mem_cons_self, ih fun x hx => h x (List.mem_cons_of_mem _ hx)]
theorem brk_stmt (L : List Fn) (nl ng ns : Nat) (x : It) : brkF L nl ng ns x = stmtF L nl ng ns x := by
  obtain ⟨deep, k, a1, a2, b1, b2, xs, sub⟩ := x
  unfold brkF stmtF
  dsimp only
  by_cases h8 : 8 < deep
  · rw [if_pos h8, if_pos h8]
  rw [if_neg h8, if_neg h8]
  by_cases hk : kindF k a1 a2 b1 b2 xs sub.len = false
  · rw [if_pos hk, if_pos hk]
  rw [if_neg hk, if_neg hk]
  have hk' : kindF k a1 a2 b1 b2 xs sub.len = true := by simpa using hk
  have hx : (k = 5 ∧ allVar xs = true) ∨ xs = [] := by
    unfold kindF at hk'
    split at hk'
    · cases hk'
    · rename_i hc
      by_cases h5 : k = 5
      · subst h5
        left
        simp at hk'
        exact ⟨rfl, hk'.2⟩
      · right
        have : xs.length = 0 := by omega
        exact List.eq_nil_of_length_eq_zero this
  have hab : (a1 = 0 → a2 = 0) ∧ (b1 = 0 → b2 = 0) := by
    unfold kindF at hk'
    split at hk'
    · cases hk'
    · generalize allVar xs = av at hk'
      clear hx hk
      by_cases q1 : k = 1
      · subst q1; simp [varB, objB] at hk'; omega
      by_cases q2 : k = 2 ∨ k = 3 ∨ k = 4
      · rw [if_neg q1, if_pos q2] at hk'; simp [varB] at hk'; omega
      by_cases q5 : k = 5
      · rw [if_neg q1, if_neg q2, if_pos q5] at hk'; simp [varB, zeroB] at hk'; omega
      by_cases q6 : k = 6
      · rw [if_neg q1, if_neg q2, if_neg q5, if_pos q6] at hk'; simp [varB, zeroB] at hk'; omega
      by_cases q7 : k = 7
      · rw [if_neg q1, if_neg q2, if_neg q5, if_neg q6, if_pos q7] at hk'; simp [zeroB] at hk'; omega
      rw [if_neg q1, if_neg q2, if_neg q5, if_neg q6, if_neg q7] at hk'; cases hk'
  obtain ⟨ha, hb⟩ := hab
  have hxs : (xs.all fun p => hereF nl ng L.length ns p.1 p.2) = (xs.all fun p => thereF nl ng L.length ns p.1 p.2) := by
    rcases hx with ⟨_, hx⟩ | rfl
    · refine all_congr' fun p hp => there_here _ _ _ _ _ _ fun h0 => ?_
      have := (List.all_eq_true.1 hx) p hp
      rw [h0] at this
      simp [varB] at this
    · rfl
  rw [hxs, there_here _ _ _ _ _ _ ha, there_here _ _ _ _ _ _ hb]
  unfold refsF arityF
  generalize thereF nl ng L.length ns a1 a2 = A
  generalize thereF nl ng L.length ns b1 b2 = B
  generalize (xs.all fun p => thereF nl ng L.length ns p.1 p.2) = C
  cases A <;> cases B <;> cases C <;> simp
  rcases hx with ⟨h5, _⟩ | h0
  · subst h5
    by_cases h6 : 6 < xs.length
    · have h6' : ¬ xs.length ≤ 6 := by omega
      simp [h6, h6']
    · have h6' : xs.length ≤ 6 := by omega
      simp only [h6, h6', if_false]
      by_cases h3 : b1 = 3
      · by_cases hq : (xs.length : Int) = ((L[b2.toNat]?).map Fn.params).getD 0 <;> simp [h3, hq]
      · simp [h3]
  · subst h0
    by_cases h5 : k = 5
    · subst h5
      by_cases h3 : b1 = 3
      · simp [h3]
      · simp [h3]
    · simp [h5]
set_option maxHeartbeats 8000000 in
theorem broken_any (As Ag Af Ae Al At Ab Aa Asub : Option Addr) (ls cs ng cg cf ne ce nl cl ns ct lb cb ca csub : Nat) (fn fp N : Int) (L : List Fn) (x : It) (w : World) (h : ArgsAt w (.slice Aa x.xs.length ca) x.xs) (hl : x.xs.length ≤ 1000000000) (hd : x.deep ≤ 1000000000) (hF : FnsS (fun _ => True) w Af L) (hlow : x.Low) :
    Calls Try.prog 43 #[.agg #[.slice As ls cs, .slice Ag ng cg, .slice Af L.length cf, .slice Ae ne ce], .agg #[.int .i64 fn, .int .i64 fp, .slice Al nl cl, .slice At ns ct, .slice Ab lb cb], .agg #[.int .i64 N, .int .i64 (x.deep : Int), .int .u8 x.k, .int .u8 x.a1, .int .i64 x.a2, .int .u8 x.b1, .int .i64 x.b2, .slice Aa x.xs.length ca, .slice Asub x.sub.len csub]] w (InB w (stmtF L nl ng ns x)) := by
  rw [← brk_stmt]
  obtain ⟨v, hv⟩ : ∃ v, v = brkF L nl ng ns x := ⟨_, rfl⟩
  rw [← hv]
  unfold brkF at hv
  obtain ⟨deep, k, a1, a2, b1, b2, xs, sub⟩ := x
  obtain ⟨ha0, ha4, hb0, hb4, hxl⟩ := hlow
  dsimp only at *
  have hK := fun wx (hx : Below w.heap.size w wx) => fits_any Aa Asub ca sub.len csub k a1 a2 b1 b2 xs wx (h.old hx) hl
  have hHe := fun k i wx (h0 : 0 ≤ k) (h4 : k ≤ 4) => here_any As Ag Af Ae Al At Ab ls cs ng cg L.length cf ne ce nl cl ns ct lb cb fn fp k i wx h0 h4
  have hth : hereF nl ng L.length ns b1 b2 = true → b1 = 3 → 0 ≤ b2 ∧ b2 < L.length := fun h1 h3 => by
    subst h3
    have : withF b2 L.length = true := h1
    simpa [withF] using this
  obtain ⟨A', c', hA1, hA2⟩ := h
  injection hA1 with hA11 hA12 hA13
  subst hA11 hA13
  clear hA12
  have HAr := Lib.hid hA2
  have HF := Lib.hid hF
  obtain ⟨na, hn⟩ : ∃ n, n = xs.length := ⟨_, rfl⟩
  obtain ⟨nf, hnf⟩ : ∃ n, n = L.length := ⟨_, rfl⟩
  obtain ⟨lsub, hls⟩ : ∃ n, n = sub.len := ⟨_, rfl⟩
  rw [← hn] at hK hv hl ⊢
  rw [← hnf] at hHe hv hth ⊢
  rw [← hls] at hK hv ⊢
  have HNF := Lib.hid hnf
  have HNA := Lib.hid hn
  obtain ⟨bk, hbk⟩ : ∃ b, b = kindF k a1 a2 b1 b2 xs lsub := ⟨_, rfl⟩
  obtain ⟨bA, hbA⟩ : ∃ b, b = hereF nl ng nf ns a1 a2 := ⟨_, rfl⟩
  obtain ⟨bB, hbB⟩ : ∃ b, b = hereF nl ng nf ns b1 b2 := ⟨_, rfl⟩
  rw [← hbk] at hK hv
  have hHA := fun wx => hHe a1 a2 wx ha0 ha4
  have hHB := fun wx => hHe b1 b2 wx hb0 hb4
  rw [← hbA] at hHA hv
  rw [← hbB] at hHB hv hth
  have HK := Lib.hid hK
  have HA := Lib.hid hHA
  have HB := Lib.hid hHB
  have HE := Lib.hid hHe
  have HV := Lib.hid hv
  have HTh := Lib.hid hth
  have HXL := Lib.hid hxl
  have HV0 : Hid ((xs.all fun p => hereF nl ng nf ns p.1 p.2) = (xs.drop 0).all fun p => hereF nl ng nf ns p.1 p.2) := rfl
  clear hK hHA hHB hHe hv hth hF hbk hbA hbB hn hnf hls hA2 hxl ha0 ha4 hb0 hb4
  obtain ⟨w1, hw1⟩ : ∃ w1, w1 = (((w.alloc (.cells #[.slice As ls cs, .slice Ag ng cg, .slice Af nf cf, .slice Ae ne ce] 30)).alloc (.cells #[.int .i64 fn, .int .i64 fp, .slice Al nl cl, .slice At ns ct, .slice Ab lb cb] 40)).alloc (.cells #[.int .i64 N, .int .i64 (deep : Int), .int .u8 k, .int .u8 a1, .int .i64 a2, .int .u8 b1, .int .i64 b2, .slice Aa na ca, .slice Asub lsub csub] 90)).alloc (.cells #[.int .u8 k, .int .u8 a1, .int .i64 a2, .int .u8 b1, .int .i64 b2, .slice Aa na ca, .slice Asub lsub csub] 50) := ⟨_, rfl⟩
  have HB1 : Hid (Below w.heap.size w w1) := by rw [hw1]; exact ((((Below.refl _ _).alloc (Nat.le_refl _) _).alloc (by simp) _).alloc (by simp; omega) _).alloc (by simp; omega) _
  have K1 : Hid (Blk w1 w.heap.size 30 #[.slice As ls cs, .slice Ag ng cg, .slice Af nf cf, .slice Ae ne ce]) := by rw [hw1]; exact (((Blk.new w 30 _).alloc _).alloc _).alloc _
  have K2 : Hid (Blk w1 (w.heap.size + 1) 40 #[.int .i64 fn, .int .i64 fp, .slice Al nl cl, .slice At ns ct, .slice Ab lb cb]) := by rw [hw1]; exact ((Blk.new' _ 40 _ _ (by simp)).alloc _).alloc _
  have K3 : Hid (Blk w1 (w.heap.size + 1 + 1) 90 #[.int .i64 N, .int .i64 (deep : Int), .int .u8 k, .int .u8 a1, .int .i64 a2, .int .u8 b1, .int .i64 b2, .slice Aa na ca, .slice Asub lsub csub]) := by rw [hw1]; exact (Blk.new' _ 90 _ _ (by simp)).alloc _
  have K4 : Hid (Blk w1 (w.heap.size + 1 + 1 + 1) 50 #[.int .u8 k, .int .u8 a1, .int .i64 a2, .int .u8 b1, .int .i64 b2, .slice Aa na ca, .slice Asub lsub csub]) := by rw [hw1]; exact Blk.new' _ 50 _ _ (by simp)
  go_enter Try.func43, Try.ntmps43
  go_upto_region 2 with (fail)
  rw [← hw1]
  clear hw1
  obtain ⟨s0, s1, s2, s3, s4, s5, s6, s7, s8⟩ := K3.out.c9
  have z3 : w.heap.size + 1 + 1 < w1.heap.size := K3.out.lt
  by_cases h8 : 8 < deep
  · have h8i : (8 : Int) < (deep : Int) := by omega
    obtain rfl : v = 6 := by rw [HV.out, if_pos h8]
    clear HV
    go_wp2
    go_ret
    exact ⟨rfl, HB1.out⟩
  have h8i : ¬ (8 : Int) < (deep : Int) := by omega
  have hv := HV.out
  rw [if_neg h8] at hv
  have HV2 := Lib.hid hv
  clear HV hv
  go_upto_region 4 with (fail)
  clear s0 s1 s2 s3 s4 s5 s6 s7 s8 z3 K3
  obtain ⟨t0, t1, t2, t3, t4, t5, t6⟩ := K4.out.c7
  have z4 : w.heap.size + 1 + 1 + 1 < w1.heap.size := K4.out.lt
  go_wp2_with fail
  refine (HK.out _ HB1.out).mono ?_
  rintro e w2 ⟨rfl, hb2⟩
  have HB2 := Lib.hid (HB1.out.trans (hb2.mono HB1.out.size))
  have L1 := Lib.hid (K1.out.old hb2)
  have L2 := Lib.hid (K2.out.old hb2)
  have L4 := Lib.hid (K4.out.old hb2)
  clear hb2 t0 t1 t2 t3 t4 t5 t6 z4 K1 K2 K4
  cases bk with
  | false =>
    obtain rfl : v = 7 := by simpa using HV2.out
    clear HV2
    go_wp2
    go_ret
    exact ⟨rfl, HB2.out⟩
  | true =>
    have hv := HV2.out
    rw [if_neg (by simp)] at hv
    have HV3 := Lib.hid hv
    clear HV2 hv
    obtain ⟨m0, m1, m2, m3⟩ := L1.out.c4
    obtain ⟨f0, f1, f2, f3, f4⟩ := L2.out.c5
    obtain ⟨t0, t1, t2, t3, t4, t5, t6⟩ := L4.out.c7
    have z1 : w.heap.size < w2.heap.size := L1.out.lt
    have z2 : w.heap.size + 1 < w2.heap.size := L2.out.lt
    have z4 : w.heap.size + 1 + 1 + 1 < w2.heap.size := L4.out.lt
    go_wp2_with fail
    refine (HA.out _).mono ?_
    rintro e w3 ⟨rfl, hb3⟩
    have HB3 := Lib.hid (HB2.out.trans (hb3.mono HB2.out.size))
    have M1 := Lib.hid (L1.out.old hb3)
    have M2 := Lib.hid (L2.out.old hb3)
    have M4 := Lib.hid (L4.out.old hb3)
    clear hb3 m0 m1 m2 m3 f0 f1 f2 f3 f4 t0 t1 t2 t3 t4 t5 t6 z1 z2 z4 L1 L2 L4
    cases bA with
    | false =>
      obtain rfl : v = 8 := by simpa using HV3.out
      clear HV3
      go_wp2
      go_ret
      exact ⟨rfl, HB3.out⟩
    | true =>
      have hv := HV3.out
      rw [if_neg (by simp)] at hv
      have HV4 := Lib.hid hv
      clear HV3 hv
      obtain ⟨m0, m1, m2, m3⟩ := M1.out.c4
      obtain ⟨f0, f1, f2, f3, f4⟩ := M2.out.c5
      obtain ⟨t0, t1, t2, t3, t4, t5, t6⟩ := M4.out.c7
      have z1 : w.heap.size < w3.heap.size := M1.out.lt
      have z2 : w.heap.size + 1 < w3.heap.size := M2.out.lt
      have z4 : w.heap.size + 1 + 1 + 1 < w3.heap.size := M4.out.lt
      go_wp2_with fail
      refine (HB.out _).mono ?_
      rintro e w4 ⟨rfl, hb4⟩
      have HB4 := Lib.hid (HB3.out.trans (hb4.mono HB3.out.size))
      have N1 := Lib.hid (M1.out.old hb4)
      have N2 := Lib.hid (M2.out.old hb4)
      have N4 := Lib.hid (M4.out.old hb4)
      clear hb4 m0 m1 m2 m3 f0 f1 f2 f3 f4 t0 t1 t2 t3 t4 t5 t6 z1 z2 z4 M1 M2 M4
      cases bB with
      | false =>
        obtain rfl : v = 8 := by simpa using HV4.out
        clear HV4
        go_wp2
        go_ret
        exact ⟨rfl, HB4.out⟩
      | true =>
        have hv := HV4.out
        rw [if_neg (by simp)] at hv
        rw [HV0.out] at hv
        obtain ⟨G, hG⟩ : ∃ G : Bool → Int, G = fun c => if c = false then 8 else if k = 5 then (if 6 < na then 9 else if b1 = 3 ∧ (na : Int) ≠ ((L[b2.toNat]?).map Fn.params).getD 0 then 9 else 0) else 0 := ⟨_, rfl⟩
        have HV5 : Hid (v = G ((xs.drop 0).all fun p => hereF nl ng nf ns p.1 p.2)) := by show _ = _; rw [hG]; exact hv
        have HG0 : Hid (G false = 8) := by show _ = _; rw [hG]; rfl
        have HG1 : Hid (G true = if k = 5 then (if 6 < na then 9 else if b1 = 3 ∧ (na : Int) ≠ ((L[b2.toNat]?).map Fn.params).getD 0 then 9 else 0) else 0) := by show _ = _; rw [hG]; rfl
        clear HV4 hv HV0 hG
        go_upto_region 8 with (fail)
        go_wp2_with fail
        go_loopw [8] (fun s wr => ∃ (i : Nat), i ≤ na ∧ s = .int .i64 (i : Int) ∧ Hid (v = G ((xs.drop i).all fun p => hereF nl ng nf ns p.1 p.2)) ∧ Hid (Below w.heap.size w wr) ∧ Hid (Blk wr w.heap.size 30 #[.slice As ls cs, .slice Ag ng cg, .slice Af nf cf, .slice Ae ne ce]) ∧ Hid (Blk wr (w.heap.size + 1) 40 #[.int .i64 fn, .int .i64 fp, .slice Al nl cl, .slice At ns ct, .slice Ab lb cb]) ∧ Hid (Blk wr (w.heap.size + 1 + 1 + 1) 50 #[.int .u8 k, .int .u8 a1, .int .i64 a2, .int .u8 b1, .int .i64 b2, .slice Aa na ca, .slice Asub lsub csub])) (fun s _ => na - (intOf s).toNat)
        case atStart => exact ⟨0, Nat.zero_le _, rfl, HV5, HB4, N1, N2, N4⟩
        case round =>
          clear HV5 HB4 N1 N2 N4 HB3 HB2 HB1 HK HA HB
          obtain ⟨i, hi, rfl, hE, hB, P1, P2, P4⟩ := hrel
          obtain ⟨m0, m1, m2, m3⟩ := P1.out.c4
          obtain ⟨f0, f1, f2, f3, f4⟩ := P2.out.c5
          obtain ⟨t0, t1, t2, t3, t4, t5, t6⟩ := P4.out.c7
          have z1 : w.heap.size < wr.heap.size := P1.out.lt
          have z2 : w.heap.size + 1 < wr.heap.size := P2.out.lt
          have z4 : w.heap.size + 1 + 1 + 1 < wr.heap.size := P4.out.lt
          by_cases hlt : i < na
          · have hkl : i < xs.length := by rw [← HNA.out]; exact hlt
            have hli : (i : Int) < (na : Int) := by omega
            obtain ⟨b, o, rfl, hc⟩ := HAr.out (by omega)
            obtain ⟨d0, d1⟩ := hc i hkl
            have hbl : b < w.heap.size := World.block_lt_of_cell? w ⟨b, o + i * 2, none⟩ d0
            have e0 := cell_old hB.out hbl d0
            have e1 := cell_old hB.out hbl d1
            rw [show xs.getD i (0, 0) = xs[i] from by simp [List.getD, hkl]] at e0 e1
            have hE2 := hE.out
            rw [List.drop_eq_getElem_cons hkl] at hE2
            simp only [List.all_cons] at hE2
            have hlo := HXL.out _ (List.getElem_mem hkl)
            generalize xs[i] = x at *
            obtain ⟨xk, xi⟩ := x
            dsimp only at e0 e1 hE2 hlo
            have hz : b < wr.heap.size := by have := hB.out.size; omega
            obtain ⟨bv, hbv⟩ : ∃ b, b = hereF nl ng nf ns xk xi := ⟨_, rfl⟩
            have hH := fun wx => HE.out xk xi wx hlo.1 hlo.2
            rw [← hbv] at hE2 hH
            have HH := Lib.hid hH
            have HE2 := Lib.hid hE2
            clear hE2 hc d0 d1 hbl hE hbv hH hlo
            go_upto_region 11 with (fail)
            go_cut [46] (fun s46 wx => s46 = .bool (!bv) ∧ Hid (Below wr.heap.size wr wx))
            case first =>
              go_region_law (first | (go_simp; go_at_call 72; refine (HH.out _).mono ?_; rintro e w5 ⟨rfl, hb5⟩))
              all_goals
                have HB5 : Hid (Below wr.heap.size wr w5) := ((Below.refl wr.heap.size wr).drew).trans hb5
                clear hb5
                go_wp2_with fail
                go_meet
                case rel => exact ⟨rfl, HB5⟩
            case rest =>
              obtain ⟨rfl, hB5⟩ := hcut
              have HB5 := Lib.hid (hB.out.trans (hB5.out.mono hB.out.size))
              have R1 := Lib.hid (P1.out.old hB5.out)
              have R2 := Lib.hid (P2.out.old hB5.out)
              have R4 := Lib.hid (P4.out.old hB5.out)
              clear e0 e1 hz hB5 P1 P2 P4 m0 m1 m2 m3 f0 f1 f2 f3 f4 t0 t1 t2 t3 t4 t5 t6 z1 z2 z4
              cases bv with
              | false =>
                obtain rfl : v = 8 := by rw [HE2.out, ← HG0.out]; rfl
                go_wp2
                go_ret
                exact ⟨rfl, HB5.out⟩
              | true =>
                have HE4 : Hid (v = G ((xs.drop (i + 1)).all fun p => hereF nl ng nf ns p.1 p.2)) := by show _ = _; rw [HE2.out]; rfl
                go_wp2
                go_roundw
                case rel => exact ⟨i + 1, by omega, by go_num, HE4, HB5, R1, R2, R4⟩
                case measure => simp [intOf]; omega
          · obtain rfl : i = na := by omega
            have hv := hE.out
            rw [List.drop_of_length_le (by rw [← HNA.out]; omega)] at hv
            have hv := hv.trans HG1.out
            clear hE hlt P1 P2 P4 f0 f1 f2 f3 f4 z2
            by_cases h5 : k = 5
            · subst h5
              rw [if_pos rfl] at hv
              by_cases h6 : 6 < i
              · have h6i : (6 : Int) < (i : Int) := by omega
                rw [if_pos h6] at hv
                subst hv
                go_upto_region 13 with (fail)
                go_quiet ((fail))
                go_wp2
                go_ret
                exact ⟨rfl, hB.out.trans ((below_dN _ _ _).mono hB.out.size)⟩
              · have h6i : ¬ (6 : Int) < (i : Int) := by omega
                rw [if_neg h6] at hv
                by_cases h3 : b1 = 3
                · subst h3
                  obtain ⟨hb0, hb1⟩ := HTh.out trivial rfl
                  obtain ⟨j, rfl⟩ : ∃ j : Nat, b2 = j := ⟨b2.toNat, by omega⟩
                  have hjL : j < L.length := by rw [← HNF.out]; omega
                  obtain ⟨b, o, rfl, _, hc⟩ := HF.out (by omega)
                  obtain ⟨fs, ⟨Al, cl, At, ct, Ab, cb, rfl, _⟩, hcc⟩ := hc j hjL
                  have d1 := hcc 1 _ rfl
                  have hbl : b < w.heap.size := World.block_lt_of_cell? w _ d1
                  have e1 := cell_old hB.out hbl d1
                  have hz : b < wr.heap.size := by have := hB.out.size; omega
                  have hv2 : v = if (i : Int) ≠ L[j].params then 9 else 0 := by rw [hv]; simp [hjL]
                  generalize L[j].params = ps at *
                  have HV2 := Lib.hid hv2
                  clear hv hc hcc d1 hv2
                  by_cases hp : (i : Int) = ps
                  · obtain rfl : v = 0 := by rw [HV2.out]; simp [hp]
                    have hp1 : ((i : Int) != ps) = false := by simpa using hp
                    have hp2 : ((i : Int) == ps) = true := by simpa using hp
                    clear hp HV2
                    go_upto_region 13 with (fail)
                    go_quiet ((fail))
                    go_wp2
                    go_ret
                    exact ⟨rfl, hB.out.trans ((below_dN _ _ _).mono hB.out.size)⟩
                  · obtain rfl : v = 9 := by rw [HV2.out]; simp [hp]
                    have hp1 : ((i : Int) != ps) = true := by simpa using hp
                    have hp2 : ((i : Int) == ps) = false := by simpa using hp
                    clear hp HV2
                    go_upto_region 13 with (fail)
                    go_quiet ((fail))
                    go_wp2
                    go_ret
                    exact ⟨rfl, hB.out.trans ((below_dN _ _ _).mono hB.out.size)⟩
                · have g3 : (b1 == 3) = false := by simpa using h3
                  rw [if_neg (by simp [h3])] at hv
                  subst hv
                  go_upto_region 13 with (fail)
                  go_quiet ((fail))
                  go_wp2
                  go_ret
                  exact ⟨rfl, hB.out.trans ((below_dN _ _ _).mono hB.out.size)⟩
            · have g5 : (k == 5) = false := by simpa using h5
              rw [if_neg h5] at hv
              subst hv
              go_upto_region 13 with (fail)
              go_quiet ((fail))
              go_wp2
              go_ret
              exact ⟨rfl, hB.out.trans ((below_dN _ _ _).mono hB.out.size)⟩
end Go.Proofs.Ytpdebnecfknohaa
namespace Go.Proofs.Ytpdebnecfknohaa
open Go.RowKit
set_option linter.unusedVariables false
set_option linter.unusedSimpArgs false
set_option maxRecDepth 20000
theorem room_cnt2 : ∀ (t : Bd) (d : Nat) (m : Int), 0 ≤ m → (d : Int) + m ≤ 1000 → (roomF t m < 0 ∧ m < (t.cnt d : Int)) ∨ (roomF t m = m - (t.cnt d : Int) ∧ (t.cnt d : Int) ≤ m)
  | .nil, d, m, h0, h1 => by simp [roomF, Bd.cnt]; omega
  | .cons k a1 a2 b1 b2 xs sub rest, d, m, h0, h1 => by
    have hc : ((Bd.cons k a1 a2 b1 b2 xs sub rest).cnt d : Int) = 1 + (if k = 7 ∧ d < 1000 then (sub.cnt (d + 1) : Int) else 0) + (rest.cnt d : Int) := by
      simp only [Bd.cnt]; split <;> simp <;> omega
    rw [hc]
    simp only [roomF]
    by_cases hm : 0 ≤ m - 1
    · by_cases hk : k = 7
      · rw [if_pos (show 0 ≤ m - 1 ∧ k = 7 from ⟨hm, hk⟩), if_pos (show k = 7 ∧ d < 1000 from ⟨hk, by omega⟩)]
        rcases room_cnt2 sub (d + 1) (m - 1) hm (by omega) with ⟨h2, h3⟩ | ⟨h2, h3⟩
        · rw [if_pos h2]; left; exact ⟨h2, by omega⟩
        · rw [if_neg (by omega)]
          rcases room_cnt2 rest d (roomF sub (m - 1)) (by omega) (by omega) with ⟨h4, h5⟩ | ⟨h4, h5⟩
          · left; exact ⟨h4, by omega⟩
          · right; exact ⟨by omega, by omega⟩
      · rw [if_neg (show ¬ (0 ≤ m - 1 ∧ k = 7) from fun h => hk h.2), if_neg (show ¬ (k = 7 ∧ d < 1000) from fun h => hk h.1)]
        rw [if_neg (by omega)]
        rcases room_cnt2 rest d (m - 1) (by omega) (by omega) with ⟨h4, h5⟩ | ⟨h4, h5⟩
        · left; exact ⟨h4, by omega⟩
        · right; exact ⟨by omega, by omega⟩
    · rw [if_neg (show ¬ (0 ≤ m - 1 ∧ k = 7) from fun h => hm h.1), if_pos (by omega)]
      left
      refine ⟨by omega, ?_⟩
      split <;> omega
theorem room_flat2 (t : Bd) : roomF t 400 < 0 ↔ 400 < (t.flat 0).length := by
  rw [Bd.flat_len]
  rcases room_cnt2 t 0 400 (by omega) (by omega) with ⟨h1, h2⟩ | ⟨h1, h2⟩ <;> omega
/-- A function without its body. -/
def noB (f : Fn) : Fn := ⟨f.name, f.params, f.locals, f.sites, .nil⟩
theorem usedF_noB (g : List Int) (L : List Fn) (n : Int) : usedF g (L.map noB) n = usedF g L n := by
  simp [usedF, List.any_map, Function.comp_def, noB]
theorem canL_noB (g : List Int) (L : List Fn) (S : List (List UInt8)) (i : Nat) : canL g (L.map noB) S i = canL g L S i := by
  induction i with
  | zero => rfl
  | succ i ih => rw [canL, canL, ih, usedF_noB]
theorem mkL_noB (g0 : List (List UInt8)) (F n : Nat) : (mkL g0 F n).map noB = mkL g0 F n := by
  induction n with
  | zero => rfl
  | succ n ih => rw [mkL, List.map_append, ih]; rfl
theorem fillB_noB : ∀ (L : List Fn) (Ts : List (List St7)), Ts.length = L.length → (fillB L Ts).map noB = L.map noB
  | [], _, _ => by simp [fillB]
  | f :: L, [], h => by simp at h
  | f :: L, T :: Ts, h => by
    have := fillB_noB L Ts (by simpa using h)
    simp only [fillB, List.zipWith_cons_cons, List.map_cons] at this ⊢
    rw [this]; rfl
/-- The module without its bodies and entries. -/
def skelM (gs : List (List UInt8)) (gl : List Int) (F n : Nat) : Md := canM ⟨mkS gs F n, gl, mkL gs F n, []⟩
theorem canl_fill (gs : List (List UInt8)) (gl : List Int) (F n : Nat) (Ts : List (List St7)) (En : List Int) (hT : Ts.length = n) : canl ⟨mkS gs F n, gl, fillB (mkL gs F n) Ts, En⟩ = (skelM gs gl F n).strs := by
  unfold skelM canM canl
  dsimp only
  rw [← canL_noB gl (fillB (mkL gs F n) Ts), fillB_noB _ _ (by rw [hT, mkL_len]), canL_noB]
theorem can_fill (gs : List (List UInt8)) (gl : List Int) (F n : Nat) (Ts : List (List St7)) (En : List Int) (hT : Ts.length = n) :
    ∃ L, canM ⟨mkS gs F n, gl, fillB (mkL gs F n) Ts, En⟩ = ⟨(skelM gs gl F n).strs, (skelM gs gl F n).globs, L, En⟩ ∧ L.map noB = (skelM gs gl F n).funcs ∧ ∀ i (hi : i < L.length) (hj : i < Ts.length), L[i].body = bdOf Ts[i] := by
  have hl := canl_fill gs gl F n Ts En hT
  have hlen : Ts.length = (mkL gs F n).length := by rw [hT, mkL_len]
  refine ⟨(fillB (mkL gs F n) Ts).map (canFn (skelM gs gl F n).strs (mkS gs F n)), ?_, ?_, ?_⟩
  · unfold canM
    rw [hl]
    rfl
  · rw [List.map_map, show noB ∘ canFn (skelM gs gl F n).strs (mkS gs F n) = canFn (skelM gs gl F n).strs (mkS gs F n) ∘ noB from rfl, ← List.map_map, fillB_noB _ _ hlen, mkL_noB]
    rfl
  · intro i hi hj
    simp only [List.getElem_map, canFn, fillB, List.getElem_zipWith]
theorem pF_mod (F i : Nat) : pF F i = pF (F % 16) i := by unfold pF; omega
theorem nlF_mod (F i : Nat) : nlF F i = nlF (F % 16) i := by unfold nlF; rw [pF_mod]
theorem mkS_mod (gs : List (List UInt8)) (F n : Nat) : mkS gs F n = mkS gs (F % 16) n := by
  induction n with
  | zero => rfl
  | succ n ih => rw [mkS, mkS, ih, nlF_mod]
theorem mkL_mod (gs : List (List UInt8)) (F n : Nat) : mkL gs F n = mkL gs (F % 16) n := by
  induction n with
  | zero => rfl
  | succ n ih => rw [mkL, mkL, ih, nlF_mod, mkS_mod, pF_mod]
/-- All that is asked of names. -/
def namesOk (C : Md) (ng n F : Nat) : Bool :=
  C.globs.length == ng && C.funcs.length == n && nmF C.strs [] C.globs == 0 && nmF C.strs [] (namesL C.funcs) == 0 && risF C.strs 1 && (markF C.strs.length (usedI C.globs C.funcs C.funcs.length)).all id &&
  (List.range n).all fun i => match C.funcs[i]? with
    | none => false
    | some f => f.locals.length == nlF F i && f.sites.length == nsF i && f.params == (pF F i : Int) && nmF C.strs [] f.locals == 0 && nmF C.strs [] f.sites == 0
set_option maxRecDepth 100000 in
theorem names_all : ∀ s, s < 3 → ∀ g, g < 4 → ∀ F, F < 16 → namesOk (skelM (gnames (1 + s) g) (ints g) F (1 + F % 4)) g (1 + F % 4) F = true := by decide +kernel
theorem entsF_mod (E : Nat) : ∀ n, n ≤ 4 → entsF E n = entsF (E % 16) n := by
  intro n hn
  induction n with
  | zero => rfl
  | succ n ih =>
    rw [entsF, entsF, ih (by omega)]
    have h : E / 2 ^ n % 2 = E % 16 / 2 ^ n % 2 := by
      rcases (show n = 0 ∨ n = 1 ∨ n = 2 ∨ n = 3 by omega) with rfl | rfl | rfl | rfl <;> simp <;> omega
    rw [h]
theorem ents_all : ∀ E, E < 16 → ∀ n, n < 5 → entF n [] (entsF E n) = 0 := by decide +kernel
/-- Whose statement is it? -/
theorem mkT_stm (F ng n na : Nat) (acts : List Ac) (k : Nat) : ∀ i (hi : i < (mkT F ng n na acts k).length), ∀ s ∈ (mkT F ng n na acts k)[i], ∃ K A B C, s = stm (nlF F i) ng n (nsF i) (pF F) K A B C := by
  induction k with
  | zero => intro i hi s hs; simp [mkT] at hs
  | succ k ih =>
    intro i hi s hs
    simp only [mkT] at hs
    rw [List.getElem_set] at hs
    split at hs
    · rename_i hj
      rcases List.mem_append.1 hs with h | h
      · have hjl : i < (mkT F ng n na acts k).length := by simpa [mkT] using hi
        rw [hj, List.getD_eq_getElem?_getD, List.getElem?_eq_getElem hjl] at h
        exact ih i hjl s h
      · simp only [List.mem_singleton] at h
        rw [h, hj]
        exact ⟨_, _, _, _, rfl⟩
    · have hjl : i < (mkT F ng n na acts k).length := by simpa [mkT] using hi
      exact ih i hjl s hs
theorem varF_ok (nl ng nf ns n : Nat) (h : 0 < nl + ng) : varB (varF nl ng n).1 = true ∧ thereF nl ng nf ns (varF nl ng n).1 (varF nl ng n).2 = true := by
  have hlt : n % (nl + ng) < nl + ng := Nat.mod_lt _ h
  unfold varF
  generalize n % (nl + ng) = m at *
  split
  · rename_i h1
    simp [varB, thereF, withF]
    omega
  · rename_i h1
    simp [varB, thereF, withF]
    omega
theorem there0 (nl ng nf ns : Nat) : thereF nl ng nf ns 0 0 = true := by simp [thereF]
theorem obj_of_var {k : Int} (h : varB k = true) : objB k = true := by simp [objB, h]
/-- The item of a statement. -/
def St7.it (s : St7) (d : Nat) : It := ⟨d, s.k, s.a.1, s.a.2, s.b.1, s.b.2, s.xs, s.sub⟩
theorem args_ok (nl ng nf ns A C : Nat) (h : 0 < nl + ng) (n : Nat) : allVar ((List.range n).map fun i => varF nl ng ((A + C + i) % 256)) = true ∧ (((List.range n).map fun i => varF nl ng ((A + C + i) % 256)).all fun x => thereF nl ng nf ns x.1 x.2) = true := by
  simp only [allVar, List.all_map, List.all_eq_true, Function.comp_apply]
  exact ⟨fun x _ => (varF_ok nl ng nf ns _ h).1, fun x _ => (varF_ok nl ng nf ns _ h).2⟩
theorem stmtF_zero {L : List Fn} {nl ng ns : Nat} {x : It} (h1 : x.deep ≤ 8) (h2 : kindF x.k x.a1 x.a2 x.b1 x.b2 x.xs x.sub.len = true) (h3 : refsF nl ng L.length ns x.a1 x.a2 x.b1 x.b2 x.xs = true) (h4 : arityF L x.k x.b1 x.b2 x.xs.length = true) : stmtF L nl ng ns x = 0 := by
  unfold stmtF
  rw [if_neg (by omega), h2, h3, h4]
  simp
theorem stm0_ok (L : List Fn) (nl ng ns : Nat) (par : Nat → Nat) (K A B C d : Nat) (hd : d ≤ 8) (hl : 0 < nl + ng) (hs : 0 < ns) (hf : 0 < L.length) (hp : ∀ j (hj : j < L.length), L[j].params = (par j : Int)) (h3 : ∀ j, par j ≤ 3) : stmtF L nl ng ns ((stm0 nl ng L.length ns par K A B C).it d) = 0 ∧ (stm0 nl ng L.length ns par K A B C).k ≠ 7 := by
  obtain ⟨a1, a2⟩ := varF_ok nl ng L.length ns A hl
  obtain ⟨b1, b2⟩ := varF_ok nl ng L.length ns B hl
  have hBf : B % L.length < L.length := Nat.mod_lt _ hf
  have hBs : B % ns < ns := Nat.mod_lt _ hs
  have hpr := hp _ hBf
  unfold stm0
  generalize B % L.length = bf at *
  generalize B % ns = bn at *
  have t3 : thereF nl ng L.length ns 3 (bf : Int) = true := by simp [thereF, withF]; omega
  have t4 : thereF nl ng L.length ns 4 (bn : Int) = true := by simp [thereF, withF]; omega
  have t0 := there0 nl ng L.length ns
  have hkb : ∀ k : Int, varB k = true → (k == 3) = false := fun k hk => by
    simp [varB] at hk; rcases hk with rfl | rfl <;> rfl
  generalize hva : varF nl ng A = va at *
  generalize hvb : varF nl ng B = vb at *
  obtain ⟨va1, va2⟩ := va
  obtain ⟨vb1, vb2⟩ := vb
  dsimp only at a1 a2 b1 b2
  have ho := obj_of_var b1
  have n3 := hkb _ b1
  split
  · refine ⟨stmtF_zero hd ?_ ?_ ?_, by simp⟩
    · simp only [St7.it]
      split
      · simp [kindF, a1, objB, Bd.len]
      · split
        · simp [kindF, a1, ho, Bd.len]
        · simp [kindF, a1, objB, Bd.len]
    · simp only [St7.it]
      split
      · simp [refsF, a2, t3]
      · split
        · simp [refsF, a2, b2]
        · simp [refsF, a2, t4]
    · simp [St7.it, arityF]
  split
  · exact ⟨stmtF_zero hd (by simp [St7.it, kindF, a1, b1, Bd.len]) (by simp [St7.it, refsF, a2, b2]) (by simp [St7.it, arityF]), by simp⟩
  split
  · exact ⟨stmtF_zero hd (by simp [St7.it, kindF, a1, b1, Bd.len]) (by simp [St7.it, refsF, a2, b2]) (by simp [St7.it, arityF]), by simp⟩
  split
  · obtain ⟨g1, g2⟩ := args_ok nl ng L.length ns A C hl (par bf)
    have h33 := h3 bf
    refine ⟨stmtF_zero hd ?_ ?_ ?_, by simp⟩
    · simp only [St7.it, kindF]
      rw [g1]
      by_cases hC : C % 3 = 0 <;> simp [hC, zeroB, a1, Bd.len]
    · simp only [St7.it, refsF]
      rw [g2, t3]
      split <;> simp [t0, a2]
    · simp only [St7.it, arityF, List.length_map, List.length_range]
      rw [if_neg (by omega)]
      simp only [Int.toNat_natCast, List.getElem?_eq_getElem hBf, Option.map_some, Option.getD_some, hpr]
      simp
  split
  · obtain ⟨g1, g2⟩ := args_ok nl ng L.length ns A C hl (C / 4 % 4)
    have h33 : C / 4 % 4 ≤ 3 := by omega
    refine ⟨stmtF_zero hd ?_ ?_ ?_, by simp⟩
    · simp only [St7.it, kindF]
      rw [g1]
      by_cases hC : C % 3 = 0 <;> simp [hC, zeroB, a1, b1, Bd.len]
    · simp only [St7.it, refsF]
      rw [g2, b2]
      split <;> simp [t0, a2]
    · simp only [St7.it, arityF, List.length_map, List.length_range]
      rw [if_neg (by omega)]
      simp [bne, n3]
  split
  · exact ⟨stmtF_zero hd (by simp [St7.it, kindF, b1, zeroB, Bd.len]) (by simp [St7.it, refsF, t0, b2]) (by simp [St7.it, arityF]), by simp⟩
  · exact ⟨stmtF_zero hd (by simp [St7.it, kindF, a1, b1, Bd.len]) (by simp [St7.it, refsF, a2, b2]) (by simp [St7.it, arityF]), by simp⟩
theorem ahead_flat (s : St7) (r : Bd) (d : Nat) : (s.ahead r).flat d = s.it d :: ((if s.k = 7 ∧ d < 1000 then s.sub.flat (d + 1) else []) ++ r.flat d) := rfl
theorem stm_ok (L : List Fn) (nl ng ns : Nat) (par : Nat → Nat) (K A B C : Nat) (hl : 0 < nl + ng) (hs : 0 < ns) (hf : 0 < L.length) (hp : ∀ j (hj : j < L.length), L[j].params = (par j : Int)) (h3 : ∀ j, par j ≤ 3) : ∀ x ∈ ((stm nl ng L.length ns par K A B C).ahead .nil).flat 0, stmtF L nl ng ns x = 0 := by
  intro x hx
  rw [ahead_flat] at hx
  unfold stm at hx
  have t0 := there0 nl ng L.length ns
  split at hx
  · split at hx
    · simp [Bd.flat, St7.it] at hx
      subst hx
      exact stmtF_zero (by simp) (by simp [kindF, zeroB]) (by simp [refsF, t0]) (by simp [arityF])
    · obtain ⟨g1, g2⟩ := stm0_ok L nl ng ns par (C % 8) A B C 1 (by omega) hl hs hf hp h3
      obtain ⟨a1, a2⟩ := varF_ok nl ng L.length ns A hl
      obtain ⟨b1, b2⟩ := varF_ok nl ng L.length ns B hl
      simp only [true_and, Nat.zero_lt_succ, if_true, ahead_flat, if_neg (show ¬((stm0 nl ng L.length ns par (C % 8) A B C).k = 7 ∧ 0 + 1 < 1000) from fun h => g2 h.1), List.nil_append, Bd.flat, List.append_nil] at hx
      simp only [List.mem_cons] at hx
      rcases hx with rfl | rfl | hx
      · exact stmtF_zero (by simp [St7.it]) (by simp [St7.it, kindF, zeroB]) (by simp [St7.it, refsF, t0]) (by simp [St7.it, arityF])
      · exact g1
      · simp at hx
        subst hx
        exact stmtF_zero (by simp [St7.it]) (by simp [St7.it, kindF, a1, b1, Bd.len]) (by simp [St7.it, refsF, a2, b2]) (by simp [St7.it, arityF])
  · obtain ⟨g1, g2⟩ := stm0_ok L nl ng ns par K A B C 0 (by omega) hl hs hf hp h3
    rw [if_neg (fun h => g2 h.1)] at hx
    simp [Bd.flat] at hx
    subst hx
    exact g1
theorem bdOf_flat : ∀ (T : List St7) (x : It), x ∈ (bdOf T).flat 0 → ∃ s ∈ T, x ∈ (s.ahead .nil).flat 0
  | [], x, h => by simp [bdOf, Bd.flat] at h
  | s :: T, x, h => by
    rw [bdOf, ahead_flat] at h
    simp only [List.mem_cons, List.mem_append] at h
    rcases h with h | h | h
    · exact ⟨s, List.mem_cons_self, by rw [ahead_flat, h]; exact List.mem_cons_self⟩
    · exact ⟨s, List.mem_cons_self, by rw [ahead_flat]; exact List.mem_cons_of_mem _ (List.mem_append_left _ h)⟩
    · obtain ⟨s', h1, h2⟩ := bdOf_flat T x h
      exact ⟨s', List.mem_cons_of_mem _ h1, h2⟩
theorem stmtsF_zero (L : List Fn) (nl ng ns : Nat) : ∀ (l : List It) (i : Nat), (∀ x ∈ l, stmtF L nl ng ns x = 0) → (stmtsF L nl ng ns i l).1 = 0
  | [], _, _ => rfl
  | x :: l, i, h => by
    rw [stmtsF, if_neg (by simp [h x List.mem_cons_self])]
    exact stmtsF_zero L nl ng ns l (i + 1) fun y hy => h y (List.mem_cons_of_mem _ hy)
theorem funcsF_zero (M : Md) : ∀ (L : List Fn) (i : Nat), (∀ f ∈ L, funcF M.strs f = 0 ∧ ∀ x ∈ f.body.flat 0, stmtF M.funcs f.locals.length M.globs.length f.sites.length x = 0) → funcsF M i L = (0, -1, -1)
  | [], _, _ => rfl
  | f :: L, i, h => by
    obtain ⟨h1, h2⟩ := h f List.mem_cons_self
    rw [funcsF, if_neg (by simp [h1]), if_neg (by simp [stmtsF_zero _ _ _ _ _ 0 h2])]
    exact funcsF_zero M L (i + 1) fun y hy => h y (List.mem_cons_of_mem _ hy)
/-- No rule is broken. -/
theorem made_ok (G F E : Nat) (acts : List Ac) : treeF (canM (mkM (gnames (1 + G / 4 % 3) (G % 4)) (ints (G % 4)) F E acts)) = (0, -1, -1) ∧ checkF (canM (mkM (gnames (1 + G / 4 % 3) (G % 4)) (ints (G % 4)) F E acts)) = (0, -1, -1) := by
  obtain ⟨n, hn⟩ : ∃ n, n = 1 + F % 4 := ⟨_, rfl⟩
  obtain ⟨g, hg⟩ : ∃ g, g = G % 4 := ⟨_, rfl⟩
  have hsk := names_all (G / 4 % 3) (by omega) g (by omega) (F % 16) (by omega)
  rw [show 1 + F % 16 % 4 = n from by omega] at hsk
  have hskF : skelM (gnames (1 + G / 4 % 3) g) (ints g) (F % 16) n = skelM (gnames (1 + G / 4 % 3) g) (ints g) F n := by
    unfold skelM; rw [← mkS_mod, ← mkL_mod]
  rw [hskF] at hsk
  have hTl := mkT_len F (ints g).length n acts.length acts (min acts.length 60)
  obtain ⟨L, hM, hL, hB⟩ := can_fill (gnames (1 + G / 4 % 3) g) (ints g) F n (mkT F (ints g).length n acts.length acts (min acts.length 60)) (entsF E n) hTl
  have hst := mkT_stm F (ints g).length n acts.length acts (min acts.length 60)
  have hmk : mkM (gnames (1 + G / 4 % 3) (G % 4)) (ints (G % 4)) F E acts = ⟨mkS (gnames (1 + G / 4 % 3) g) F n, ints g, fillB (mkL (gnames (1 + G / 4 % 3) g) F n) (mkT F (ints g).length n acts.length acts (min acts.length 60)), entsF E n⟩ := by
    unfold mkM; rw [← hn, ← hg]
  have hsm := (mk_small (gnames (1 + G / 4 % 3) (G % 4)) (ints (G % 4)) F E acts).body
  have hle := mkT_le F (ints g).length n acts.length acts (min acts.length 60)
  have hsml := mkT_small F (ints g).length n acts.length acts (min acts.length 60)
  rw [hmk, hM] at hsm ⊢
  generalize mkT F (ints g).length n acts.length acts (min acts.length 60) = Ts at *
  generalize skelM (gnames (1 + G / 4 % 3) g) (ints g) F n = C at *
  rw [ints_len] at hst
  have hEn : entF n [] (entsF E n) = 0 := by rw [entsF_mod E n (by omega)]; exact ents_all _ (by omega) n (by omega)
  have hEl := entsF_len E n
  simp only [namesOk, Bool.and_eq_true, beq_iff_eq, List.all_eq_true, List.mem_range] at hsk
  obtain ⟨⟨⟨⟨⟨⟨q1, q2⟩, q3⟩, q4⟩, q5⟩, q6⟩, q7⟩ := hsk
  have hLl : L.length = n := by rw [← q2, ← hL, List.length_map]
  have hnm : namesL L = namesL C.funcs := by rw [← hL]; simp [namesL, Function.comp_def, noB]
  have hus : usedI C.globs L L.length = usedI C.globs C.funcs C.funcs.length := by
    rw [← hL]; simp [usedI, Function.comp_def, noB, List.take_of_length_le, List.map_take]
  have hfn : ∀ i (hi : i < L.length), L[i].locals.length = nlF F i ∧ L[i].sites.length = nsF i ∧ L[i].params = (pF F i : Int) ∧ nmF C.strs [] L[i].locals = 0 ∧ nmF C.strs [] L[i].sites = 0 := fun i hi => by
    have h1 := q7 i (by omega)
    have h2 : C.funcs[i]? = some (noB L[i]) := by rw [← hL, List.getElem?_map, List.getElem?_eq_getElem hi]; rfl
    rw [h2] at h1
    simp only [Bool.and_eq_true, beq_iff_eq] at h1
    obtain ⟨⟨⟨⟨u1, u2⟩, u3⟩, u4⟩, u5⟩ := h1
    rw [nlF_mod, pF_mod]
    exact ⟨u1, u2, u3, u4, u5⟩
  have hmod : modF ⟨C.strs, C.globs, L, entsF E n⟩ = 0 := by
    unfold modF
    dsimp only
    rw [if_neg (by omega), hnm, q3, q4, hLl]
    simp [hEn]
  have htree : treeF ⟨C.strs, C.globs, L, entsF E n⟩ = (0, -1, -1) := by
    unfold treeF
    rw [if_neg (by simp [hmod])]
    refine funcsF_zero _ _ 0 fun f hf => ?_
    obtain ⟨i, hi, rfl⟩ := List.getElem_of_mem hf
    dsimp only at hi ⊢
    obtain ⟨u1, u2, u3, u4, u5⟩ := hfn i hi
    have hb := hB i hi (by omega)
    have hp := pF_le F i
    have hnl : nlF F i ≤ 6 ∧ pF F i ≤ nlF F i ∧ 0 < nlF F i := by unfold nlF; omega
    have hns : nsF i ≤ 2 ∧ 0 < nsF i := by unfold nsF; omega
    refine ⟨?_, fun x hx => ?_⟩
    · have hroom : ¬ roomF L[i].body 400 < 0 := by
        rw [room_flat2, Bd.flat_len, hb]
        have h1 := bdOf_small Ts[i] (hsml _ (List.getElem_mem (by omega)))
        have h2 := hle _ (List.getElem_mem (show i < Ts.length by omega))
        have h3 := Bd.cnt_le (bdOf Ts[i]) 0
        omega
      unfold funcF
      rw [if_neg (by omega), if_neg (by omega), u4, u5]
      simp
    · rw [hb] at hx
      obtain ⟨s, hs, hx⟩ := bdOf_flat _ x hx
      obtain ⟨K, A, B, Cc, rfl⟩ := hst i (by omega) s hs
      rw [u1, u2, q1]
      rw [← hLl] at hx
      exact stm_ok L (nlF F i) g (nsF i) (pF F) K A B Cc (by omega) (by omega) (by omega) (fun j hj => (hfn j hj).2.2.1) (pF_le F) x hx
  refine ⟨htree, ?_⟩
  unfold checkF
  rw [htree]
  dsimp only
  rw [hus, q5]
  have : (markF C.strs.length (usedI C.globs C.funcs C.funcs.length)).all id = true := by simpa using q6
  rw [this]
  rfl
end Go.Proofs.Ytpdebnecfknohaa
namespace Go.Proofs.Ytpdebnecfknohaa
open Go.RowKit
set_option linter.unusedVariables false
set_option linter.unusedSimpArgs false
set_option maxRecDepth 20000
def k4 (a b : Int) (xs : List (Int × Int)) : Prop := 0 ≤ a ∧ a ≤ 4 ∧ 0 ≤ b ∧ b ≤ 4 ∧ ∀ p ∈ xs, 0 ≤ p.1 ∧ p.1 ≤ 4
/-- References of kinds that there are, all through a body. -/
def lowB : Bd → Prop
  | .nil => True
  | .cons k a1 a2 b1 b2 xs sub rest => k4 a1 b1 xs ∧ lowB sub ∧ lowB rest
theorem lowB_low : ∀ (t : Bd) (d : Nat), lowB t → ∀ x ∈ t.flat d, x.Low
  | .nil, _, _, x, hx => by simp [Bd.flat] at hx
  | .cons k a1 a2 b1 b2 xs sub rest, d, h, x, hx => by
    simp only [Bd.flat, List.mem_cons, List.mem_append] at hx
    rcases hx with rfl | hx | hx
    · exact h.1
    · split at hx
      · exact lowB_low sub (d + 1) h.2.1 x hx
      · simp at hx
    · exact lowB_low rest d h.2.2 x hx
theorem var_low {k : Int} (h : varB k = true) : 0 ≤ k ∧ k ≤ 4 := by
  unfold varB at h
  simp at h
  omega
theorem kind_low {k a1 a2 b1 b2 : Int} {xs : List (Int × Int)} {n : Nat} (h : kindF k a1 a2 b1 b2 xs n = true) : k4 a1 b1 xs ∧ (k ≠ 7 → n = 0) := by
  unfold kindF at h
  split at h
  · simp at h
  · rename_i h0
    have hx : k ≠ 5 → xs = [] := fun h5 => List.eq_nil_of_length_eq_zero (by omega)
    have hn : k ≠ 7 → n = 0 := fun h7 => by omega
    refine ⟨?_, hn⟩
    have nil4 : k ≠ 5 → ∀ p ∈ xs, 0 ≤ p.1 ∧ p.1 ≤ 4 := fun h5 p hp => by rw [hx h5] at hp; simp at hp
    split at h
    · simp only [Bool.and_eq_true] at h
      have h1 := var_low h.1
      have h2 := h.2
      unfold objB at h2
      have : 0 ≤ b1 ∧ b1 ≤ 4 := by
        unfold varB at h2
        simp at h2
        omega
      exact ⟨h1.1, h1.2, this.1, this.2, nil4 (by omega)⟩
    · split at h
      · simp only [Bool.and_eq_true] at h
        have h1 := var_low h.1
        have h2 := var_low h.2
        exact ⟨h1.1, h1.2, h2.1, h2.2, nil4 (by omega)⟩
      · split at h
        · simp only [Bool.and_eq_true, Bool.or_eq_true] at h
          obtain ⟨⟨ha, hb⟩, hx⟩ := h
          have h1 : 0 ≤ a1 ∧ a1 ≤ 4 := by
            rcases ha with ha | ha
            · unfold zeroB at ha; simp at ha; omega
            · exact var_low ha
          have h2 : 0 ≤ b1 ∧ b1 ≤ 4 := by
            rcases hb with hb | hb
            · simp at hb; omega
            · exact var_low hb
          refine ⟨h1.1, h1.2, h2.1, h2.2, fun p hp => ?_⟩
          unfold allVar at hx
          rw [List.all_eq_true] at hx
          exact var_low (hx p hp)
        · split at h
          · simp only [Bool.and_eq_true] at h
            have h2 := var_low h.2
            have ha := h.1
            unfold zeroB at ha
            simp at ha
            exact ⟨by omega, by omega, h2.1, h2.2, nil4 (by omega)⟩
          · split at h
            · simp only [Bool.and_eq_true] at h
              have ha := h.1
              have hb := h.2
              unfold zeroB at ha hb
              simp at ha hb
              exact ⟨by omega, by omega, by omega, by omega, nil4 (by omega)⟩
            · simp at h
theorem flat_lowB (L : List Fn) (nl ng ns : Nat) : ∀ (t : Bd) (d : Nat), (∀ x ∈ t.flat d, stmtF L nl ng ns x = 0) → lowB t
  | .nil, _, _ => trivial
  | .cons k a1 a2 b1 b2 xs sub rest, d, h => by
    have h0 := h ⟨d, k, a1, a2, b1, b2, xs, sub⟩ (by simp [Bd.flat])
    unfold stmtF at h0
    dsimp only at h0
    split at h0
    · omega
    · rename_i hd
      split at h0
      · omega
      · rename_i hk
        have hk : kindF k a1 a2 b1 b2 xs sub.len = true := by simpa using hk
        obtain ⟨h1, h2⟩ := kind_low hk
        refine ⟨h1, ?_, flat_lowB L nl ng ns rest d (fun x hx => h x (by simp [Bd.flat, hx]))⟩
        by_cases h7 : k = 7
        · exact flat_lowB L nl ng ns sub (d + 1) (fun x hx => h x (by
            have : k = 7 ∧ d < 1000 := ⟨h7, by omega⟩
            simp only [Bd.flat, if_pos this]
            simp [hx]))
        · have : sub = .nil := by
            cases sub with
            | nil => rfl
            | cons _ _ _ _ _ _ _ _ => have := h2 h7; simp [Bd.len] at this
          rw [this]; trivial
theorem stmts_zero (L : List Fn) (nl ng ns : Nat) : ∀ (l : List It) (i : Nat), (stmtsF L nl ng ns i l).1 = 0 → ∀ x ∈ l, stmtF L nl ng ns x = 0
  | [], _, _, x, hx => by simp at hx
  | y :: l, i, h, x, hx => by
    rw [stmtsF] at h
    split at h
    · rename_i h1; exact absurd h h1
    · rename_i h1
      rcases List.mem_cons.1 hx with rfl | hx
      · omega
      · exact stmts_zero L nl ng ns l _ h x hx
theorem funcs_low (M : Md) : ∀ (fs : List Fn) (i : Nat), funcsF M i fs = (0, -1, -1) → ∀ f ∈ fs, lowB f.body
  | [], _, _, f, hf => by simp at hf
  | y :: fs, i, h, f, hf => by
    rw [funcsF] at h
    split at h
    · rename_i h1; exact absurd (congrArg Prod.fst h) h1
    · split at h
      · rename_i h2; exact absurd (congrArg Prod.fst h) h2
      · rename_i h2
        rcases List.mem_cons.1 hf with rfl | hf
        · exact flat_lowB M.funcs f.locals.length M.globs.length f.sites.length f.body 0 (stmts_zero _ _ _ _ _ 0 (by omega))
        · exact funcs_low M fs _ h f hf
theorem tree_low (M : Md) (h : treeF M = (0, -1, -1)) : ∀ f ∈ M.funcs, lowB f.body := by
  unfold treeF at h
  split at h
  · rename_i h1; exact absurd (congrArg Prod.fst h) h1
  · exact funcs_low M M.funcs 0 h
/-- What is asked of a function, and of a module. -/
structure OkF (f : Fn) : Prop where
  locs : WfI f.locals ∧ f.locals.length ≤ 1000000
  sits : WfI f.sites ∧ f.sites.length ≤ 1000000
  body : f.body.size ≤ 1000000 ∧ f.body.wide ≤ 1000000
  low : lowB f.body
  name : -9223372036854775808 ≤ f.name ∧ f.name ≤ 9223372036854775807
structure OkM (M : Md) : Prop where
  strs : M.strs.length ≤ 1000000
  globs : M.globs.length ≤ 1000000 ∧ WfI M.globs
  ents : M.ents.length ≤ 1000000 ∧ WfI M.ents
  funcs : M.funcs.length ≤ 1000000
  fns : ∀ f ∈ M.funcs, OkF f
theorem OkM.wf {M : Md} (h : OkM M) : M.Wf := ⟨h.strs, h.globs, h.ents, h.funcs, fun f hf => by
  have := h.fns f hf
  exact ⟨this.locs.1, this.sits.1, this.locs.2, this.sits.2, this.body.1, this.body.2⟩, fun n hn => by
  obtain ⟨f, hf, rfl⟩ := List.mem_map.1 hn
  exact (h.fns f hf).name⟩
theorem OkM.low {M : Md} (h : OkM M) : ∀ f ∈ M.funcs, ∀ x ∈ f.body.flat 0, x.Low := fun f hf => lowB_low f.body 0 (h.fns f hf).low
theorem OkM.set {M : Md} (h : OkM M) (j : Nat) (f' : Fn) (hf : OkF f') : OkM ⟨M.strs, M.globs, M.funcs.set j f', M.ents⟩ :=
  ⟨h.strs, h.globs, h.ents, by simpa using h.funcs, fun f hf' => by
    rcases List.mem_or_eq_of_mem_set hf' with h1 | rfl
    · exact h.fns f h1
    · exact hf⟩
def lowS (s : St7) : Prop := k4 s.a.1 s.b.1 s.xs ∧ lowB s.sub
theorem lowB_T : ∀ (T : List St7), lowB (bdOf T) ↔ ∀ s ∈ T, lowS s
  | [] => by simp [bdOf, lowB]
  | s :: T => by
    have := lowB_T T
    simp only [bdOf, St7.ahead, lowB, List.mem_cons, forall_eq_or_imp, this, lowS, and_assoc]
theorem size_T : ∀ (T : List St7), (bdOf T).size = (T.map fun s => 1 + s.sub.size).sum ∧ (bdOf T).wide = (T.map fun s => s.xs.length + s.sub.wide).sum
  | [] => by simp [bdOf, Bd.size, Bd.wide]
  | s :: T => by
    obtain ⟨h1, h2⟩ := size_T T
    have e1 : (bdOf (s :: T)).size = s.sub.size + (bdOf T).size + 1 := rfl
    have e2 : (bdOf (s :: T)).wide = s.xs.length + s.sub.wide + (bdOf T).wide := rfl
    rw [e1, e2, h1, h2, List.map_cons, List.sum_cons, List.map_cons, List.sum_cons]
    exact ⟨by omega, by omega⟩
theorem sum_set (f : St7 → Nat) : ∀ (T : List St7) (k : Nat) (s : St7), ((T.set k s).map f).sum ≤ (T.map f).sum + f s
  | [], _, _ => by simp
  | t :: T, 0, s => by simp; omega
  | t :: T, k + 1, s => by have := sum_set f T k s; simp only [List.set_cons_succ, List.map_cons, List.sum_cons]; omega
theorem sum_mem (f : St7 → Nat) : ∀ (T : List St7), ∀ s ∈ T, f s ≤ (T.map f).sum
  | t :: T, s, hs => by
    simp only [List.map_cons, List.sum_cons]
    rcases List.mem_cons.1 hs with rfl | hs
    · omega
    · have := sum_mem f T s hs; omega
/-- A statement that is another one. -/
theorem OkF.stm {f : Fn} (h : OkF f) {T : List St7} (hb : f.body = bdOf T) (hs : f.body.size ≤ 1000 ∧ f.body.wide ≤ 1000) (k : Nat) (s : St7) (hl : lowS s) (h1 : s.sub.size ≤ 1000) (h2 : s.xs.length ≤ 1001) (h3 : s.sub.wide ≤ 1000) : OkF ⟨f.name, f.params, f.locals, f.sites, bdOf (T.set k s)⟩ := by
  have e := size_T T
  have e' := size_T (T.set k s)
  have s1 := sum_set (fun s => 1 + s.sub.size) T k s
  have s2 := sum_set (fun s => s.xs.length + s.sub.wide) T k s
  rw [hb] at hs
  refine ⟨h.locs, h.sits, ⟨by dsimp only; omega, by dsimp only; omega⟩, ?_, h.name⟩
  have hl0 := h.low
  rw [hb, lowB_T] at hl0
  dsimp only
  rw [lowB_T]
  intro t ht
  rcases List.mem_or_eq_of_mem_set ht with h5 | rfl
  · exact hl0 t h5
  · exact hl
theorem OkF.more {f : Fn} (h : OkF f) {T : List St7} (hb : f.body = bdOf T) (hs : f.body.size ≤ 1000 ∧ f.body.wide ≤ 1000) (s : St7) (hl : lowS s) (h1 : s.sub.size ≤ 1000) (h2 : s.xs.length ≤ 1001) (h3 : s.sub.wide ≤ 1000) : OkF ⟨f.name, f.params, f.locals, f.sites, bdOf (T ++ [s])⟩ := by
  have e := size_T T
  have e' := size_T (T ++ [s])
  simp only [List.map_append, List.sum_append, List.map_cons, List.map_nil, List.sum_cons, List.sum_nil] at e'
  rw [hb] at hs
  refine ⟨h.locs, h.sits, ⟨by dsimp only; omega, by dsimp only; omega⟩, ?_, h.name⟩
  have hl0 := h.low
  rw [hb, lowB_T] at hl0
  dsimp only
  rw [lowB_T]
  intro t ht
  rcases List.mem_append.1 ht with h5 | h5
  · exact hl0 t h5
  · have : t = s := by simpa using h5
    rw [this]; exact hl
theorem St7.small2 {f : Fn} {T : List St7} (hb : f.body = bdOf T) (hs : f.body.size ≤ 1000 ∧ f.body.wide ≤ 1000) {s : St7} (h : s ∈ T) : s.sub.size ≤ 1000 ∧ s.xs.length ≤ 1000 ∧ s.sub.wide ≤ 1000 := by
  have e := size_T T
  have s1 := sum_mem (fun s => 1 + s.sub.size) T s h
  have s2 := sum_mem (fun s => s.xs.length + s.sub.wide) T s h
  rw [hb] at hs
  omega
end Go.Proofs.Ytpdebnecfknohaa
