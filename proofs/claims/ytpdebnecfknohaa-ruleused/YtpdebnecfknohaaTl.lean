/-
  What the rules on a statement leave.
-/
import Derived.Test.YtpdebnecfknohaaTk
namespace Go.Proofs.Ytpdebnecfknohaa
open Go.RowKit
set_option linter.unusedVariables false
set_option linter.unusedSimpArgs false
set_option maxRecDepth 20000

/-- Is all there that a statement names? -/
def refsF (nl ng nf ns : Nat) (a1 a2 b1 b2 : Int) (xs : List (Int × Int)) : Bool := (xs.all fun x => thereF nl ng nf ns x.1 x.2) && (thereF nl ng nf ns a1 a2 && thereF nl ng nf ns b1 b2)
set_option maxHeartbeats 1000000 in
theorem refs_any (As Ag Af Ae Al At Ab Aa Asub : Option Addr) (ls cs ng cg nf cf ne ce nl cl ns ct lb cb ca lsub csub : Nat) (fn fp k a1 a2 b1 b2 : Int) (xs : List (Int × Int)) (w : World) (h : ArgsAt w (.slice Aa xs.length ca) xs) (hl : xs.length ≤ 1000000000) :
    Calls Try.prog 68 #[.agg #[.slice As ls cs, .slice Ag ng cg, .slice Af nf cf, .slice Ae ne ce], .agg #[.int .i64 fn, .int .i64 fp, .slice Al nl cl, .slice At ns ct, .slice Ab lb cb], .agg #[.int .u8 k, .int .u8 a1, .int .i64 a2, .int .u8 b1, .int .i64 b2, .slice Aa xs.length ca, .slice Asub lsub csub]] w (BlB w (refsF nl ng nf ns a1 a2 b1 b2 xs)) := by
  obtain ⟨A', c', hv, h⟩ := h
  injection hv with hv1 hv2 hv3
  subst hv1 hv3
  clear hv2
  obtain ⟨v, hv⟩ : ∃ v, refsF nl ng nf ns a1 a2 b1 b2 (xs.drop 0) = v := ⟨_, rfl⟩
  have HV0 : Hid (refsF nl ng nf ns a1 a2 b1 b2 (xs.drop 0) = v) := hv
  rw [show refsF nl ng nf ns a1 a2 b1 b2 xs = refsF nl ng nf ns a1 a2 b1 b2 (xs.drop 0) from rfl, hv]
  have HA := Lib.hid h
  obtain ⟨n, hn⟩ : ∃ n, n = xs.length := ⟨_, rfl⟩
  have HN := Lib.hid hn
  rw [← hn] at hl ⊢
  have hT := fun k i wx => there_any As Ag Af Ae Al At Ab ls cs ng cg nf cf ne ce nl cl ns ct lb cb fn fp k i wx
  have HT := Lib.hid hT
  obtain ⟨w1, hw1⟩ : ∃ w1, w1 = ((w.alloc (.cells #[.slice As ls cs, .slice Ag ng cg, .slice Af nf cf, .slice Ae ne ce] 30)).alloc (.cells #[.int .i64 fn, .int .i64 fp, .slice Al nl cl, .slice At ns ct, .slice Ab lb cb] 40)).alloc (.cells #[.int .u8 k, .int .u8 a1, .int .i64 a2, .int .u8 b1, .int .i64 b2, .slice Aa n ca, .slice Asub lsub csub] 50) := ⟨_, rfl⟩
  have HB1 : Hid (Below w.heap.size w w1) := by rw [hw1]; exact (((Below.refl _ _).alloc (Nat.le_refl _) _).alloc (by simp) _).alloc (by simp; omega) _
  have K1 : Hid (Blk w1 w.heap.size 30 #[.slice As ls cs, .slice Ag ng cg, .slice Af nf cf, .slice Ae ne ce]) := by rw [hw1]; exact ((Blk.new w 30 _).alloc _).alloc _
  have K2 : Hid (Blk w1 (w.heap.size + 1) 40 #[.int .i64 fn, .int .i64 fp, .slice Al nl cl, .slice At ns ct, .slice Ab lb cb]) := by rw [hw1]; exact (Blk.new' _ 40 _ _ (by simp)).alloc _
  have K3 : Hid (Blk w1 (w.heap.size + 1 + 1) 50 #[.int .u8 k, .int .u8 a1, .int .i64 a2, .int .u8 b1, .int .i64 b2, .slice Aa n ca, .slice Asub lsub csub]) := by rw [hw1]; exact Blk.new' _ 50 _ _ (by simp)
  clear hT h hv hn
  go_enter Try.func68, Try.ntmps68
  go_upto_region 1 with (fail)
  rw [← hw1]
  clear hw1
  obtain ⟨s0, s1, s2, s3, s4, s5, s6⟩ := K3.out.c7
  have z3 : w.heap.size + 1 + 1 < w1.heap.size := K3.out.lt
  go_wp2_with fail
  clear s0 s1 s2 s3 s4 s5 s6 z3
  go_loopw [12] (fun s wr => ∃ (i : Nat), i ≤ n ∧ s = .int .i64 (i : Int) ∧ Hid (refsF nl ng nf ns a1 a2 b1 b2 (xs.drop i) = v) ∧ Hid (Below w1.heap.size w1 wr)) (fun s _ => n - (intOf s).toNat)
  case atStart => exact ⟨0, Nat.zero_le _, rfl, HV0, Below.refl _ _⟩
  case round =>
    clear HV0
    obtain ⟨i, hi, rfl, hE, hB⟩ := hrel
    have HBw := Lib.hid (HB1.out.trans (hB.out.mono HB1.out.size))
    have L1 := Lib.hid (K1.out.old hB.out)
    have L2 := Lib.hid (K2.out.old hB.out)
    have L3 := Lib.hid (K3.out.old hB.out)
    obtain ⟨m0, m1, m2, m3⟩ := L1.out.c4
    obtain ⟨f0, f1, f2, f3, f4⟩ := L2.out.c5
    obtain ⟨s0, s1, s2, s3, s4, s5, s6⟩ := L3.out.c7
    have z1 : w.heap.size < wr.heap.size := L1.out.lt
    have z2 : w.heap.size + 1 < wr.heap.size := L2.out.lt
    have z3 : w.heap.size + 1 + 1 < wr.heap.size := L3.out.lt
    by_cases hlt : i < n
    · have hkl : i < xs.length := by rw [← HN.out]; exact hlt
      have hli : (i : Int) < (n : Int) := by omega
      obtain ⟨b, o, rfl, hc⟩ := HA.out (by omega)
      obtain ⟨d0, d1⟩ := hc i hkl
      have hbl : b < w.heap.size := World.block_lt_of_cell? w ⟨b, o + i * 2, none⟩ d0
      have e0 := cell_old HBw.out hbl d0
      have e1 := cell_old HBw.out hbl d1
      rw [show xs.getD i (0, 0) = xs[i] from by simp [List.getD, hkl]] at e0 e1
      have hE2 := hE.out
      rw [List.drop_eq_getElem_cons hkl] at hE2
      simp only [refsF, List.all_cons] at hE2
      generalize xs[i] = x at *
      obtain ⟨xk, xi⟩ := x
      dsimp only at e0 e1 hE2
      have HE2 := Lib.hid hE2
      have HB2 : Hid (Below w1.heap.size w1 (wr.alloc (.cells #[.int .u8 xk, .int .i64 xi] 46))) := hB.out.alloc hB.out.size _
      clear hE2 hc d0 d1 hE
      go_wp2_with fail
      refine (HT.out xk xi _).mono ?_
      rintro e w2 ⟨rfl, hb2⟩
      have HB3 := Lib.hid (HB2.out.trans (hb2.mono HB2.out.size))
      clear hb2 e0 e1 hbl m0 m1 m2 m3 f0 f1 f2 f3 f4 s0 s1 s2 s3 s4 s5 s6 z1 z2 z3
      obtain ⟨bv, hbv⟩ : ∃ b, b = thereF nl ng nf ns xk xi := ⟨_, rfl⟩
      have hE3 := HE2.out
      rw [← hbv] at hE3 ⊢
      have HE3 := Lib.hid hE3
      clear HE2 hE3 hbv
      cases bv with
      | false =>
        obtain rfl : v = false := by rw [← HE3.out]; rfl
        go_wp2
        go_ret
        exact ⟨rfl, HB1.out.trans (HB3.out.mono HB1.out.size)⟩
      | true =>
        have HE4 : Hid (refsF nl ng nf ns a1 a2 b1 b2 (xs.drop (i + 1)) = v) := by show _ = _; rw [← HE3.out]; simp [refsF]
        go_wp2
        go_roundw
        case rel => exact ⟨i + 1, by omega, by go_num, HE4, HB3⟩
        case measure => simp [intOf]; omega
    · obtain rfl : i = n := by omega
      have hE2 := hE.out
      rw [List.drop_of_length_le (by rw [← HN.out]; omega)] at hE2
      simp only [refsF, List.all_nil, Bool.true_and] at hE2
      have HE2 := Lib.hid hE2
      clear hE2 hE
      go_wp2_with fail
      refine (HT.out a1 a2 _).mono ?_
      rintro e w2 ⟨rfl, hb2⟩
      have HB2 := Lib.hid (HBw.out.trans (hb2.mono HBw.out.size))
      have L1 := Lib.hid (L1.out.old hb2)
      have L2 := Lib.hid (L2.out.old hb2)
      have L3 := Lib.hid (L3.out.old hb2)
      clear hb2 m0 m1 m2 m3 f0 f1 f2 f3 f4 s0 s1 s2 s3 s4 s5 s6 z1 z2 z3
      obtain ⟨m0, m1, m2, m3⟩ := L1.out.c4
      obtain ⟨f0, f1, f2, f3, f4⟩ := L2.out.c5
      obtain ⟨s0, s1, s2, s3, s4, s5, s6⟩ := L3.out.c7
      have z1 : w.heap.size < w2.heap.size := L1.out.lt
      have z2 : w.heap.size + 1 < w2.heap.size := L2.out.lt
      have z3 : w.heap.size + 1 + 1 < w2.heap.size := L3.out.lt
      obtain ⟨bv, hbv⟩ : ∃ b, b = thereF nl ng nf ns a1 a2 := ⟨_, rfl⟩
      have hE3 := HE2.out
      rw [← hbv] at hE3 ⊢
      have HE3 := Lib.hid hE3
      clear HE2 hE3 hbv
      cases bv with
      | false =>
        obtain rfl : v = false := by rw [← HE3.out]; rfl
        go_wp2
        go_ret
        exact ⟨rfl, HB2.out⟩
      | true =>
        go_wp2_with fail
        refine (HT.out b1 b2 _).mono ?_
        rintro e w3 ⟨rfl, hb3⟩
        have HB3 := Lib.hid (HB2.out.trans (hb3.mono HB2.out.size))
        have hE4 := HE3.out
        rw [Bool.true_and] at hE4
        clear hb3 m0 m1 m2 m3 f0 f1 f2 f3 f4 s0 s1 s2 s3 s4 s5 s6 z1 z2 z3 HE3
        rw [hE4]
        clear hE4
        go_wp2
        go_ret
        exact ⟨by simp, HB3.out⟩
end Go.Proofs.Ytpdebnecfknohaa
