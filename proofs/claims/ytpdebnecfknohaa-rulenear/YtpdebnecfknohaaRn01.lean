/-
  Parts: Sm.
-/
import Derived.Test.YtpdebnecfknohaaRn00
namespace Go.Proofs.Ytpdebnecfknohaa
open Go.RowKit
set_option linter.unusedVariables false
set_option maxRecDepth 20000
theorem u8mod (x : Nat) (m : Nat) (hm : 0 < m) : ((x : Int).tmod (m : Int)) = ((x % m : Nat) : Int) := by rw [Int.tmod_eq_emod_of_nonneg (by omega)]; simp
theorem noArgs (S : Nat → Prop) (w : World) : ArgsS S w (.slice none 0 0) [] := ⟨none, 0, rfl, fun h => by simp at h⟩
theorem noBody (S : Nat → Prop) (w : World) (A : Option Addr) : BodyS S w A .nil := fun h => by simp [Bd.len] at h
theorem set7 {B q : Nat} {a w : World} (h : Below B a w) (hq : B ≤ q) (v0 v1 v2 v3 v4 v5 v6 : Value) : Below B a (((((((w.setCell ⟨q, 0, none⟩ v0).setCell ⟨q, 1, none⟩ v1).setCell ⟨q, 2, none⟩ v2).setCell ⟨q, 3, none⟩ v3).setCell ⟨q, 4, none⟩ v4).setCell ⟨q, 5, none⟩ v5).setCell ⟨q, 6, none⟩ v6) :=
  ((((((h.setCell (p := ⟨q, 0, none⟩) hq _).setCell (p := ⟨q, 1, none⟩) hq _).setCell (p := ⟨q, 2, none⟩) hq _).setCell (p := ⟨q, 3, none⟩) hq _).setCell (p := ⟨q, 4, none⟩) hq _).setCell (p := ⟨q, 5, none⟩) hq _).setCell (p := ⟨q, 6, none⟩) hq _
set_option maxRecDepth 20000 in
set_option maxHeartbeats 1000000 in
theorem stm_load (m0 m3 f0 f1 f4 : Value) (Ag Af Al As : Option Addr) (ng cg nf cf nl cl ns cs K A B C : Nat) (par : Nat → Nat) (w : World) (hK : K < 256) (hA : A < 256) (hB : B < 256) (hC : C < 256) (hl : nl ≤ 1000000) (hg : ng ≤ 1000000) (hp : 0 < nl + ng) (h10 : K % 10 = 2) :
    Calls Try.prog 33 #[.agg #[m0, .slice Ag ng cg, .slice Af nf cf, m3], .agg #[f0, f1, .slice Al nl cl, .slice As ns cs, f4], .agg #[.int .u8 (K : Int), .int .u8 (A : Int), .int .u8 (B : Int), .int .u8 (C : Int)]] w (StPost w (stm0 nl ng nf ns par K A B C)) := by
  have HS : Hid (stm0 nl ng nf ns par K A B C = ⟨3, varF nl ng A, varF nl ng B, [], .nil⟩) := by show _ = _; unfold stm0; simp [h10]
  have hm : (K : Int) % 10 = 2 := by omega
  have HB0 : Hid (Below w.heap.size w ((((w.alloc (.cells #[m0, .slice Ag ng cg, .slice Af nf cf, m3] 30)).alloc (.cells #[f0, f1, .slice Al nl cl, .slice As ns cs, f4] 40)).alloc (.cells #[.int .u8 (K : Int), .int .u8 (A : Int), .int .u8 (B : Int), .int .u8 (C : Int)] 77)).alloc (.cells #[.int .u8 0, .int .u8 0, .int .i64 0, .int .u8 0, .int .i64 0, .slice none 0 0, .slice none 0 0] 50))) := ((((Below.refl _ _).alloc (Nat.le_refl _) _).alloc (by simp) _).alloc (by simp; omega) _).alloc (by simp; omega) _
  have HV1 := Lib.hid (fun w' => variables_any m0 (.slice Af nf cf) m3 f0 f1 (.slice As ns cs) f4 Ag Al ng cg nl cl A w' hA hl hg hp)
  have HV2 := Lib.hid (fun w' => variables_any m0 (.slice Af nf cf) m3 f0 f1 (.slice As ns cs) f4 Ag Al ng cg nl cl B w' hB hl hg hp)
  generalize varF nl ng A = va at *
  generalize varF nl ng B = vb at *
  generalize stm0 nl ng nf ns par K A B C = s at *
  obtain ⟨va1, va2⟩ := va
  obtain ⟨vb1, vb2⟩ := vb
  have KM : Hid (Blk ((((w.alloc (.cells #[m0, .slice Ag ng cg, .slice Af nf cf, m3] 30)).alloc (.cells #[f0, f1, .slice Al nl cl, .slice As ns cs, f4] 40)).alloc (.cells #[.int .u8 (K : Int), .int .u8 (A : Int), .int .u8 (B : Int), .int .u8 (C : Int)] 77)).alloc (.cells #[.int .u8 0, .int .u8 0, .int .i64 0, .int .u8 0, .int .i64 0, .slice none 0 0, .slice none 0 0] 50)) w.heap.size 30 #[m0, .slice Ag ng cg, .slice Af nf cf, m3]) := (((Blk.new w 30 _).alloc _).alloc _).alloc _
  have KF : Hid (Blk ((((w.alloc (.cells #[m0, .slice Ag ng cg, .slice Af nf cf, m3] 30)).alloc (.cells #[f0, f1, .slice Al nl cl, .slice As ns cs, f4] 40)).alloc (.cells #[.int .u8 (K : Int), .int .u8 (A : Int), .int .u8 (B : Int), .int .u8 (C : Int)] 77)).alloc (.cells #[.int .u8 0, .int .u8 0, .int .i64 0, .int .u8 0, .int .i64 0, .slice none 0 0, .slice none 0 0] 50)) (w.heap.size + 1) 40 #[f0, f1, .slice Al nl cl, .slice As ns cs, f4]) := ((Blk.new' _ 40 _ _ (by simp)).alloc _).alloc _
  have KX : Hid (Blk ((((w.alloc (.cells #[m0, .slice Ag ng cg, .slice Af nf cf, m3] 30)).alloc (.cells #[f0, f1, .slice Al nl cl, .slice As ns cs, f4] 40)).alloc (.cells #[.int .u8 (K : Int), .int .u8 (A : Int), .int .u8 (B : Int), .int .u8 (C : Int)] 77)).alloc (.cells #[.int .u8 0, .int .u8 0, .int .i64 0, .int .u8 0, .int .i64 0, .slice none 0 0, .slice none 0 0] 50)) (w.heap.size + 1 + 1) 77 #[.int .u8 (K : Int), .int .u8 (A : Int), .int .u8 (B : Int), .int .u8 (C : Int)]) := (Blk.new' _ 77 _ _ (by simp)).alloc _
  have KR : Hid (Blk ((((w.alloc (.cells #[m0, .slice Ag ng cg, .slice Af nf cf, m3] 30)).alloc (.cells #[f0, f1, .slice Al nl cl, .slice As ns cs, f4] 40)).alloc (.cells #[.int .u8 (K : Int), .int .u8 (A : Int), .int .u8 (B : Int), .int .u8 (C : Int)] 77)).alloc (.cells #[.int .u8 0, .int .u8 0, .int .i64 0, .int .u8 0, .int .i64 0, .slice none 0 0, .slice none 0 0] 50)) (w.heap.size + 1 + 1 + 1) 50 #[.int .u8 0, .int .u8 0, .int .i64 0, .int .u8 0, .int .i64 0, .slice none 0 0, .slice none 0 0]) := Blk.new' _ 50 _ _ (by simp)
  go_enter Try.func33, Try.ntmps33
  go_wp2_with fail
  refine (HV1.out _).mono ?_
  rintro e w1 ⟨rfl, hb1⟩
  have HB1 := Lib.hid (HB0.out.trans (hb1.mono HB0.out.size))
  have KM1 := Lib.hid (KM.out.old hb1)
  have KF1 := Lib.hid (KF.out.old hb1)
  have KX1 := Lib.hid (KX.out.old hb1)
  have KR1 := Lib.hid (KR.out.old hb1)
  have z1 : w.heap.size + 1 + 1 + 1 < w1.heap.size := KR1.out.lt
  have z2 : w.heap.size + 1 + 1 < w1.heap.size := by omega
  have z3 : w.heap.size + 1 < w1.heap.size := by omega
  have z4 : w.heap.size < w1.heap.size := by omega
  obtain ⟨m01, m11, m21, m31⟩ := KM1.out.c4
  obtain ⟨f01, f11, f21, f31, f41⟩ := KF1.out.c5
  obtain ⟨x01, x11, x21, x31⟩ := KX1.out.c4
  clear hb1
  go_wp2_with fail
  refine (HV2.out _).mono ?_
  rintro e w2 ⟨rfl, hb2⟩
  have HB2 := Lib.hid ((HB1.out.alloc HB1.out.size (.cells #[.int .u8 va1, .int .i64 va2] 46)).trans (hb2.mono (by have := HB1.out.size; simp; omega)))
  have KM2 := Lib.hid ((KM1.out.alloc (.cells #[.int .u8 va1, .int .i64 va2] 46)).old hb2)
  have KF2 := Lib.hid ((KF1.out.alloc (.cells #[.int .u8 va1, .int .i64 va2] 46)).old hb2)
  have KX2 := Lib.hid ((KX1.out.alloc (.cells #[.int .u8 va1, .int .i64 va2] 46)).old hb2)
  have KR2 := Lib.hid ((KR1.out.alloc (.cells #[.int .u8 va1, .int .i64 va2] 46)).old hb2)
  have KA2 := Lib.hid ((Blk.new w1 46 #[.int .u8 va1, .int .i64 va2]).old hb2)
  have y0 : w1.heap.size < w2.heap.size := KA2.out.lt
  have y1 : w.heap.size + 1 + 1 + 1 < w2.heap.size := by omega
  have y2 : w.heap.size + 1 + 1 < w2.heap.size := by omega
  have y3 : w.heap.size + 1 < w2.heap.size := by omega
  have y4 : w.heap.size < w2.heap.size := by omega
  clear m01 m11 m21 m31 f01 f11 f21 f31 f41 x01 x11 x21 x31 hb2
  obtain ⟨m02, m12, m22, m32⟩ := KM2.out.c4
  obtain ⟨f02, f12, f22, f32, f42⟩ := KF2.out.c5
  obtain ⟨x02, x12, x22, x32⟩ := KX2.out.c4
  obtain ⟨a02, a12⟩ := KA2.out.c2
  obtain ⟨r02, r12, r22, r32, r42, r52, r62⟩ := KR2.out.c7
  have q0 := KR2.out.frozen 0
  have q1 := KR2.out.frozen 1
  have q2 := KR2.out.frozen 2
  have q3 := KR2.out.frozen 3
  have q4 := KR2.out.frozen 4
  have q5 := KR2.out.frozen 5
  have q6 := KR2.out.frozen 6
  go_wp2
  refine bodyPost_ret (v := .agg #[.int .u8 3, .int .u8 va1, .int .i64 va2, .int .u8 vb1, .int .i64 vb2, .slice none 0 0, .slice none 0 0]) (by simp [results, Try.results33, go_sem, y1, r02, r12, r22, r32, r42, r52, r62]) rfl ?_
  rw [HS.out]
  exact ⟨.slice none 0 0, none, 0, rfl, noArgs _ _, noBody _ _ _, (set7 HB2.out (by omega) _ _ _ _ _ _ _).alloc (by have := HB2.out.size; simp [World.setCell]; omega) _⟩
set_option maxRecDepth 20000 in
set_option maxHeartbeats 1000000 in
theorem stm_store (m0 m3 f0 f1 f4 : Value) (Ag Af Al As : Option Addr) (ng cg nf cf nl cl ns cs K A B C : Nat) (par : Nat → Nat) (w : World) (hK : K < 256) (hA : A < 256) (hB : B < 256) (hC : C < 256) (hl : nl ≤ 1000000) (hg : ng ≤ 1000000) (hp : 0 < nl + ng) (h10 : K % 10 = 3) :
    Calls Try.prog 33 #[.agg #[m0, .slice Ag ng cg, .slice Af nf cf, m3], .agg #[f0, f1, .slice Al nl cl, .slice As ns cs, f4], .agg #[.int .u8 (K : Int), .int .u8 (A : Int), .int .u8 (B : Int), .int .u8 (C : Int)]] w (StPost w (stm0 nl ng nf ns par K A B C)) := by
  have HS : Hid (stm0 nl ng nf ns par K A B C = ⟨4, varF nl ng A, varF nl ng B, [], .nil⟩) := by show _ = _; unfold stm0; simp [h10]
  have hm : (K : Int) % 10 = 3 := by omega
  have HB0 : Hid (Below w.heap.size w ((((w.alloc (.cells #[m0, .slice Ag ng cg, .slice Af nf cf, m3] 30)).alloc (.cells #[f0, f1, .slice Al nl cl, .slice As ns cs, f4] 40)).alloc (.cells #[.int .u8 (K : Int), .int .u8 (A : Int), .int .u8 (B : Int), .int .u8 (C : Int)] 77)).alloc (.cells #[.int .u8 0, .int .u8 0, .int .i64 0, .int .u8 0, .int .i64 0, .slice none 0 0, .slice none 0 0] 50))) := ((((Below.refl _ _).alloc (Nat.le_refl _) _).alloc (by simp) _).alloc (by simp; omega) _).alloc (by simp; omega) _
  have HV1 := Lib.hid (fun w' => variables_any m0 (.slice Af nf cf) m3 f0 f1 (.slice As ns cs) f4 Ag Al ng cg nl cl A w' hA hl hg hp)
  have HV2 := Lib.hid (fun w' => variables_any m0 (.slice Af nf cf) m3 f0 f1 (.slice As ns cs) f4 Ag Al ng cg nl cl B w' hB hl hg hp)
  generalize varF nl ng A = va at *
  generalize varF nl ng B = vb at *
  generalize stm0 nl ng nf ns par K A B C = s at *
  obtain ⟨va1, va2⟩ := va
  obtain ⟨vb1, vb2⟩ := vb
  have KM : Hid (Blk ((((w.alloc (.cells #[m0, .slice Ag ng cg, .slice Af nf cf, m3] 30)).alloc (.cells #[f0, f1, .slice Al nl cl, .slice As ns cs, f4] 40)).alloc (.cells #[.int .u8 (K : Int), .int .u8 (A : Int), .int .u8 (B : Int), .int .u8 (C : Int)] 77)).alloc (.cells #[.int .u8 0, .int .u8 0, .int .i64 0, .int .u8 0, .int .i64 0, .slice none 0 0, .slice none 0 0] 50)) w.heap.size 30 #[m0, .slice Ag ng cg, .slice Af nf cf, m3]) := (((Blk.new w 30 _).alloc _).alloc _).alloc _
  have KF : Hid (Blk ((((w.alloc (.cells #[m0, .slice Ag ng cg, .slice Af nf cf, m3] 30)).alloc (.cells #[f0, f1, .slice Al nl cl, .slice As ns cs, f4] 40)).alloc (.cells #[.int .u8 (K : Int), .int .u8 (A : Int), .int .u8 (B : Int), .int .u8 (C : Int)] 77)).alloc (.cells #[.int .u8 0, .int .u8 0, .int .i64 0, .int .u8 0, .int .i64 0, .slice none 0 0, .slice none 0 0] 50)) (w.heap.size + 1) 40 #[f0, f1, .slice Al nl cl, .slice As ns cs, f4]) := ((Blk.new' _ 40 _ _ (by simp)).alloc _).alloc _
  have KX : Hid (Blk ((((w.alloc (.cells #[m0, .slice Ag ng cg, .slice Af nf cf, m3] 30)).alloc (.cells #[f0, f1, .slice Al nl cl, .slice As ns cs, f4] 40)).alloc (.cells #[.int .u8 (K : Int), .int .u8 (A : Int), .int .u8 (B : Int), .int .u8 (C : Int)] 77)).alloc (.cells #[.int .u8 0, .int .u8 0, .int .i64 0, .int .u8 0, .int .i64 0, .slice none 0 0, .slice none 0 0] 50)) (w.heap.size + 1 + 1) 77 #[.int .u8 (K : Int), .int .u8 (A : Int), .int .u8 (B : Int), .int .u8 (C : Int)]) := (Blk.new' _ 77 _ _ (by simp)).alloc _
  have KR : Hid (Blk ((((w.alloc (.cells #[m0, .slice Ag ng cg, .slice Af nf cf, m3] 30)).alloc (.cells #[f0, f1, .slice Al nl cl, .slice As ns cs, f4] 40)).alloc (.cells #[.int .u8 (K : Int), .int .u8 (A : Int), .int .u8 (B : Int), .int .u8 (C : Int)] 77)).alloc (.cells #[.int .u8 0, .int .u8 0, .int .i64 0, .int .u8 0, .int .i64 0, .slice none 0 0, .slice none 0 0] 50)) (w.heap.size + 1 + 1 + 1) 50 #[.int .u8 0, .int .u8 0, .int .i64 0, .int .u8 0, .int .i64 0, .slice none 0 0, .slice none 0 0]) := Blk.new' _ 50 _ _ (by simp)
  go_enter Try.func33, Try.ntmps33
  go_wp2_with fail
  refine (HV1.out _).mono ?_
  rintro e w1 ⟨rfl, hb1⟩
  have HB1 := Lib.hid (HB0.out.trans (hb1.mono HB0.out.size))
  have KM1 := Lib.hid (KM.out.old hb1)
  have KF1 := Lib.hid (KF.out.old hb1)
  have KX1 := Lib.hid (KX.out.old hb1)
  have KR1 := Lib.hid (KR.out.old hb1)
  have z1 : w.heap.size + 1 + 1 + 1 < w1.heap.size := KR1.out.lt
  have z2 : w.heap.size + 1 + 1 < w1.heap.size := by omega
  have z3 : w.heap.size + 1 < w1.heap.size := by omega
  have z4 : w.heap.size < w1.heap.size := by omega
  obtain ⟨m01, m11, m21, m31⟩ := KM1.out.c4
  obtain ⟨f01, f11, f21, f31, f41⟩ := KF1.out.c5
  obtain ⟨x01, x11, x21, x31⟩ := KX1.out.c4
  clear hb1
  go_wp2_with fail
  refine (HV2.out _).mono ?_
  rintro e w2 ⟨rfl, hb2⟩
  have HB2 := Lib.hid ((HB1.out.alloc HB1.out.size (.cells #[.int .u8 va1, .int .i64 va2] 46)).trans (hb2.mono (by have := HB1.out.size; simp; omega)))
  have KM2 := Lib.hid ((KM1.out.alloc (.cells #[.int .u8 va1, .int .i64 va2] 46)).old hb2)
  have KF2 := Lib.hid ((KF1.out.alloc (.cells #[.int .u8 va1, .int .i64 va2] 46)).old hb2)
  have KX2 := Lib.hid ((KX1.out.alloc (.cells #[.int .u8 va1, .int .i64 va2] 46)).old hb2)
  have KR2 := Lib.hid ((KR1.out.alloc (.cells #[.int .u8 va1, .int .i64 va2] 46)).old hb2)
  have KA2 := Lib.hid ((Blk.new w1 46 #[.int .u8 va1, .int .i64 va2]).old hb2)
  have y0 : w1.heap.size < w2.heap.size := KA2.out.lt
  have y1 : w.heap.size + 1 + 1 + 1 < w2.heap.size := by omega
  have y2 : w.heap.size + 1 + 1 < w2.heap.size := by omega
  have y3 : w.heap.size + 1 < w2.heap.size := by omega
  have y4 : w.heap.size < w2.heap.size := by omega
  clear m01 m11 m21 m31 f01 f11 f21 f31 f41 x01 x11 x21 x31 hb2
  obtain ⟨m02, m12, m22, m32⟩ := KM2.out.c4
  obtain ⟨f02, f12, f22, f32, f42⟩ := KF2.out.c5
  obtain ⟨x02, x12, x22, x32⟩ := KX2.out.c4
  obtain ⟨a02, a12⟩ := KA2.out.c2
  obtain ⟨r02, r12, r22, r32, r42, r52, r62⟩ := KR2.out.c7
  have q0 := KR2.out.frozen 0
  have q1 := KR2.out.frozen 1
  have q2 := KR2.out.frozen 2
  have q3 := KR2.out.frozen 3
  have q4 := KR2.out.frozen 4
  have q5 := KR2.out.frozen 5
  have q6 := KR2.out.frozen 6
  go_wp2
  refine bodyPost_ret (v := .agg #[.int .u8 4, .int .u8 va1, .int .i64 va2, .int .u8 vb1, .int .i64 vb2, .slice none 0 0, .slice none 0 0]) (by simp [results, Try.results33, go_sem, y1, r02, r12, r22, r32, r42, r52, r62]) rfl ?_
  rw [HS.out]
  exact ⟨.slice none 0 0, none, 0, rfl, noArgs _ _, noBody _ _ _, (set7 HB2.out (by omega) _ _ _ _ _ _ _).alloc (by have := HB2.out.size; simp [World.setCell]; omega) _⟩
set_option maxRecDepth 20000 in
set_option maxHeartbeats 1000000 in
theorem stm_return (m0 m3 f0 f1 f4 : Value) (Ag Af Al As : Option Addr) (ng cg nf cf nl cl ns cs K A B C : Nat) (par : Nat → Nat) (w : World) (hK : K < 256) (hA : A < 256) (hB : B < 256) (hC : C < 256) (hl : nl ≤ 1000000) (hg : ng ≤ 1000000) (hp : 0 < nl + ng) (h10 : K % 10 = 6) :
    Calls Try.prog 33 #[.agg #[m0, .slice Ag ng cg, .slice Af nf cf, m3], .agg #[f0, f1, .slice Al nl cl, .slice As ns cs, f4], .agg #[.int .u8 (K : Int), .int .u8 (A : Int), .int .u8 (B : Int), .int .u8 (C : Int)]] w (StPost w (stm0 nl ng nf ns par K A B C)) := by
  have HS : Hid (stm0 nl ng nf ns par K A B C = ⟨6, (0, 0), varF nl ng B, [], .nil⟩) := by show _ = _; unfold stm0; simp [h10]
  have hm : (K : Int) % 10 = 6 := by omega
  have HB0 : Hid (Below w.heap.size w ((((w.alloc (.cells #[m0, .slice Ag ng cg, .slice Af nf cf, m3] 30)).alloc (.cells #[f0, f1, .slice Al nl cl, .slice As ns cs, f4] 40)).alloc (.cells #[.int .u8 (K : Int), .int .u8 (A : Int), .int .u8 (B : Int), .int .u8 (C : Int)] 77)).alloc (.cells #[.int .u8 0, .int .u8 0, .int .i64 0, .int .u8 0, .int .i64 0, .slice none 0 0, .slice none 0 0] 50))) := ((((Below.refl _ _).alloc (Nat.le_refl _) _).alloc (by simp) _).alloc (by simp; omega) _).alloc (by simp; omega) _
  have HV1 := Lib.hid (fun w' => variables_any m0 (.slice Af nf cf) m3 f0 f1 (.slice As ns cs) f4 Ag Al ng cg nl cl A w' hA hl hg hp)
  have HV2 := Lib.hid (fun w' => variables_any m0 (.slice Af nf cf) m3 f0 f1 (.slice As ns cs) f4 Ag Al ng cg nl cl B w' hB hl hg hp)
  generalize varF nl ng A = va at *
  generalize varF nl ng B = vb at *
  generalize stm0 nl ng nf ns par K A B C = s at *
  obtain ⟨va1, va2⟩ := va
  obtain ⟨vb1, vb2⟩ := vb
  have KM : Hid (Blk ((((w.alloc (.cells #[m0, .slice Ag ng cg, .slice Af nf cf, m3] 30)).alloc (.cells #[f0, f1, .slice Al nl cl, .slice As ns cs, f4] 40)).alloc (.cells #[.int .u8 (K : Int), .int .u8 (A : Int), .int .u8 (B : Int), .int .u8 (C : Int)] 77)).alloc (.cells #[.int .u8 0, .int .u8 0, .int .i64 0, .int .u8 0, .int .i64 0, .slice none 0 0, .slice none 0 0] 50)) w.heap.size 30 #[m0, .slice Ag ng cg, .slice Af nf cf, m3]) := (((Blk.new w 30 _).alloc _).alloc _).alloc _
  have KF : Hid (Blk ((((w.alloc (.cells #[m0, .slice Ag ng cg, .slice Af nf cf, m3] 30)).alloc (.cells #[f0, f1, .slice Al nl cl, .slice As ns cs, f4] 40)).alloc (.cells #[.int .u8 (K : Int), .int .u8 (A : Int), .int .u8 (B : Int), .int .u8 (C : Int)] 77)).alloc (.cells #[.int .u8 0, .int .u8 0, .int .i64 0, .int .u8 0, .int .i64 0, .slice none 0 0, .slice none 0 0] 50)) (w.heap.size + 1) 40 #[f0, f1, .slice Al nl cl, .slice As ns cs, f4]) := ((Blk.new' _ 40 _ _ (by simp)).alloc _).alloc _
  have KX : Hid (Blk ((((w.alloc (.cells #[m0, .slice Ag ng cg, .slice Af nf cf, m3] 30)).alloc (.cells #[f0, f1, .slice Al nl cl, .slice As ns cs, f4] 40)).alloc (.cells #[.int .u8 (K : Int), .int .u8 (A : Int), .int .u8 (B : Int), .int .u8 (C : Int)] 77)).alloc (.cells #[.int .u8 0, .int .u8 0, .int .i64 0, .int .u8 0, .int .i64 0, .slice none 0 0, .slice none 0 0] 50)) (w.heap.size + 1 + 1) 77 #[.int .u8 (K : Int), .int .u8 (A : Int), .int .u8 (B : Int), .int .u8 (C : Int)]) := (Blk.new' _ 77 _ _ (by simp)).alloc _
  have KR : Hid (Blk ((((w.alloc (.cells #[m0, .slice Ag ng cg, .slice Af nf cf, m3] 30)).alloc (.cells #[f0, f1, .slice Al nl cl, .slice As ns cs, f4] 40)).alloc (.cells #[.int .u8 (K : Int), .int .u8 (A : Int), .int .u8 (B : Int), .int .u8 (C : Int)] 77)).alloc (.cells #[.int .u8 0, .int .u8 0, .int .i64 0, .int .u8 0, .int .i64 0, .slice none 0 0, .slice none 0 0] 50)) (w.heap.size + 1 + 1 + 1) 50 #[.int .u8 0, .int .u8 0, .int .i64 0, .int .u8 0, .int .i64 0, .slice none 0 0, .slice none 0 0]) := Blk.new' _ 50 _ _ (by simp)
  go_enter Try.func33, Try.ntmps33
  go_wp2_with fail
  refine (HV1.out _).mono ?_
  rintro e w1 ⟨rfl, hb1⟩
  have HB1 := Lib.hid (HB0.out.trans (hb1.mono HB0.out.size))
  have KM1 := Lib.hid (KM.out.old hb1)
  have KF1 := Lib.hid (KF.out.old hb1)
  have KX1 := Lib.hid (KX.out.old hb1)
  have KR1 := Lib.hid (KR.out.old hb1)
  have z1 : w.heap.size + 1 + 1 + 1 < w1.heap.size := KR1.out.lt
  have z2 : w.heap.size + 1 + 1 < w1.heap.size := by omega
  have z3 : w.heap.size + 1 < w1.heap.size := by omega
  have z4 : w.heap.size < w1.heap.size := by omega
  obtain ⟨m01, m11, m21, m31⟩ := KM1.out.c4
  obtain ⟨f01, f11, f21, f31, f41⟩ := KF1.out.c5
  obtain ⟨x01, x11, x21, x31⟩ := KX1.out.c4
  clear hb1
  go_wp2_with fail
  refine (HV2.out _).mono ?_
  rintro e w2 ⟨rfl, hb2⟩
  have HB2 := Lib.hid ((HB1.out.alloc HB1.out.size (.cells #[.int .u8 va1, .int .i64 va2] 46)).trans (hb2.mono (by have := HB1.out.size; simp; omega)))
  have KM2 := Lib.hid ((KM1.out.alloc (.cells #[.int .u8 va1, .int .i64 va2] 46)).old hb2)
  have KF2 := Lib.hid ((KF1.out.alloc (.cells #[.int .u8 va1, .int .i64 va2] 46)).old hb2)
  have KX2 := Lib.hid ((KX1.out.alloc (.cells #[.int .u8 va1, .int .i64 va2] 46)).old hb2)
  have KR2 := Lib.hid ((KR1.out.alloc (.cells #[.int .u8 va1, .int .i64 va2] 46)).old hb2)
  have KA2 := Lib.hid ((Blk.new w1 46 #[.int .u8 va1, .int .i64 va2]).old hb2)
  have y0 : w1.heap.size < w2.heap.size := KA2.out.lt
  have y1 : w.heap.size + 1 + 1 + 1 < w2.heap.size := by omega
  have y2 : w.heap.size + 1 + 1 < w2.heap.size := by omega
  have y3 : w.heap.size + 1 < w2.heap.size := by omega
  have y4 : w.heap.size < w2.heap.size := by omega
  clear m01 m11 m21 m31 f01 f11 f21 f31 f41 x01 x11 x21 x31 hb2
  obtain ⟨m02, m12, m22, m32⟩ := KM2.out.c4
  obtain ⟨f02, f12, f22, f32, f42⟩ := KF2.out.c5
  obtain ⟨x02, x12, x22, x32⟩ := KX2.out.c4
  obtain ⟨a02, a12⟩ := KA2.out.c2
  obtain ⟨r02, r12, r22, r32, r42, r52, r62⟩ := KR2.out.c7
  have q0 := KR2.out.frozen 0
  have q1 := KR2.out.frozen 1
  have q2 := KR2.out.frozen 2
  have q3 := KR2.out.frozen 3
  have q4 := KR2.out.frozen 4
  have q5 := KR2.out.frozen 5
  have q6 := KR2.out.frozen 6
  go_wp2
  refine bodyPost_ret (v := .agg #[.int .u8 6, .int .u8 0, .int .i64 0, .int .u8 vb1, .int .i64 vb2, .slice none 0 0, .slice none 0 0]) (by simp [results, Try.results33, go_sem, y1, r02, r12, r22, r32, r42, r52, r62]) rfl ?_
  rw [HS.out]
  exact ⟨.slice none 0 0, none, 0, rfl, noArgs _ _, noBody _ _ _, (set7 HB2.out (by omega) _ _ _ _ _ _ _).alloc (by have := HB2.out.size; simp [World.setCell]; omega) _⟩
set_option maxRecDepth 20000 in
set_option maxHeartbeats 1000000 in
theorem stm_move8 (m0 m3 f0 f1 f4 : Value) (Ag Af Al As : Option Addr) (ng cg nf cf nl cl ns cs K A B C : Nat) (par : Nat → Nat) (w : World) (hK : K < 256) (hA : A < 256) (hB : B < 256) (hC : C < 256) (hl : nl ≤ 1000000) (hg : ng ≤ 1000000) (hp : 0 < nl + ng) (h10 : K % 10 = 8) :
    Calls Try.prog 33 #[.agg #[m0, .slice Ag ng cg, .slice Af nf cf, m3], .agg #[f0, f1, .slice Al nl cl, .slice As ns cs, f4], .agg #[.int .u8 (K : Int), .int .u8 (A : Int), .int .u8 (B : Int), .int .u8 (C : Int)]] w (StPost w (stm0 nl ng nf ns par K A B C)) := by
  have HS : Hid (stm0 nl ng nf ns par K A B C = ⟨2, varF nl ng A, varF nl ng B, [], .nil⟩) := by show _ = _; unfold stm0; simp [h10]
  have hm : (K : Int) % 10 = 8 := by omega
  have HB0 : Hid (Below w.heap.size w ((((w.alloc (.cells #[m0, .slice Ag ng cg, .slice Af nf cf, m3] 30)).alloc (.cells #[f0, f1, .slice Al nl cl, .slice As ns cs, f4] 40)).alloc (.cells #[.int .u8 (K : Int), .int .u8 (A : Int), .int .u8 (B : Int), .int .u8 (C : Int)] 77)).alloc (.cells #[.int .u8 0, .int .u8 0, .int .i64 0, .int .u8 0, .int .i64 0, .slice none 0 0, .slice none 0 0] 50))) := ((((Below.refl _ _).alloc (Nat.le_refl _) _).alloc (by simp) _).alloc (by simp; omega) _).alloc (by simp; omega) _
  have HV1 := Lib.hid (fun w' => variables_any m0 (.slice Af nf cf) m3 f0 f1 (.slice As ns cs) f4 Ag Al ng cg nl cl A w' hA hl hg hp)
  have HV2 := Lib.hid (fun w' => variables_any m0 (.slice Af nf cf) m3 f0 f1 (.slice As ns cs) f4 Ag Al ng cg nl cl B w' hB hl hg hp)
  generalize varF nl ng A = va at *
  generalize varF nl ng B = vb at *
  generalize stm0 nl ng nf ns par K A B C = s at *
  obtain ⟨va1, va2⟩ := va
  obtain ⟨vb1, vb2⟩ := vb
  have KM : Hid (Blk ((((w.alloc (.cells #[m0, .slice Ag ng cg, .slice Af nf cf, m3] 30)).alloc (.cells #[f0, f1, .slice Al nl cl, .slice As ns cs, f4] 40)).alloc (.cells #[.int .u8 (K : Int), .int .u8 (A : Int), .int .u8 (B : Int), .int .u8 (C : Int)] 77)).alloc (.cells #[.int .u8 0, .int .u8 0, .int .i64 0, .int .u8 0, .int .i64 0, .slice none 0 0, .slice none 0 0] 50)) w.heap.size 30 #[m0, .slice Ag ng cg, .slice Af nf cf, m3]) := (((Blk.new w 30 _).alloc _).alloc _).alloc _
  have KF : Hid (Blk ((((w.alloc (.cells #[m0, .slice Ag ng cg, .slice Af nf cf, m3] 30)).alloc (.cells #[f0, f1, .slice Al nl cl, .slice As ns cs, f4] 40)).alloc (.cells #[.int .u8 (K : Int), .int .u8 (A : Int), .int .u8 (B : Int), .int .u8 (C : Int)] 77)).alloc (.cells #[.int .u8 0, .int .u8 0, .int .i64 0, .int .u8 0, .int .i64 0, .slice none 0 0, .slice none 0 0] 50)) (w.heap.size + 1) 40 #[f0, f1, .slice Al nl cl, .slice As ns cs, f4]) := ((Blk.new' _ 40 _ _ (by simp)).alloc _).alloc _
  have KX : Hid (Blk ((((w.alloc (.cells #[m0, .slice Ag ng cg, .slice Af nf cf, m3] 30)).alloc (.cells #[f0, f1, .slice Al nl cl, .slice As ns cs, f4] 40)).alloc (.cells #[.int .u8 (K : Int), .int .u8 (A : Int), .int .u8 (B : Int), .int .u8 (C : Int)] 77)).alloc (.cells #[.int .u8 0, .int .u8 0, .int .i64 0, .int .u8 0, .int .i64 0, .slice none 0 0, .slice none 0 0] 50)) (w.heap.size + 1 + 1) 77 #[.int .u8 (K : Int), .int .u8 (A : Int), .int .u8 (B : Int), .int .u8 (C : Int)]) := (Blk.new' _ 77 _ _ (by simp)).alloc _
  have KR : Hid (Blk ((((w.alloc (.cells #[m0, .slice Ag ng cg, .slice Af nf cf, m3] 30)).alloc (.cells #[f0, f1, .slice Al nl cl, .slice As ns cs, f4] 40)).alloc (.cells #[.int .u8 (K : Int), .int .u8 (A : Int), .int .u8 (B : Int), .int .u8 (C : Int)] 77)).alloc (.cells #[.int .u8 0, .int .u8 0, .int .i64 0, .int .u8 0, .int .i64 0, .slice none 0 0, .slice none 0 0] 50)) (w.heap.size + 1 + 1 + 1) 50 #[.int .u8 0, .int .u8 0, .int .i64 0, .int .u8 0, .int .i64 0, .slice none 0 0, .slice none 0 0]) := Blk.new' _ 50 _ _ (by simp)
  go_enter Try.func33, Try.ntmps33
  go_wp2_with fail
  refine (HV1.out _).mono ?_
  rintro e w1 ⟨rfl, hb1⟩
  have HB1 := Lib.hid (HB0.out.trans (hb1.mono HB0.out.size))
  have KM1 := Lib.hid (KM.out.old hb1)
  have KF1 := Lib.hid (KF.out.old hb1)
  have KX1 := Lib.hid (KX.out.old hb1)
  have KR1 := Lib.hid (KR.out.old hb1)
  have z1 : w.heap.size + 1 + 1 + 1 < w1.heap.size := KR1.out.lt
  have z2 : w.heap.size + 1 + 1 < w1.heap.size := by omega
  have z3 : w.heap.size + 1 < w1.heap.size := by omega
  have z4 : w.heap.size < w1.heap.size := by omega
  obtain ⟨m01, m11, m21, m31⟩ := KM1.out.c4
  obtain ⟨f01, f11, f21, f31, f41⟩ := KF1.out.c5
  obtain ⟨x01, x11, x21, x31⟩ := KX1.out.c4
  clear hb1
  go_wp2_with fail
  refine (HV2.out _).mono ?_
  rintro e w2 ⟨rfl, hb2⟩
  have HB2 := Lib.hid ((HB1.out.alloc HB1.out.size (.cells #[.int .u8 va1, .int .i64 va2] 46)).trans (hb2.mono (by have := HB1.out.size; simp; omega)))
  have KM2 := Lib.hid ((KM1.out.alloc (.cells #[.int .u8 va1, .int .i64 va2] 46)).old hb2)
  have KF2 := Lib.hid ((KF1.out.alloc (.cells #[.int .u8 va1, .int .i64 va2] 46)).old hb2)
  have KX2 := Lib.hid ((KX1.out.alloc (.cells #[.int .u8 va1, .int .i64 va2] 46)).old hb2)
  have KR2 := Lib.hid ((KR1.out.alloc (.cells #[.int .u8 va1, .int .i64 va2] 46)).old hb2)
  have KA2 := Lib.hid ((Blk.new w1 46 #[.int .u8 va1, .int .i64 va2]).old hb2)
  have y0 : w1.heap.size < w2.heap.size := KA2.out.lt
  have y1 : w.heap.size + 1 + 1 + 1 < w2.heap.size := by omega
  have y2 : w.heap.size + 1 + 1 < w2.heap.size := by omega
  have y3 : w.heap.size + 1 < w2.heap.size := by omega
  have y4 : w.heap.size < w2.heap.size := by omega
  clear m01 m11 m21 m31 f01 f11 f21 f31 f41 x01 x11 x21 x31 hb2
  obtain ⟨m02, m12, m22, m32⟩ := KM2.out.c4
  obtain ⟨f02, f12, f22, f32, f42⟩ := KF2.out.c5
  obtain ⟨x02, x12, x22, x32⟩ := KX2.out.c4
  obtain ⟨a02, a12⟩ := KA2.out.c2
  obtain ⟨r02, r12, r22, r32, r42, r52, r62⟩ := KR2.out.c7
  have q0 := KR2.out.frozen 0
  have q1 := KR2.out.frozen 1
  have q2 := KR2.out.frozen 2
  have q3 := KR2.out.frozen 3
  have q4 := KR2.out.frozen 4
  have q5 := KR2.out.frozen 5
  have q6 := KR2.out.frozen 6
  go_wp2
  refine bodyPost_ret (v := .agg #[.int .u8 2, .int .u8 va1, .int .i64 va2, .int .u8 vb1, .int .i64 vb2, .slice none 0 0, .slice none 0 0]) (by simp [results, Try.results33, go_sem, y1, r02, r12, r22, r32, r42, r52, r62]) rfl ?_
  rw [HS.out]
  exact ⟨.slice none 0 0, none, 0, rfl, noArgs _ _, noBody _ _ _, (set7 HB2.out (by omega) _ _ _ _ _ _ _).alloc (by have := HB2.out.size; simp [World.setCell]; omega) _⟩
set_option maxRecDepth 20000 in
set_option maxHeartbeats 1000000 in
theorem stm_move9 (m0 m3 f0 f1 f4 : Value) (Ag Af Al As : Option Addr) (ng cg nf cf nl cl ns cs K A B C : Nat) (par : Nat → Nat) (w : World) (hK : K < 256) (hA : A < 256) (hB : B < 256) (hC : C < 256) (hl : nl ≤ 1000000) (hg : ng ≤ 1000000) (hp : 0 < nl + ng) (h10 : K % 10 = 9) :
    Calls Try.prog 33 #[.agg #[m0, .slice Ag ng cg, .slice Af nf cf, m3], .agg #[f0, f1, .slice Al nl cl, .slice As ns cs, f4], .agg #[.int .u8 (K : Int), .int .u8 (A : Int), .int .u8 (B : Int), .int .u8 (C : Int)]] w (StPost w (stm0 nl ng nf ns par K A B C)) := by
  have HS : Hid (stm0 nl ng nf ns par K A B C = ⟨2, varF nl ng A, varF nl ng B, [], .nil⟩) := by show _ = _; unfold stm0; simp [h10]
  have hm : (K : Int) % 10 = 9 := by omega
  have HB0 : Hid (Below w.heap.size w ((((w.alloc (.cells #[m0, .slice Ag ng cg, .slice Af nf cf, m3] 30)).alloc (.cells #[f0, f1, .slice Al nl cl, .slice As ns cs, f4] 40)).alloc (.cells #[.int .u8 (K : Int), .int .u8 (A : Int), .int .u8 (B : Int), .int .u8 (C : Int)] 77)).alloc (.cells #[.int .u8 0, .int .u8 0, .int .i64 0, .int .u8 0, .int .i64 0, .slice none 0 0, .slice none 0 0] 50))) := ((((Below.refl _ _).alloc (Nat.le_refl _) _).alloc (by simp) _).alloc (by simp; omega) _).alloc (by simp; omega) _
  have HV1 := Lib.hid (fun w' => variables_any m0 (.slice Af nf cf) m3 f0 f1 (.slice As ns cs) f4 Ag Al ng cg nl cl A w' hA hl hg hp)
  have HV2 := Lib.hid (fun w' => variables_any m0 (.slice Af nf cf) m3 f0 f1 (.slice As ns cs) f4 Ag Al ng cg nl cl B w' hB hl hg hp)
  generalize varF nl ng A = va at *
  generalize varF nl ng B = vb at *
  generalize stm0 nl ng nf ns par K A B C = s at *
  obtain ⟨va1, va2⟩ := va
  obtain ⟨vb1, vb2⟩ := vb
  have KM : Hid (Blk ((((w.alloc (.cells #[m0, .slice Ag ng cg, .slice Af nf cf, m3] 30)).alloc (.cells #[f0, f1, .slice Al nl cl, .slice As ns cs, f4] 40)).alloc (.cells #[.int .u8 (K : Int), .int .u8 (A : Int), .int .u8 (B : Int), .int .u8 (C : Int)] 77)).alloc (.cells #[.int .u8 0, .int .u8 0, .int .i64 0, .int .u8 0, .int .i64 0, .slice none 0 0, .slice none 0 0] 50)) w.heap.size 30 #[m0, .slice Ag ng cg, .slice Af nf cf, m3]) := (((Blk.new w 30 _).alloc _).alloc _).alloc _
  have KF : Hid (Blk ((((w.alloc (.cells #[m0, .slice Ag ng cg, .slice Af nf cf, m3] 30)).alloc (.cells #[f0, f1, .slice Al nl cl, .slice As ns cs, f4] 40)).alloc (.cells #[.int .u8 (K : Int), .int .u8 (A : Int), .int .u8 (B : Int), .int .u8 (C : Int)] 77)).alloc (.cells #[.int .u8 0, .int .u8 0, .int .i64 0, .int .u8 0, .int .i64 0, .slice none 0 0, .slice none 0 0] 50)) (w.heap.size + 1) 40 #[f0, f1, .slice Al nl cl, .slice As ns cs, f4]) := ((Blk.new' _ 40 _ _ (by simp)).alloc _).alloc _
  have KX : Hid (Blk ((((w.alloc (.cells #[m0, .slice Ag ng cg, .slice Af nf cf, m3] 30)).alloc (.cells #[f0, f1, .slice Al nl cl, .slice As ns cs, f4] 40)).alloc (.cells #[.int .u8 (K : Int), .int .u8 (A : Int), .int .u8 (B : Int), .int .u8 (C : Int)] 77)).alloc (.cells #[.int .u8 0, .int .u8 0, .int .i64 0, .int .u8 0, .int .i64 0, .slice none 0 0, .slice none 0 0] 50)) (w.heap.size + 1 + 1) 77 #[.int .u8 (K : Int), .int .u8 (A : Int), .int .u8 (B : Int), .int .u8 (C : Int)]) := (Blk.new' _ 77 _ _ (by simp)).alloc _
  have KR : Hid (Blk ((((w.alloc (.cells #[m0, .slice Ag ng cg, .slice Af nf cf, m3] 30)).alloc (.cells #[f0, f1, .slice Al nl cl, .slice As ns cs, f4] 40)).alloc (.cells #[.int .u8 (K : Int), .int .u8 (A : Int), .int .u8 (B : Int), .int .u8 (C : Int)] 77)).alloc (.cells #[.int .u8 0, .int .u8 0, .int .i64 0, .int .u8 0, .int .i64 0, .slice none 0 0, .slice none 0 0] 50)) (w.heap.size + 1 + 1 + 1) 50 #[.int .u8 0, .int .u8 0, .int .i64 0, .int .u8 0, .int .i64 0, .slice none 0 0, .slice none 0 0]) := Blk.new' _ 50 _ _ (by simp)
  go_enter Try.func33, Try.ntmps33
  go_wp2_with fail
  refine (HV1.out _).mono ?_
  rintro e w1 ⟨rfl, hb1⟩
  have HB1 := Lib.hid (HB0.out.trans (hb1.mono HB0.out.size))
  have KM1 := Lib.hid (KM.out.old hb1)
  have KF1 := Lib.hid (KF.out.old hb1)
  have KX1 := Lib.hid (KX.out.old hb1)
  have KR1 := Lib.hid (KR.out.old hb1)
  have z1 : w.heap.size + 1 + 1 + 1 < w1.heap.size := KR1.out.lt
  have z2 : w.heap.size + 1 + 1 < w1.heap.size := by omega
  have z3 : w.heap.size + 1 < w1.heap.size := by omega
  have z4 : w.heap.size < w1.heap.size := by omega
  obtain ⟨m01, m11, m21, m31⟩ := KM1.out.c4
  obtain ⟨f01, f11, f21, f31, f41⟩ := KF1.out.c5
  obtain ⟨x01, x11, x21, x31⟩ := KX1.out.c4
  clear hb1
  go_wp2_with fail
  refine (HV2.out _).mono ?_
  rintro e w2 ⟨rfl, hb2⟩
  have HB2 := Lib.hid ((HB1.out.alloc HB1.out.size (.cells #[.int .u8 va1, .int .i64 va2] 46)).trans (hb2.mono (by have := HB1.out.size; simp; omega)))
  have KM2 := Lib.hid ((KM1.out.alloc (.cells #[.int .u8 va1, .int .i64 va2] 46)).old hb2)
  have KF2 := Lib.hid ((KF1.out.alloc (.cells #[.int .u8 va1, .int .i64 va2] 46)).old hb2)
  have KX2 := Lib.hid ((KX1.out.alloc (.cells #[.int .u8 va1, .int .i64 va2] 46)).old hb2)
  have KR2 := Lib.hid ((KR1.out.alloc (.cells #[.int .u8 va1, .int .i64 va2] 46)).old hb2)
  have KA2 := Lib.hid ((Blk.new w1 46 #[.int .u8 va1, .int .i64 va2]).old hb2)
  have y0 : w1.heap.size < w2.heap.size := KA2.out.lt
  have y1 : w.heap.size + 1 + 1 + 1 < w2.heap.size := by omega
  have y2 : w.heap.size + 1 + 1 < w2.heap.size := by omega
  have y3 : w.heap.size + 1 < w2.heap.size := by omega
  have y4 : w.heap.size < w2.heap.size := by omega
  clear m01 m11 m21 m31 f01 f11 f21 f31 f41 x01 x11 x21 x31 hb2
  obtain ⟨m02, m12, m22, m32⟩ := KM2.out.c4
  obtain ⟨f02, f12, f22, f32, f42⟩ := KF2.out.c5
  obtain ⟨x02, x12, x22, x32⟩ := KX2.out.c4
  obtain ⟨a02, a12⟩ := KA2.out.c2
  obtain ⟨r02, r12, r22, r32, r42, r52, r62⟩ := KR2.out.c7
  have q0 := KR2.out.frozen 0
  have q1 := KR2.out.frozen 1
  have q2 := KR2.out.frozen 2
  have q3 := KR2.out.frozen 3
  have q4 := KR2.out.frozen 4
  have q5 := KR2.out.frozen 5
  have q6 := KR2.out.frozen 6
  go_wp2
  refine bodyPost_ret (v := .agg #[.int .u8 2, .int .u8 va1, .int .i64 va2, .int .u8 vb1, .int .i64 vb2, .slice none 0 0, .slice none 0 0]) (by simp [results, Try.results33, go_sem, y1, r02, r12, r22, r32, r42, r52, r62]) rfl ?_
  rw [HS.out]
  exact ⟨.slice none 0 0, none, 0, rfl, noArgs _ _, noBody _ _ _, (set7 HB2.out (by omega) _ _ _ _ _ _ _).alloc (by have := HB2.out.size; simp [World.setCell]; omega) _⟩
set_option maxRecDepth 20000 in
set_option maxHeartbeats 1000000 in
theorem stm_take00 (m0 m3 f0 f1 f4 : Value) (Ag Af Al As : Option Addr) (ng cg nf cf nl cl ns cs K A B C : Nat) (par : Nat → Nat) (w : World) (hK : K < 256) (hA : A < 256) (hB : B < 256) (hC : C < 256) (hl : nl ≤ 1000000) (hg : ng ≤ 1000000) (hp : 0 < nl + ng) (h10 : K % 10 = 0) (h4 : C % 4 = 0) :
    Calls Try.prog 33 #[.agg #[m0, .slice Ag ng cg, .slice Af nf cf, m3], .agg #[f0, f1, .slice Al nl cl, .slice As ns cs, f4], .agg #[.int .u8 (K : Int), .int .u8 (A : Int), .int .u8 (B : Int), .int .u8 (C : Int)]] w (StPost w (stm0 nl ng nf ns par K A B C)) := by
  have HS : Hid (stm0 nl ng nf ns par K A B C = ⟨1, varF nl ng A, varF nl ng B, [], .nil⟩) := by show _ = _; unfold stm0; simp [h10, h4]
  have hm : (K : Int) % 10 = 0 := by omega
  have hm4 : (C : Int) % 4 = 0 := by omega
  have HB0 : Hid (Below w.heap.size w ((((w.alloc (.cells #[m0, .slice Ag ng cg, .slice Af nf cf, m3] 30)).alloc (.cells #[f0, f1, .slice Al nl cl, .slice As ns cs, f4] 40)).alloc (.cells #[.int .u8 (K : Int), .int .u8 (A : Int), .int .u8 (B : Int), .int .u8 (C : Int)] 77)).alloc (.cells #[.int .u8 0, .int .u8 0, .int .i64 0, .int .u8 0, .int .i64 0, .slice none 0 0, .slice none 0 0] 50))) := ((((Below.refl _ _).alloc (Nat.le_refl _) _).alloc (by simp) _).alloc (by simp; omega) _).alloc (by simp; omega) _
  have HV1 := Lib.hid (fun w' => variables_any m0 (.slice Af nf cf) m3 f0 f1 (.slice As ns cs) f4 Ag Al ng cg nl cl A w' hA hl hg hp)
  have HV2 := Lib.hid (fun w' => variables_any m0 (.slice Af nf cf) m3 f0 f1 (.slice As ns cs) f4 Ag Al ng cg nl cl B w' hB hl hg hp)
  generalize varF nl ng A = va at *
  generalize varF nl ng B = vb at *
  generalize stm0 nl ng nf ns par K A B C = s at *
  obtain ⟨va1, va2⟩ := va
  obtain ⟨vb1, vb2⟩ := vb
  have KM : Hid (Blk ((((w.alloc (.cells #[m0, .slice Ag ng cg, .slice Af nf cf, m3] 30)).alloc (.cells #[f0, f1, .slice Al nl cl, .slice As ns cs, f4] 40)).alloc (.cells #[.int .u8 (K : Int), .int .u8 (A : Int), .int .u8 (B : Int), .int .u8 (C : Int)] 77)).alloc (.cells #[.int .u8 0, .int .u8 0, .int .i64 0, .int .u8 0, .int .i64 0, .slice none 0 0, .slice none 0 0] 50)) w.heap.size 30 #[m0, .slice Ag ng cg, .slice Af nf cf, m3]) := (((Blk.new w 30 _).alloc _).alloc _).alloc _
  have KF : Hid (Blk ((((w.alloc (.cells #[m0, .slice Ag ng cg, .slice Af nf cf, m3] 30)).alloc (.cells #[f0, f1, .slice Al nl cl, .slice As ns cs, f4] 40)).alloc (.cells #[.int .u8 (K : Int), .int .u8 (A : Int), .int .u8 (B : Int), .int .u8 (C : Int)] 77)).alloc (.cells #[.int .u8 0, .int .u8 0, .int .i64 0, .int .u8 0, .int .i64 0, .slice none 0 0, .slice none 0 0] 50)) (w.heap.size + 1) 40 #[f0, f1, .slice Al nl cl, .slice As ns cs, f4]) := ((Blk.new' _ 40 _ _ (by simp)).alloc _).alloc _
  have KX : Hid (Blk ((((w.alloc (.cells #[m0, .slice Ag ng cg, .slice Af nf cf, m3] 30)).alloc (.cells #[f0, f1, .slice Al nl cl, .slice As ns cs, f4] 40)).alloc (.cells #[.int .u8 (K : Int), .int .u8 (A : Int), .int .u8 (B : Int), .int .u8 (C : Int)] 77)).alloc (.cells #[.int .u8 0, .int .u8 0, .int .i64 0, .int .u8 0, .int .i64 0, .slice none 0 0, .slice none 0 0] 50)) (w.heap.size + 1 + 1) 77 #[.int .u8 (K : Int), .int .u8 (A : Int), .int .u8 (B : Int), .int .u8 (C : Int)]) := (Blk.new' _ 77 _ _ (by simp)).alloc _
  have KR : Hid (Blk ((((w.alloc (.cells #[m0, .slice Ag ng cg, .slice Af nf cf, m3] 30)).alloc (.cells #[f0, f1, .slice Al nl cl, .slice As ns cs, f4] 40)).alloc (.cells #[.int .u8 (K : Int), .int .u8 (A : Int), .int .u8 (B : Int), .int .u8 (C : Int)] 77)).alloc (.cells #[.int .u8 0, .int .u8 0, .int .i64 0, .int .u8 0, .int .i64 0, .slice none 0 0, .slice none 0 0] 50)) (w.heap.size + 1 + 1 + 1) 50 #[.int .u8 0, .int .u8 0, .int .i64 0, .int .u8 0, .int .i64 0, .slice none 0 0, .slice none 0 0]) := Blk.new' _ 50 _ _ (by simp)
  go_enter Try.func33, Try.ntmps33
  go_wp2_with fail
  refine (HV1.out _).mono ?_
  rintro e w1 ⟨rfl, hb1⟩
  have HB1 := Lib.hid (HB0.out.trans (hb1.mono HB0.out.size))
  have KM1 := Lib.hid (KM.out.old hb1)
  have KF1 := Lib.hid (KF.out.old hb1)
  have KX1 := Lib.hid (KX.out.old hb1)
  have KR1 := Lib.hid (KR.out.old hb1)
  have z1 : w.heap.size + 1 + 1 + 1 < w1.heap.size := KR1.out.lt
  have z2 : w.heap.size + 1 + 1 < w1.heap.size := by omega
  have z3 : w.heap.size + 1 < w1.heap.size := by omega
  have z4 : w.heap.size < w1.heap.size := by omega
  obtain ⟨m01, m11, m21, m31⟩ := KM1.out.c4
  obtain ⟨f01, f11, f21, f31, f41⟩ := KF1.out.c5
  obtain ⟨x01, x11, x21, x31⟩ := KX1.out.c4
  clear hb1
  go_wp2_with fail
  refine (HV2.out _).mono ?_
  rintro e w2 ⟨rfl, hb2⟩
  have HB2 := Lib.hid ((HB1.out.alloc HB1.out.size (.cells #[.int .u8 va1, .int .i64 va2] 46)).trans (hb2.mono (by have := HB1.out.size; simp; omega)))
  have KM2 := Lib.hid ((KM1.out.alloc (.cells #[.int .u8 va1, .int .i64 va2] 46)).old hb2)
  have KF2 := Lib.hid ((KF1.out.alloc (.cells #[.int .u8 va1, .int .i64 va2] 46)).old hb2)
  have KX2 := Lib.hid ((KX1.out.alloc (.cells #[.int .u8 va1, .int .i64 va2] 46)).old hb2)
  have KR2 := Lib.hid ((KR1.out.alloc (.cells #[.int .u8 va1, .int .i64 va2] 46)).old hb2)
  have KA2 := Lib.hid ((Blk.new w1 46 #[.int .u8 va1, .int .i64 va2]).old hb2)
  have y0 : w1.heap.size < w2.heap.size := KA2.out.lt
  have y1 : w.heap.size + 1 + 1 + 1 < w2.heap.size := by omega
  have y2 : w.heap.size + 1 + 1 < w2.heap.size := by omega
  have y3 : w.heap.size + 1 < w2.heap.size := by omega
  have y4 : w.heap.size < w2.heap.size := by omega
  clear m01 m11 m21 m31 f01 f11 f21 f31 f41 x01 x11 x21 x31 hb2
  obtain ⟨m02, m12, m22, m32⟩ := KM2.out.c4
  obtain ⟨f02, f12, f22, f32, f42⟩ := KF2.out.c5
  obtain ⟨x02, x12, x22, x32⟩ := KX2.out.c4
  obtain ⟨a02, a12⟩ := KA2.out.c2
  obtain ⟨r02, r12, r22, r32, r42, r52, r62⟩ := KR2.out.c7
  have q0 := KR2.out.frozen 0
  have q1 := KR2.out.frozen 1
  have q2 := KR2.out.frozen 2
  have q3 := KR2.out.frozen 3
  have q4 := KR2.out.frozen 4
  have q5 := KR2.out.frozen 5
  have q6 := KR2.out.frozen 6
  have u0 : w1.heap.size < w2.heap.size + 1 := by omega
  have u1 : w.heap.size + 1 + 1 + 1 < w2.heap.size + 1 := by omega
  have u2 : w.heap.size + 1 + 1 < w2.heap.size + 1 := by omega
  have u3 : w.heap.size + 1 < w2.heap.size + 1 := by omega
  have u4 : w.heap.size < w2.heap.size + 1 := by omega
  go_wp2
  refine bodyPost_ret (v := .agg #[.int .u8 1, .int .u8 va1, .int .i64 va2, .int .u8 vb1, .int .i64 vb2, .slice none 0 0, .slice none 0 0]) (by simp [results, Try.results33, go_sem, y1, u1, r02, r12, r22, r32, r42, r52, r62]) rfl ?_
  rw [HS.out]
  exact ⟨.slice none 0 0, none, 0, rfl, noArgs _ _, noBody _ _ _, ((set7 HB2.out (by omega) _ _ _ _ _ _ _).alloc (by have := HB2.out.size; simp [World.setCell]; omega) _).alloc (by have := HB2.out.size; simp [World.setCell]; omega) _⟩
set_option maxRecDepth 20000 in
set_option maxHeartbeats 1000000 in
theorem stm_take01 (m0 m3 f0 f1 f4 : Value) (Ag Af Al As : Option Addr) (ng cg nf cf nl cl ns cs K A B C : Nat) (par : Nat → Nat) (w : World) (hK : K < 256) (hA : A < 256) (hB : B < 256) (hC : C < 256) (hl : nl ≤ 1000000) (hg : ng ≤ 1000000) (hp : 0 < nl + ng) (h10 : K % 10 = 0) (h4 : C % 4 = 1) (hnf : 0 < nf) (hnf2 : nf ≤ 1000000) :
    Calls Try.prog 33 #[.agg #[m0, .slice Ag ng cg, .slice Af nf cf, m3], .agg #[f0, f1, .slice Al nl cl, .slice As ns cs, f4], .agg #[.int .u8 (K : Int), .int .u8 (A : Int), .int .u8 (B : Int), .int .u8 (C : Int)]] w (StPost w (stm0 nl ng nf ns par K A B C)) := by
  have HS : Hid (stm0 nl ng nf ns par K A B C = ⟨1, varF nl ng A, (3, ((B % nf : Nat) : Int)), [], .nil⟩) := by show _ = _; unfold stm0; simp [h10, h4]
  have hm : (K : Int) % 10 = 0 := by omega
  have hm4 : (C : Int) % 4 = 1 := by omega
  have hk : ((B : Int).tmod (nf : Int)) = ((B % nf : Nat) : Int) := u8mod B nf hnf
  have hk0 : ((nf : Int) == 0) = false := by simp; omega
  generalize B % nf = bn at *
  have HB0 : Hid (Below w.heap.size w ((((w.alloc (.cells #[m0, .slice Ag ng cg, .slice Af nf cf, m3] 30)).alloc (.cells #[f0, f1, .slice Al nl cl, .slice As ns cs, f4] 40)).alloc (.cells #[.int .u8 (K : Int), .int .u8 (A : Int), .int .u8 (B : Int), .int .u8 (C : Int)] 77)).alloc (.cells #[.int .u8 0, .int .u8 0, .int .i64 0, .int .u8 0, .int .i64 0, .slice none 0 0, .slice none 0 0] 50))) := ((((Below.refl _ _).alloc (Nat.le_refl _) _).alloc (by simp) _).alloc (by simp; omega) _).alloc (by simp; omega) _
  have HV1 := Lib.hid (fun w' => variables_any m0 (.slice Af nf cf) m3 f0 f1 (.slice As ns cs) f4 Ag Al ng cg nl cl A w' hA hl hg hp)
  have HV2 := Lib.hid (fun w' => variables_any m0 (.slice Af nf cf) m3 f0 f1 (.slice As ns cs) f4 Ag Al ng cg nl cl B w' hB hl hg hp)
  generalize varF nl ng A = va at *
  generalize varF nl ng B = vb at *
  generalize stm0 nl ng nf ns par K A B C = s at *
  obtain ⟨va1, va2⟩ := va
  obtain ⟨vb1, vb2⟩ := vb
  have KM : Hid (Blk ((((w.alloc (.cells #[m0, .slice Ag ng cg, .slice Af nf cf, m3] 30)).alloc (.cells #[f0, f1, .slice Al nl cl, .slice As ns cs, f4] 40)).alloc (.cells #[.int .u8 (K : Int), .int .u8 (A : Int), .int .u8 (B : Int), .int .u8 (C : Int)] 77)).alloc (.cells #[.int .u8 0, .int .u8 0, .int .i64 0, .int .u8 0, .int .i64 0, .slice none 0 0, .slice none 0 0] 50)) w.heap.size 30 #[m0, .slice Ag ng cg, .slice Af nf cf, m3]) := (((Blk.new w 30 _).alloc _).alloc _).alloc _
  have KF : Hid (Blk ((((w.alloc (.cells #[m0, .slice Ag ng cg, .slice Af nf cf, m3] 30)).alloc (.cells #[f0, f1, .slice Al nl cl, .slice As ns cs, f4] 40)).alloc (.cells #[.int .u8 (K : Int), .int .u8 (A : Int), .int .u8 (B : Int), .int .u8 (C : Int)] 77)).alloc (.cells #[.int .u8 0, .int .u8 0, .int .i64 0, .int .u8 0, .int .i64 0, .slice none 0 0, .slice none 0 0] 50)) (w.heap.size + 1) 40 #[f0, f1, .slice Al nl cl, .slice As ns cs, f4]) := ((Blk.new' _ 40 _ _ (by simp)).alloc _).alloc _
  have KX : Hid (Blk ((((w.alloc (.cells #[m0, .slice Ag ng cg, .slice Af nf cf, m3] 30)).alloc (.cells #[f0, f1, .slice Al nl cl, .slice As ns cs, f4] 40)).alloc (.cells #[.int .u8 (K : Int), .int .u8 (A : Int), .int .u8 (B : Int), .int .u8 (C : Int)] 77)).alloc (.cells #[.int .u8 0, .int .u8 0, .int .i64 0, .int .u8 0, .int .i64 0, .slice none 0 0, .slice none 0 0] 50)) (w.heap.size + 1 + 1) 77 #[.int .u8 (K : Int), .int .u8 (A : Int), .int .u8 (B : Int), .int .u8 (C : Int)]) := (Blk.new' _ 77 _ _ (by simp)).alloc _
  have KR : Hid (Blk ((((w.alloc (.cells #[m0, .slice Ag ng cg, .slice Af nf cf, m3] 30)).alloc (.cells #[f0, f1, .slice Al nl cl, .slice As ns cs, f4] 40)).alloc (.cells #[.int .u8 (K : Int), .int .u8 (A : Int), .int .u8 (B : Int), .int .u8 (C : Int)] 77)).alloc (.cells #[.int .u8 0, .int .u8 0, .int .i64 0, .int .u8 0, .int .i64 0, .slice none 0 0, .slice none 0 0] 50)) (w.heap.size + 1 + 1 + 1) 50 #[.int .u8 0, .int .u8 0, .int .i64 0, .int .u8 0, .int .i64 0, .slice none 0 0, .slice none 0 0]) := Blk.new' _ 50 _ _ (by simp)
  go_enter Try.func33, Try.ntmps33
  go_wp2_with fail
  refine (HV1.out _).mono ?_
  rintro e w1 ⟨rfl, hb1⟩
  have HB1 := Lib.hid (HB0.out.trans (hb1.mono HB0.out.size))
  have KM1 := Lib.hid (KM.out.old hb1)
  have KF1 := Lib.hid (KF.out.old hb1)
  have KX1 := Lib.hid (KX.out.old hb1)
  have KR1 := Lib.hid (KR.out.old hb1)
  have z1 : w.heap.size + 1 + 1 + 1 < w1.heap.size := KR1.out.lt
  have z2 : w.heap.size + 1 + 1 < w1.heap.size := by omega
  have z3 : w.heap.size + 1 < w1.heap.size := by omega
  have z4 : w.heap.size < w1.heap.size := by omega
  obtain ⟨m01, m11, m21, m31⟩ := KM1.out.c4
  obtain ⟨f01, f11, f21, f31, f41⟩ := KF1.out.c5
  obtain ⟨x01, x11, x21, x31⟩ := KX1.out.c4
  clear hb1
  go_wp2_with fail
  refine (HV2.out _).mono ?_
  rintro e w2 ⟨rfl, hb2⟩
  have HB2 := Lib.hid ((HB1.out.alloc HB1.out.size (.cells #[.int .u8 va1, .int .i64 va2] 46)).trans (hb2.mono (by have := HB1.out.size; simp; omega)))
  have KM2 := Lib.hid ((KM1.out.alloc (.cells #[.int .u8 va1, .int .i64 va2] 46)).old hb2)
  have KF2 := Lib.hid ((KF1.out.alloc (.cells #[.int .u8 va1, .int .i64 va2] 46)).old hb2)
  have KX2 := Lib.hid ((KX1.out.alloc (.cells #[.int .u8 va1, .int .i64 va2] 46)).old hb2)
  have KR2 := Lib.hid ((KR1.out.alloc (.cells #[.int .u8 va1, .int .i64 va2] 46)).old hb2)
  have KA2 := Lib.hid ((Blk.new w1 46 #[.int .u8 va1, .int .i64 va2]).old hb2)
  have y0 : w1.heap.size < w2.heap.size := KA2.out.lt
  have y1 : w.heap.size + 1 + 1 + 1 < w2.heap.size := by omega
  have y2 : w.heap.size + 1 + 1 < w2.heap.size := by omega
  have y3 : w.heap.size + 1 < w2.heap.size := by omega
  have y4 : w.heap.size < w2.heap.size := by omega
  clear m01 m11 m21 m31 f01 f11 f21 f31 f41 x01 x11 x21 x31 hb2
  obtain ⟨m02, m12, m22, m32⟩ := KM2.out.c4
  obtain ⟨f02, f12, f22, f32, f42⟩ := KF2.out.c5
  obtain ⟨x02, x12, x22, x32⟩ := KX2.out.c4
  obtain ⟨a02, a12⟩ := KA2.out.c2
  obtain ⟨r02, r12, r22, r32, r42, r52, r62⟩ := KR2.out.c7
  have q0 := KR2.out.frozen 0
  have q1 := KR2.out.frozen 1
  have q2 := KR2.out.frozen 2
  have q3 := KR2.out.frozen 3
  have q4 := KR2.out.frozen 4
  have q5 := KR2.out.frozen 5
  have q6 := KR2.out.frozen 6
  have u0 : w1.heap.size < w2.heap.size + 1 := by omega
  have u1 : w.heap.size + 1 + 1 + 1 < w2.heap.size + 1 := by omega
  have u2 : w.heap.size + 1 + 1 < w2.heap.size + 1 := by omega
  have u3 : w.heap.size + 1 < w2.heap.size + 1 := by omega
  have u4 : w.heap.size < w2.heap.size + 1 := by omega
  go_wp2
  refine bodyPost_ret (v := .agg #[.int .u8 1, .int .u8 va1, .int .i64 va2, .int .u8 3, .int .i64 (bn : Int), .slice none 0 0, .slice none 0 0]) (by simp [results, Try.results33, go_sem, y1, u1, r02, r12, r22, r32, r42, r52, r62]) rfl ?_
  rw [HS.out]
  exact ⟨.slice none 0 0, none, 0, rfl, noArgs _ _, noBody _ _ _, ((set7 HB2.out (by omega) _ _ _ _ _ _ _).alloc (by have := HB2.out.size; simp [World.setCell]; omega) _).alloc (by have := HB2.out.size; simp [World.setCell]; omega) _⟩
set_option maxRecDepth 20000 in
set_option maxHeartbeats 1000000 in
theorem stm_take02 (m0 m3 f0 f1 f4 : Value) (Ag Af Al As : Option Addr) (ng cg nf cf nl cl ns cs K A B C : Nat) (par : Nat → Nat) (w : World) (hK : K < 256) (hA : A < 256) (hB : B < 256) (hC : C < 256) (hl : nl ≤ 1000000) (hg : ng ≤ 1000000) (hp : 0 < nl + ng) (h10 : K % 10 = 0) (h4 : C % 4 = 2) (hns : 0 < ns) (hns2 : ns ≤ 1000000) :
    Calls Try.prog 33 #[.agg #[m0, .slice Ag ng cg, .slice Af nf cf, m3], .agg #[f0, f1, .slice Al nl cl, .slice As ns cs, f4], .agg #[.int .u8 (K : Int), .int .u8 (A : Int), .int .u8 (B : Int), .int .u8 (C : Int)]] w (StPost w (stm0 nl ng nf ns par K A B C)) := by
  have HS : Hid (stm0 nl ng nf ns par K A B C = ⟨1, varF nl ng A, (4, ((B % ns : Nat) : Int)), [], .nil⟩) := by show _ = _; unfold stm0; simp [h10, h4]
  have hm : (K : Int) % 10 = 0 := by omega
  have hm4 : (C : Int) % 4 = 2 := by omega
  have hk : ((B : Int).tmod (ns : Int)) = ((B % ns : Nat) : Int) := u8mod B ns hns
  have hk0 : ((ns : Int) == 0) = false := by simp; omega
  generalize B % ns = bn at *
  have HB0 : Hid (Below w.heap.size w ((((w.alloc (.cells #[m0, .slice Ag ng cg, .slice Af nf cf, m3] 30)).alloc (.cells #[f0, f1, .slice Al nl cl, .slice As ns cs, f4] 40)).alloc (.cells #[.int .u8 (K : Int), .int .u8 (A : Int), .int .u8 (B : Int), .int .u8 (C : Int)] 77)).alloc (.cells #[.int .u8 0, .int .u8 0, .int .i64 0, .int .u8 0, .int .i64 0, .slice none 0 0, .slice none 0 0] 50))) := ((((Below.refl _ _).alloc (Nat.le_refl _) _).alloc (by simp) _).alloc (by simp; omega) _).alloc (by simp; omega) _
  have HV1 := Lib.hid (fun w' => variables_any m0 (.slice Af nf cf) m3 f0 f1 (.slice As ns cs) f4 Ag Al ng cg nl cl A w' hA hl hg hp)
  have HV2 := Lib.hid (fun w' => variables_any m0 (.slice Af nf cf) m3 f0 f1 (.slice As ns cs) f4 Ag Al ng cg nl cl B w' hB hl hg hp)
  generalize varF nl ng A = va at *
  generalize varF nl ng B = vb at *
  generalize stm0 nl ng nf ns par K A B C = s at *
  obtain ⟨va1, va2⟩ := va
  obtain ⟨vb1, vb2⟩ := vb
  have KM : Hid (Blk ((((w.alloc (.cells #[m0, .slice Ag ng cg, .slice Af nf cf, m3] 30)).alloc (.cells #[f0, f1, .slice Al nl cl, .slice As ns cs, f4] 40)).alloc (.cells #[.int .u8 (K : Int), .int .u8 (A : Int), .int .u8 (B : Int), .int .u8 (C : Int)] 77)).alloc (.cells #[.int .u8 0, .int .u8 0, .int .i64 0, .int .u8 0, .int .i64 0, .slice none 0 0, .slice none 0 0] 50)) w.heap.size 30 #[m0, .slice Ag ng cg, .slice Af nf cf, m3]) := (((Blk.new w 30 _).alloc _).alloc _).alloc _
  have KF : Hid (Blk ((((w.alloc (.cells #[m0, .slice Ag ng cg, .slice Af nf cf, m3] 30)).alloc (.cells #[f0, f1, .slice Al nl cl, .slice As ns cs, f4] 40)).alloc (.cells #[.int .u8 (K : Int), .int .u8 (A : Int), .int .u8 (B : Int), .int .u8 (C : Int)] 77)).alloc (.cells #[.int .u8 0, .int .u8 0, .int .i64 0, .int .u8 0, .int .i64 0, .slice none 0 0, .slice none 0 0] 50)) (w.heap.size + 1) 40 #[f0, f1, .slice Al nl cl, .slice As ns cs, f4]) := ((Blk.new' _ 40 _ _ (by simp)).alloc _).alloc _
  have KX : Hid (Blk ((((w.alloc (.cells #[m0, .slice Ag ng cg, .slice Af nf cf, m3] 30)).alloc (.cells #[f0, f1, .slice Al nl cl, .slice As ns cs, f4] 40)).alloc (.cells #[.int .u8 (K : Int), .int .u8 (A : Int), .int .u8 (B : Int), .int .u8 (C : Int)] 77)).alloc (.cells #[.int .u8 0, .int .u8 0, .int .i64 0, .int .u8 0, .int .i64 0, .slice none 0 0, .slice none 0 0] 50)) (w.heap.size + 1 + 1) 77 #[.int .u8 (K : Int), .int .u8 (A : Int), .int .u8 (B : Int), .int .u8 (C : Int)]) := (Blk.new' _ 77 _ _ (by simp)).alloc _
  have KR : Hid (Blk ((((w.alloc (.cells #[m0, .slice Ag ng cg, .slice Af nf cf, m3] 30)).alloc (.cells #[f0, f1, .slice Al nl cl, .slice As ns cs, f4] 40)).alloc (.cells #[.int .u8 (K : Int), .int .u8 (A : Int), .int .u8 (B : Int), .int .u8 (C : Int)] 77)).alloc (.cells #[.int .u8 0, .int .u8 0, .int .i64 0, .int .u8 0, .int .i64 0, .slice none 0 0, .slice none 0 0] 50)) (w.heap.size + 1 + 1 + 1) 50 #[.int .u8 0, .int .u8 0, .int .i64 0, .int .u8 0, .int .i64 0, .slice none 0 0, .slice none 0 0]) := Blk.new' _ 50 _ _ (by simp)
  go_enter Try.func33, Try.ntmps33
  go_wp2_with fail
  refine (HV1.out _).mono ?_
  rintro e w1 ⟨rfl, hb1⟩
  have HB1 := Lib.hid (HB0.out.trans (hb1.mono HB0.out.size))
  have KM1 := Lib.hid (KM.out.old hb1)
  have KF1 := Lib.hid (KF.out.old hb1)
  have KX1 := Lib.hid (KX.out.old hb1)
  have KR1 := Lib.hid (KR.out.old hb1)
  have z1 : w.heap.size + 1 + 1 + 1 < w1.heap.size := KR1.out.lt
  have z2 : w.heap.size + 1 + 1 < w1.heap.size := by omega
  have z3 : w.heap.size + 1 < w1.heap.size := by omega
  have z4 : w.heap.size < w1.heap.size := by omega
  obtain ⟨m01, m11, m21, m31⟩ := KM1.out.c4
  obtain ⟨f01, f11, f21, f31, f41⟩ := KF1.out.c5
  obtain ⟨x01, x11, x21, x31⟩ := KX1.out.c4
  clear hb1
  go_wp2_with fail
  refine (HV2.out _).mono ?_
  rintro e w2 ⟨rfl, hb2⟩
  have HB2 := Lib.hid ((HB1.out.alloc HB1.out.size (.cells #[.int .u8 va1, .int .i64 va2] 46)).trans (hb2.mono (by have := HB1.out.size; simp; omega)))
  have KM2 := Lib.hid ((KM1.out.alloc (.cells #[.int .u8 va1, .int .i64 va2] 46)).old hb2)
  have KF2 := Lib.hid ((KF1.out.alloc (.cells #[.int .u8 va1, .int .i64 va2] 46)).old hb2)
  have KX2 := Lib.hid ((KX1.out.alloc (.cells #[.int .u8 va1, .int .i64 va2] 46)).old hb2)
  have KR2 := Lib.hid ((KR1.out.alloc (.cells #[.int .u8 va1, .int .i64 va2] 46)).old hb2)
  have KA2 := Lib.hid ((Blk.new w1 46 #[.int .u8 va1, .int .i64 va2]).old hb2)
  have y0 : w1.heap.size < w2.heap.size := KA2.out.lt
  have y1 : w.heap.size + 1 + 1 + 1 < w2.heap.size := by omega
  have y2 : w.heap.size + 1 + 1 < w2.heap.size := by omega
  have y3 : w.heap.size + 1 < w2.heap.size := by omega
  have y4 : w.heap.size < w2.heap.size := by omega
  clear m01 m11 m21 m31 f01 f11 f21 f31 f41 x01 x11 x21 x31 hb2
  obtain ⟨m02, m12, m22, m32⟩ := KM2.out.c4
  obtain ⟨f02, f12, f22, f32, f42⟩ := KF2.out.c5
  obtain ⟨x02, x12, x22, x32⟩ := KX2.out.c4
  obtain ⟨a02, a12⟩ := KA2.out.c2
  obtain ⟨r02, r12, r22, r32, r42, r52, r62⟩ := KR2.out.c7
  have q0 := KR2.out.frozen 0
  have q1 := KR2.out.frozen 1
  have q2 := KR2.out.frozen 2
  have q3 := KR2.out.frozen 3
  have q4 := KR2.out.frozen 4
  have q5 := KR2.out.frozen 5
  have q6 := KR2.out.frozen 6
  have u0 : w1.heap.size < w2.heap.size + 1 := by omega
  have u1 : w.heap.size + 1 + 1 + 1 < w2.heap.size + 1 := by omega
  have u2 : w.heap.size + 1 + 1 < w2.heap.size + 1 := by omega
  have u3 : w.heap.size + 1 < w2.heap.size + 1 := by omega
  have u4 : w.heap.size < w2.heap.size + 1 := by omega
  go_wp2
  refine bodyPost_ret (v := .agg #[.int .u8 1, .int .u8 va1, .int .i64 va2, .int .u8 4, .int .i64 (bn : Int), .slice none 0 0, .slice none 0 0]) (by simp [results, Try.results33, go_sem, y1, u1, r02, r12, r22, r32, r42, r52, r62]) rfl ?_
  rw [HS.out]
  exact ⟨.slice none 0 0, none, 0, rfl, noArgs _ _, noBody _ _ _, ((set7 HB2.out (by omega) _ _ _ _ _ _ _).alloc (by have := HB2.out.size; simp [World.setCell]; omega) _).alloc (by have := HB2.out.size; simp [World.setCell]; omega) _⟩
set_option maxRecDepth 20000 in
set_option maxHeartbeats 1000000 in
theorem stm_take03 (m0 m3 f0 f1 f4 : Value) (Ag Af Al As : Option Addr) (ng cg nf cf nl cl ns cs K A B C : Nat) (par : Nat → Nat) (w : World) (hK : K < 256) (hA : A < 256) (hB : B < 256) (hC : C < 256) (hl : nl ≤ 1000000) (hg : ng ≤ 1000000) (hp : 0 < nl + ng) (h10 : K % 10 = 0) (h4 : C % 4 = 3) (hns : 0 < ns) (hns2 : ns ≤ 1000000) :
    Calls Try.prog 33 #[.agg #[m0, .slice Ag ng cg, .slice Af nf cf, m3], .agg #[f0, f1, .slice Al nl cl, .slice As ns cs, f4], .agg #[.int .u8 (K : Int), .int .u8 (A : Int), .int .u8 (B : Int), .int .u8 (C : Int)]] w (StPost w (stm0 nl ng nf ns par K A B C)) := by
  have HS : Hid (stm0 nl ng nf ns par K A B C = ⟨1, varF nl ng A, (4, ((B % ns : Nat) : Int)), [], .nil⟩) := by show _ = _; unfold stm0; simp [h10, h4]
  have hm : (K : Int) % 10 = 0 := by omega
  have hm4 : (C : Int) % 4 = 3 := by omega
  have hk : ((B : Int).tmod (ns : Int)) = ((B % ns : Nat) : Int) := u8mod B ns hns
  have hk0 : ((ns : Int) == 0) = false := by simp; omega
  generalize B % ns = bn at *
  have HB0 : Hid (Below w.heap.size w ((((w.alloc (.cells #[m0, .slice Ag ng cg, .slice Af nf cf, m3] 30)).alloc (.cells #[f0, f1, .slice Al nl cl, .slice As ns cs, f4] 40)).alloc (.cells #[.int .u8 (K : Int), .int .u8 (A : Int), .int .u8 (B : Int), .int .u8 (C : Int)] 77)).alloc (.cells #[.int .u8 0, .int .u8 0, .int .i64 0, .int .u8 0, .int .i64 0, .slice none 0 0, .slice none 0 0] 50))) := ((((Below.refl _ _).alloc (Nat.le_refl _) _).alloc (by simp) _).alloc (by simp; omega) _).alloc (by simp; omega) _
  have HV1 := Lib.hid (fun w' => variables_any m0 (.slice Af nf cf) m3 f0 f1 (.slice As ns cs) f4 Ag Al ng cg nl cl A w' hA hl hg hp)
  have HV2 := Lib.hid (fun w' => variables_any m0 (.slice Af nf cf) m3 f0 f1 (.slice As ns cs) f4 Ag Al ng cg nl cl B w' hB hl hg hp)
  generalize varF nl ng A = va at *
  generalize varF nl ng B = vb at *
  generalize stm0 nl ng nf ns par K A B C = s at *
  obtain ⟨va1, va2⟩ := va
  obtain ⟨vb1, vb2⟩ := vb
  have KM : Hid (Blk ((((w.alloc (.cells #[m0, .slice Ag ng cg, .slice Af nf cf, m3] 30)).alloc (.cells #[f0, f1, .slice Al nl cl, .slice As ns cs, f4] 40)).alloc (.cells #[.int .u8 (K : Int), .int .u8 (A : Int), .int .u8 (B : Int), .int .u8 (C : Int)] 77)).alloc (.cells #[.int .u8 0, .int .u8 0, .int .i64 0, .int .u8 0, .int .i64 0, .slice none 0 0, .slice none 0 0] 50)) w.heap.size 30 #[m0, .slice Ag ng cg, .slice Af nf cf, m3]) := (((Blk.new w 30 _).alloc _).alloc _).alloc _
  have KF : Hid (Blk ((((w.alloc (.cells #[m0, .slice Ag ng cg, .slice Af nf cf, m3] 30)).alloc (.cells #[f0, f1, .slice Al nl cl, .slice As ns cs, f4] 40)).alloc (.cells #[.int .u8 (K : Int), .int .u8 (A : Int), .int .u8 (B : Int), .int .u8 (C : Int)] 77)).alloc (.cells #[.int .u8 0, .int .u8 0, .int .i64 0, .int .u8 0, .int .i64 0, .slice none 0 0, .slice none 0 0] 50)) (w.heap.size + 1) 40 #[f0, f1, .slice Al nl cl, .slice As ns cs, f4]) := ((Blk.new' _ 40 _ _ (by simp)).alloc _).alloc _
  have KX : Hid (Blk ((((w.alloc (.cells #[m0, .slice Ag ng cg, .slice Af nf cf, m3] 30)).alloc (.cells #[f0, f1, .slice Al nl cl, .slice As ns cs, f4] 40)).alloc (.cells #[.int .u8 (K : Int), .int .u8 (A : Int), .int .u8 (B : Int), .int .u8 (C : Int)] 77)).alloc (.cells #[.int .u8 0, .int .u8 0, .int .i64 0, .int .u8 0, .int .i64 0, .slice none 0 0, .slice none 0 0] 50)) (w.heap.size + 1 + 1) 77 #[.int .u8 (K : Int), .int .u8 (A : Int), .int .u8 (B : Int), .int .u8 (C : Int)]) := (Blk.new' _ 77 _ _ (by simp)).alloc _
  have KR : Hid (Blk ((((w.alloc (.cells #[m0, .slice Ag ng cg, .slice Af nf cf, m3] 30)).alloc (.cells #[f0, f1, .slice Al nl cl, .slice As ns cs, f4] 40)).alloc (.cells #[.int .u8 (K : Int), .int .u8 (A : Int), .int .u8 (B : Int), .int .u8 (C : Int)] 77)).alloc (.cells #[.int .u8 0, .int .u8 0, .int .i64 0, .int .u8 0, .int .i64 0, .slice none 0 0, .slice none 0 0] 50)) (w.heap.size + 1 + 1 + 1) 50 #[.int .u8 0, .int .u8 0, .int .i64 0, .int .u8 0, .int .i64 0, .slice none 0 0, .slice none 0 0]) := Blk.new' _ 50 _ _ (by simp)
  go_enter Try.func33, Try.ntmps33
  go_wp2_with fail
  refine (HV1.out _).mono ?_
  rintro e w1 ⟨rfl, hb1⟩
  have HB1 := Lib.hid (HB0.out.trans (hb1.mono HB0.out.size))
  have KM1 := Lib.hid (KM.out.old hb1)
  have KF1 := Lib.hid (KF.out.old hb1)
  have KX1 := Lib.hid (KX.out.old hb1)
  have KR1 := Lib.hid (KR.out.old hb1)
  have z1 : w.heap.size + 1 + 1 + 1 < w1.heap.size := KR1.out.lt
  have z2 : w.heap.size + 1 + 1 < w1.heap.size := by omega
  have z3 : w.heap.size + 1 < w1.heap.size := by omega
  have z4 : w.heap.size < w1.heap.size := by omega
  obtain ⟨m01, m11, m21, m31⟩ := KM1.out.c4
  obtain ⟨f01, f11, f21, f31, f41⟩ := KF1.out.c5
  obtain ⟨x01, x11, x21, x31⟩ := KX1.out.c4
  clear hb1
  go_wp2_with fail
  refine (HV2.out _).mono ?_
  rintro e w2 ⟨rfl, hb2⟩
  have HB2 := Lib.hid ((HB1.out.alloc HB1.out.size (.cells #[.int .u8 va1, .int .i64 va2] 46)).trans (hb2.mono (by have := HB1.out.size; simp; omega)))
  have KM2 := Lib.hid ((KM1.out.alloc (.cells #[.int .u8 va1, .int .i64 va2] 46)).old hb2)
  have KF2 := Lib.hid ((KF1.out.alloc (.cells #[.int .u8 va1, .int .i64 va2] 46)).old hb2)
  have KX2 := Lib.hid ((KX1.out.alloc (.cells #[.int .u8 va1, .int .i64 va2] 46)).old hb2)
  have KR2 := Lib.hid ((KR1.out.alloc (.cells #[.int .u8 va1, .int .i64 va2] 46)).old hb2)
  have KA2 := Lib.hid ((Blk.new w1 46 #[.int .u8 va1, .int .i64 va2]).old hb2)
  have y0 : w1.heap.size < w2.heap.size := KA2.out.lt
  have y1 : w.heap.size + 1 + 1 + 1 < w2.heap.size := by omega
  have y2 : w.heap.size + 1 + 1 < w2.heap.size := by omega
  have y3 : w.heap.size + 1 < w2.heap.size := by omega
  have y4 : w.heap.size < w2.heap.size := by omega
  clear m01 m11 m21 m31 f01 f11 f21 f31 f41 x01 x11 x21 x31 hb2
  obtain ⟨m02, m12, m22, m32⟩ := KM2.out.c4
  obtain ⟨f02, f12, f22, f32, f42⟩ := KF2.out.c5
  obtain ⟨x02, x12, x22, x32⟩ := KX2.out.c4
  obtain ⟨a02, a12⟩ := KA2.out.c2
  obtain ⟨r02, r12, r22, r32, r42, r52, r62⟩ := KR2.out.c7
  have q0 := KR2.out.frozen 0
  have q1 := KR2.out.frozen 1
  have q2 := KR2.out.frozen 2
  have q3 := KR2.out.frozen 3
  have q4 := KR2.out.frozen 4
  have q5 := KR2.out.frozen 5
  have q6 := KR2.out.frozen 6
  have u0 : w1.heap.size < w2.heap.size + 1 := by omega
  have u1 : w.heap.size + 1 + 1 + 1 < w2.heap.size + 1 := by omega
  have u2 : w.heap.size + 1 + 1 < w2.heap.size + 1 := by omega
  have u3 : w.heap.size + 1 < w2.heap.size + 1 := by omega
  have u4 : w.heap.size < w2.heap.size + 1 := by omega
  go_wp2
  refine bodyPost_ret (v := .agg #[.int .u8 1, .int .u8 va1, .int .i64 va2, .int .u8 4, .int .i64 (bn : Int), .slice none 0 0, .slice none 0 0]) (by simp [results, Try.results33, go_sem, y1, u1, r02, r12, r22, r32, r42, r52, r62]) rfl ?_
  rw [HS.out]
  exact ⟨.slice none 0 0, none, 0, rfl, noArgs _ _, noBody _ _ _, ((set7 HB2.out (by omega) _ _ _ _ _ _ _).alloc (by have := HB2.out.size; simp [World.setCell]; omega) _).alloc (by have := HB2.out.size; simp [World.setCell]; omega) _⟩
set_option maxRecDepth 20000 in
set_option maxHeartbeats 1000000 in
theorem stm_take10 (m0 m3 f0 f1 f4 : Value) (Ag Af Al As : Option Addr) (ng cg nf cf nl cl ns cs K A B C : Nat) (par : Nat → Nat) (w : World) (hK : K < 256) (hA : A < 256) (hB : B < 256) (hC : C < 256) (hl : nl ≤ 1000000) (hg : ng ≤ 1000000) (hp : 0 < nl + ng) (h10 : K % 10 = 1) (h4 : C % 4 = 0) :
    Calls Try.prog 33 #[.agg #[m0, .slice Ag ng cg, .slice Af nf cf, m3], .agg #[f0, f1, .slice Al nl cl, .slice As ns cs, f4], .agg #[.int .u8 (K : Int), .int .u8 (A : Int), .int .u8 (B : Int), .int .u8 (C : Int)]] w (StPost w (stm0 nl ng nf ns par K A B C)) := by
  have HS : Hid (stm0 nl ng nf ns par K A B C = ⟨1, varF nl ng A, varF nl ng B, [], .nil⟩) := by show _ = _; unfold stm0; simp [h10, h4]
  have hm : (K : Int) % 10 = 1 := by omega
  have hm4 : (C : Int) % 4 = 0 := by omega
  have HB0 : Hid (Below w.heap.size w ((((w.alloc (.cells #[m0, .slice Ag ng cg, .slice Af nf cf, m3] 30)).alloc (.cells #[f0, f1, .slice Al nl cl, .slice As ns cs, f4] 40)).alloc (.cells #[.int .u8 (K : Int), .int .u8 (A : Int), .int .u8 (B : Int), .int .u8 (C : Int)] 77)).alloc (.cells #[.int .u8 0, .int .u8 0, .int .i64 0, .int .u8 0, .int .i64 0, .slice none 0 0, .slice none 0 0] 50))) := ((((Below.refl _ _).alloc (Nat.le_refl _) _).alloc (by simp) _).alloc (by simp; omega) _).alloc (by simp; omega) _
  have HV1 := Lib.hid (fun w' => variables_any m0 (.slice Af nf cf) m3 f0 f1 (.slice As ns cs) f4 Ag Al ng cg nl cl A w' hA hl hg hp)
  have HV2 := Lib.hid (fun w' => variables_any m0 (.slice Af nf cf) m3 f0 f1 (.slice As ns cs) f4 Ag Al ng cg nl cl B w' hB hl hg hp)
  generalize varF nl ng A = va at *
  generalize varF nl ng B = vb at *
  generalize stm0 nl ng nf ns par K A B C = s at *
  obtain ⟨va1, va2⟩ := va
  obtain ⟨vb1, vb2⟩ := vb
  have KM : Hid (Blk ((((w.alloc (.cells #[m0, .slice Ag ng cg, .slice Af nf cf, m3] 30)).alloc (.cells #[f0, f1, .slice Al nl cl, .slice As ns cs, f4] 40)).alloc (.cells #[.int .u8 (K : Int), .int .u8 (A : Int), .int .u8 (B : Int), .int .u8 (C : Int)] 77)).alloc (.cells #[.int .u8 0, .int .u8 0, .int .i64 0, .int .u8 0, .int .i64 0, .slice none 0 0, .slice none 0 0] 50)) w.heap.size 30 #[m0, .slice Ag ng cg, .slice Af nf cf, m3]) := (((Blk.new w 30 _).alloc _).alloc _).alloc _
  have KF : Hid (Blk ((((w.alloc (.cells #[m0, .slice Ag ng cg, .slice Af nf cf, m3] 30)).alloc (.cells #[f0, f1, .slice Al nl cl, .slice As ns cs, f4] 40)).alloc (.cells #[.int .u8 (K : Int), .int .u8 (A : Int), .int .u8 (B : Int), .int .u8 (C : Int)] 77)).alloc (.cells #[.int .u8 0, .int .u8 0, .int .i64 0, .int .u8 0, .int .i64 0, .slice none 0 0, .slice none 0 0] 50)) (w.heap.size + 1) 40 #[f0, f1, .slice Al nl cl, .slice As ns cs, f4]) := ((Blk.new' _ 40 _ _ (by simp)).alloc _).alloc _
  have KX : Hid (Blk ((((w.alloc (.cells #[m0, .slice Ag ng cg, .slice Af nf cf, m3] 30)).alloc (.cells #[f0, f1, .slice Al nl cl, .slice As ns cs, f4] 40)).alloc (.cells #[.int .u8 (K : Int), .int .u8 (A : Int), .int .u8 (B : Int), .int .u8 (C : Int)] 77)).alloc (.cells #[.int .u8 0, .int .u8 0, .int .i64 0, .int .u8 0, .int .i64 0, .slice none 0 0, .slice none 0 0] 50)) (w.heap.size + 1 + 1) 77 #[.int .u8 (K : Int), .int .u8 (A : Int), .int .u8 (B : Int), .int .u8 (C : Int)]) := (Blk.new' _ 77 _ _ (by simp)).alloc _
  have KR : Hid (Blk ((((w.alloc (.cells #[m0, .slice Ag ng cg, .slice Af nf cf, m3] 30)).alloc (.cells #[f0, f1, .slice Al nl cl, .slice As ns cs, f4] 40)).alloc (.cells #[.int .u8 (K : Int), .int .u8 (A : Int), .int .u8 (B : Int), .int .u8 (C : Int)] 77)).alloc (.cells #[.int .u8 0, .int .u8 0, .int .i64 0, .int .u8 0, .int .i64 0, .slice none 0 0, .slice none 0 0] 50)) (w.heap.size + 1 + 1 + 1) 50 #[.int .u8 0, .int .u8 0, .int .i64 0, .int .u8 0, .int .i64 0, .slice none 0 0, .slice none 0 0]) := Blk.new' _ 50 _ _ (by simp)
  go_enter Try.func33, Try.ntmps33
  go_wp2_with fail
  refine (HV1.out _).mono ?_
  rintro e w1 ⟨rfl, hb1⟩
  have HB1 := Lib.hid (HB0.out.trans (hb1.mono HB0.out.size))
  have KM1 := Lib.hid (KM.out.old hb1)
  have KF1 := Lib.hid (KF.out.old hb1)
  have KX1 := Lib.hid (KX.out.old hb1)
  have KR1 := Lib.hid (KR.out.old hb1)
  have z1 : w.heap.size + 1 + 1 + 1 < w1.heap.size := KR1.out.lt
  have z2 : w.heap.size + 1 + 1 < w1.heap.size := by omega
  have z3 : w.heap.size + 1 < w1.heap.size := by omega
  have z4 : w.heap.size < w1.heap.size := by omega
  obtain ⟨m01, m11, m21, m31⟩ := KM1.out.c4
  obtain ⟨f01, f11, f21, f31, f41⟩ := KF1.out.c5
  obtain ⟨x01, x11, x21, x31⟩ := KX1.out.c4
  clear hb1
  go_wp2_with fail
  refine (HV2.out _).mono ?_
  rintro e w2 ⟨rfl, hb2⟩
  have HB2 := Lib.hid ((HB1.out.alloc HB1.out.size (.cells #[.int .u8 va1, .int .i64 va2] 46)).trans (hb2.mono (by have := HB1.out.size; simp; omega)))
  have KM2 := Lib.hid ((KM1.out.alloc (.cells #[.int .u8 va1, .int .i64 va2] 46)).old hb2)
  have KF2 := Lib.hid ((KF1.out.alloc (.cells #[.int .u8 va1, .int .i64 va2] 46)).old hb2)
  have KX2 := Lib.hid ((KX1.out.alloc (.cells #[.int .u8 va1, .int .i64 va2] 46)).old hb2)
  have KR2 := Lib.hid ((KR1.out.alloc (.cells #[.int .u8 va1, .int .i64 va2] 46)).old hb2)
  have KA2 := Lib.hid ((Blk.new w1 46 #[.int .u8 va1, .int .i64 va2]).old hb2)
  have y0 : w1.heap.size < w2.heap.size := KA2.out.lt
  have y1 : w.heap.size + 1 + 1 + 1 < w2.heap.size := by omega
  have y2 : w.heap.size + 1 + 1 < w2.heap.size := by omega
  have y3 : w.heap.size + 1 < w2.heap.size := by omega
  have y4 : w.heap.size < w2.heap.size := by omega
  clear m01 m11 m21 m31 f01 f11 f21 f31 f41 x01 x11 x21 x31 hb2
  obtain ⟨m02, m12, m22, m32⟩ := KM2.out.c4
  obtain ⟨f02, f12, f22, f32, f42⟩ := KF2.out.c5
  obtain ⟨x02, x12, x22, x32⟩ := KX2.out.c4
  obtain ⟨a02, a12⟩ := KA2.out.c2
  obtain ⟨r02, r12, r22, r32, r42, r52, r62⟩ := KR2.out.c7
  have q0 := KR2.out.frozen 0
  have q1 := KR2.out.frozen 1
  have q2 := KR2.out.frozen 2
  have q3 := KR2.out.frozen 3
  have q4 := KR2.out.frozen 4
  have q5 := KR2.out.frozen 5
  have q6 := KR2.out.frozen 6
  have u0 : w1.heap.size < w2.heap.size + 1 := by omega
  have u1 : w.heap.size + 1 + 1 + 1 < w2.heap.size + 1 := by omega
  have u2 : w.heap.size + 1 + 1 < w2.heap.size + 1 := by omega
  have u3 : w.heap.size + 1 < w2.heap.size + 1 := by omega
  have u4 : w.heap.size < w2.heap.size + 1 := by omega
  go_wp2
  refine bodyPost_ret (v := .agg #[.int .u8 1, .int .u8 va1, .int .i64 va2, .int .u8 vb1, .int .i64 vb2, .slice none 0 0, .slice none 0 0]) (by simp [results, Try.results33, go_sem, y1, u1, r02, r12, r22, r32, r42, r52, r62]) rfl ?_
  rw [HS.out]
  exact ⟨.slice none 0 0, none, 0, rfl, noArgs _ _, noBody _ _ _, ((set7 HB2.out (by omega) _ _ _ _ _ _ _).alloc (by have := HB2.out.size; simp [World.setCell]; omega) _).alloc (by have := HB2.out.size; simp [World.setCell]; omega) _⟩
set_option maxRecDepth 20000 in
set_option maxHeartbeats 1000000 in
theorem stm_take11 (m0 m3 f0 f1 f4 : Value) (Ag Af Al As : Option Addr) (ng cg nf cf nl cl ns cs K A B C : Nat) (par : Nat → Nat) (w : World) (hK : K < 256) (hA : A < 256) (hB : B < 256) (hC : C < 256) (hl : nl ≤ 1000000) (hg : ng ≤ 1000000) (hp : 0 < nl + ng) (h10 : K % 10 = 1) (h4 : C % 4 = 1) (hnf : 0 < nf) (hnf2 : nf ≤ 1000000) :
    Calls Try.prog 33 #[.agg #[m0, .slice Ag ng cg, .slice Af nf cf, m3], .agg #[f0, f1, .slice Al nl cl, .slice As ns cs, f4], .agg #[.int .u8 (K : Int), .int .u8 (A : Int), .int .u8 (B : Int), .int .u8 (C : Int)]] w (StPost w (stm0 nl ng nf ns par K A B C)) := by
  have HS : Hid (stm0 nl ng nf ns par K A B C = ⟨1, varF nl ng A, (3, ((B % nf : Nat) : Int)), [], .nil⟩) := by show _ = _; unfold stm0; simp [h10, h4]
  have hm : (K : Int) % 10 = 1 := by omega
  have hm4 : (C : Int) % 4 = 1 := by omega
  have hk : ((B : Int).tmod (nf : Int)) = ((B % nf : Nat) : Int) := u8mod B nf hnf
  have hk0 : ((nf : Int) == 0) = false := by simp; omega
  generalize B % nf = bn at *
  have HB0 : Hid (Below w.heap.size w ((((w.alloc (.cells #[m0, .slice Ag ng cg, .slice Af nf cf, m3] 30)).alloc (.cells #[f0, f1, .slice Al nl cl, .slice As ns cs, f4] 40)).alloc (.cells #[.int .u8 (K : Int), .int .u8 (A : Int), .int .u8 (B : Int), .int .u8 (C : Int)] 77)).alloc (.cells #[.int .u8 0, .int .u8 0, .int .i64 0, .int .u8 0, .int .i64 0, .slice none 0 0, .slice none 0 0] 50))) := ((((Below.refl _ _).alloc (Nat.le_refl _) _).alloc (by simp) _).alloc (by simp; omega) _).alloc (by simp; omega) _
  have HV1 := Lib.hid (fun w' => variables_any m0 (.slice Af nf cf) m3 f0 f1 (.slice As ns cs) f4 Ag Al ng cg nl cl A w' hA hl hg hp)
  have HV2 := Lib.hid (fun w' => variables_any m0 (.slice Af nf cf) m3 f0 f1 (.slice As ns cs) f4 Ag Al ng cg nl cl B w' hB hl hg hp)
  generalize varF nl ng A = va at *
  generalize varF nl ng B = vb at *
  generalize stm0 nl ng nf ns par K A B C = s at *
  obtain ⟨va1, va2⟩ := va
  obtain ⟨vb1, vb2⟩ := vb
  have KM : Hid (Blk ((((w.alloc (.cells #[m0, .slice Ag ng cg, .slice Af nf cf, m3] 30)).alloc (.cells #[f0, f1, .slice Al nl cl, .slice As ns cs, f4] 40)).alloc (.cells #[.int .u8 (K : Int), .int .u8 (A : Int), .int .u8 (B : Int), .int .u8 (C : Int)] 77)).alloc (.cells #[.int .u8 0, .int .u8 0, .int .i64 0, .int .u8 0, .int .i64 0, .slice none 0 0, .slice none 0 0] 50)) w.heap.size 30 #[m0, .slice Ag ng cg, .slice Af nf cf, m3]) := (((Blk.new w 30 _).alloc _).alloc _).alloc _
  have KF : Hid (Blk ((((w.alloc (.cells #[m0, .slice Ag ng cg, .slice Af nf cf, m3] 30)).alloc (.cells #[f0, f1, .slice Al nl cl, .slice As ns cs, f4] 40)).alloc (.cells #[.int .u8 (K : Int), .int .u8 (A : Int), .int .u8 (B : Int), .int .u8 (C : Int)] 77)).alloc (.cells #[.int .u8 0, .int .u8 0, .int .i64 0, .int .u8 0, .int .i64 0, .slice none 0 0, .slice none 0 0] 50)) (w.heap.size + 1) 40 #[f0, f1, .slice Al nl cl, .slice As ns cs, f4]) := ((Blk.new' _ 40 _ _ (by simp)).alloc _).alloc _
  have KX : Hid (Blk ((((w.alloc (.cells #[m0, .slice Ag ng cg, .slice Af nf cf, m3] 30)).alloc (.cells #[f0, f1, .slice Al nl cl, .slice As ns cs, f4] 40)).alloc (.cells #[.int .u8 (K : Int), .int .u8 (A : Int), .int .u8 (B : Int), .int .u8 (C : Int)] 77)).alloc (.cells #[.int .u8 0, .int .u8 0, .int .i64 0, .int .u8 0, .int .i64 0, .slice none 0 0, .slice none 0 0] 50)) (w.heap.size + 1 + 1) 77 #[.int .u8 (K : Int), .int .u8 (A : Int), .int .u8 (B : Int), .int .u8 (C : Int)]) := (Blk.new' _ 77 _ _ (by simp)).alloc _
  have KR : Hid (Blk ((((w.alloc (.cells #[m0, .slice Ag ng cg, .slice Af nf cf, m3] 30)).alloc (.cells #[f0, f1, .slice Al nl cl, .slice As ns cs, f4] 40)).alloc (.cells #[.int .u8 (K : Int), .int .u8 (A : Int), .int .u8 (B : Int), .int .u8 (C : Int)] 77)).alloc (.cells #[.int .u8 0, .int .u8 0, .int .i64 0, .int .u8 0, .int .i64 0, .slice none 0 0, .slice none 0 0] 50)) (w.heap.size + 1 + 1 + 1) 50 #[.int .u8 0, .int .u8 0, .int .i64 0, .int .u8 0, .int .i64 0, .slice none 0 0, .slice none 0 0]) := Blk.new' _ 50 _ _ (by simp)
  go_enter Try.func33, Try.ntmps33
  go_wp2_with fail
  refine (HV1.out _).mono ?_
  rintro e w1 ⟨rfl, hb1⟩
  have HB1 := Lib.hid (HB0.out.trans (hb1.mono HB0.out.size))
  have KM1 := Lib.hid (KM.out.old hb1)
  have KF1 := Lib.hid (KF.out.old hb1)
  have KX1 := Lib.hid (KX.out.old hb1)
  have KR1 := Lib.hid (KR.out.old hb1)
  have z1 : w.heap.size + 1 + 1 + 1 < w1.heap.size := KR1.out.lt
  have z2 : w.heap.size + 1 + 1 < w1.heap.size := by omega
  have z3 : w.heap.size + 1 < w1.heap.size := by omega
  have z4 : w.heap.size < w1.heap.size := by omega
  obtain ⟨m01, m11, m21, m31⟩ := KM1.out.c4
  obtain ⟨f01, f11, f21, f31, f41⟩ := KF1.out.c5
  obtain ⟨x01, x11, x21, x31⟩ := KX1.out.c4
  clear hb1
  go_wp2_with fail
  refine (HV2.out _).mono ?_
  rintro e w2 ⟨rfl, hb2⟩
  have HB2 := Lib.hid ((HB1.out.alloc HB1.out.size (.cells #[.int .u8 va1, .int .i64 va2] 46)).trans (hb2.mono (by have := HB1.out.size; simp; omega)))
  have KM2 := Lib.hid ((KM1.out.alloc (.cells #[.int .u8 va1, .int .i64 va2] 46)).old hb2)
  have KF2 := Lib.hid ((KF1.out.alloc (.cells #[.int .u8 va1, .int .i64 va2] 46)).old hb2)
  have KX2 := Lib.hid ((KX1.out.alloc (.cells #[.int .u8 va1, .int .i64 va2] 46)).old hb2)
  have KR2 := Lib.hid ((KR1.out.alloc (.cells #[.int .u8 va1, .int .i64 va2] 46)).old hb2)
  have KA2 := Lib.hid ((Blk.new w1 46 #[.int .u8 va1, .int .i64 va2]).old hb2)
  have y0 : w1.heap.size < w2.heap.size := KA2.out.lt
  have y1 : w.heap.size + 1 + 1 + 1 < w2.heap.size := by omega
  have y2 : w.heap.size + 1 + 1 < w2.heap.size := by omega
  have y3 : w.heap.size + 1 < w2.heap.size := by omega
  have y4 : w.heap.size < w2.heap.size := by omega
  clear m01 m11 m21 m31 f01 f11 f21 f31 f41 x01 x11 x21 x31 hb2
  obtain ⟨m02, m12, m22, m32⟩ := KM2.out.c4
  obtain ⟨f02, f12, f22, f32, f42⟩ := KF2.out.c5
  obtain ⟨x02, x12, x22, x32⟩ := KX2.out.c4
  obtain ⟨a02, a12⟩ := KA2.out.c2
  obtain ⟨r02, r12, r22, r32, r42, r52, r62⟩ := KR2.out.c7
  have q0 := KR2.out.frozen 0
  have q1 := KR2.out.frozen 1
  have q2 := KR2.out.frozen 2
  have q3 := KR2.out.frozen 3
  have q4 := KR2.out.frozen 4
  have q5 := KR2.out.frozen 5
  have q6 := KR2.out.frozen 6
  have u0 : w1.heap.size < w2.heap.size + 1 := by omega
  have u1 : w.heap.size + 1 + 1 + 1 < w2.heap.size + 1 := by omega
  have u2 : w.heap.size + 1 + 1 < w2.heap.size + 1 := by omega
  have u3 : w.heap.size + 1 < w2.heap.size + 1 := by omega
  have u4 : w.heap.size < w2.heap.size + 1 := by omega
  go_wp2
  refine bodyPost_ret (v := .agg #[.int .u8 1, .int .u8 va1, .int .i64 va2, .int .u8 3, .int .i64 (bn : Int), .slice none 0 0, .slice none 0 0]) (by simp [results, Try.results33, go_sem, y1, u1, r02, r12, r22, r32, r42, r52, r62]) rfl ?_
  rw [HS.out]
  exact ⟨.slice none 0 0, none, 0, rfl, noArgs _ _, noBody _ _ _, ((set7 HB2.out (by omega) _ _ _ _ _ _ _).alloc (by have := HB2.out.size; simp [World.setCell]; omega) _).alloc (by have := HB2.out.size; simp [World.setCell]; omega) _⟩
set_option maxRecDepth 20000 in
set_option maxHeartbeats 1000000 in
theorem stm_take12 (m0 m3 f0 f1 f4 : Value) (Ag Af Al As : Option Addr) (ng cg nf cf nl cl ns cs K A B C : Nat) (par : Nat → Nat) (w : World) (hK : K < 256) (hA : A < 256) (hB : B < 256) (hC : C < 256) (hl : nl ≤ 1000000) (hg : ng ≤ 1000000) (hp : 0 < nl + ng) (h10 : K % 10 = 1) (h4 : C % 4 = 2) (hns : 0 < ns) (hns2 : ns ≤ 1000000) :
    Calls Try.prog 33 #[.agg #[m0, .slice Ag ng cg, .slice Af nf cf, m3], .agg #[f0, f1, .slice Al nl cl, .slice As ns cs, f4], .agg #[.int .u8 (K : Int), .int .u8 (A : Int), .int .u8 (B : Int), .int .u8 (C : Int)]] w (StPost w (stm0 nl ng nf ns par K A B C)) := by
  have HS : Hid (stm0 nl ng nf ns par K A B C = ⟨1, varF nl ng A, (4, ((B % ns : Nat) : Int)), [], .nil⟩) := by show _ = _; unfold stm0; simp [h10, h4]
  have hm : (K : Int) % 10 = 1 := by omega
  have hm4 : (C : Int) % 4 = 2 := by omega
  have hk : ((B : Int).tmod (ns : Int)) = ((B % ns : Nat) : Int) := u8mod B ns hns
  have hk0 : ((ns : Int) == 0) = false := by simp; omega
  generalize B % ns = bn at *
  have HB0 : Hid (Below w.heap.size w ((((w.alloc (.cells #[m0, .slice Ag ng cg, .slice Af nf cf, m3] 30)).alloc (.cells #[f0, f1, .slice Al nl cl, .slice As ns cs, f4] 40)).alloc (.cells #[.int .u8 (K : Int), .int .u8 (A : Int), .int .u8 (B : Int), .int .u8 (C : Int)] 77)).alloc (.cells #[.int .u8 0, .int .u8 0, .int .i64 0, .int .u8 0, .int .i64 0, .slice none 0 0, .slice none 0 0] 50))) := ((((Below.refl _ _).alloc (Nat.le_refl _) _).alloc (by simp) _).alloc (by simp; omega) _).alloc (by simp; omega) _
  have HV1 := Lib.hid (fun w' => variables_any m0 (.slice Af nf cf) m3 f0 f1 (.slice As ns cs) f4 Ag Al ng cg nl cl A w' hA hl hg hp)
  have HV2 := Lib.hid (fun w' => variables_any m0 (.slice Af nf cf) m3 f0 f1 (.slice As ns cs) f4 Ag Al ng cg nl cl B w' hB hl hg hp)
  generalize varF nl ng A = va at *
  generalize varF nl ng B = vb at *
  generalize stm0 nl ng nf ns par K A B C = s at *
  obtain ⟨va1, va2⟩ := va
  obtain ⟨vb1, vb2⟩ := vb
  have KM : Hid (Blk ((((w.alloc (.cells #[m0, .slice Ag ng cg, .slice Af nf cf, m3] 30)).alloc (.cells #[f0, f1, .slice Al nl cl, .slice As ns cs, f4] 40)).alloc (.cells #[.int .u8 (K : Int), .int .u8 (A : Int), .int .u8 (B : Int), .int .u8 (C : Int)] 77)).alloc (.cells #[.int .u8 0, .int .u8 0, .int .i64 0, .int .u8 0, .int .i64 0, .slice none 0 0, .slice none 0 0] 50)) w.heap.size 30 #[m0, .slice Ag ng cg, .slice Af nf cf, m3]) := (((Blk.new w 30 _).alloc _).alloc _).alloc _
  have KF : Hid (Blk ((((w.alloc (.cells #[m0, .slice Ag ng cg, .slice Af nf cf, m3] 30)).alloc (.cells #[f0, f1, .slice Al nl cl, .slice As ns cs, f4] 40)).alloc (.cells #[.int .u8 (K : Int), .int .u8 (A : Int), .int .u8 (B : Int), .int .u8 (C : Int)] 77)).alloc (.cells #[.int .u8 0, .int .u8 0, .int .i64 0, .int .u8 0, .int .i64 0, .slice none 0 0, .slice none 0 0] 50)) (w.heap.size + 1) 40 #[f0, f1, .slice Al nl cl, .slice As ns cs, f4]) := ((Blk.new' _ 40 _ _ (by simp)).alloc _).alloc _
  have KX : Hid (Blk ((((w.alloc (.cells #[m0, .slice Ag ng cg, .slice Af nf cf, m3] 30)).alloc (.cells #[f0, f1, .slice Al nl cl, .slice As ns cs, f4] 40)).alloc (.cells #[.int .u8 (K : Int), .int .u8 (A : Int), .int .u8 (B : Int), .int .u8 (C : Int)] 77)).alloc (.cells #[.int .u8 0, .int .u8 0, .int .i64 0, .int .u8 0, .int .i64 0, .slice none 0 0, .slice none 0 0] 50)) (w.heap.size + 1 + 1) 77 #[.int .u8 (K : Int), .int .u8 (A : Int), .int .u8 (B : Int), .int .u8 (C : Int)]) := (Blk.new' _ 77 _ _ (by simp)).alloc _
  have KR : Hid (Blk ((((w.alloc (.cells #[m0, .slice Ag ng cg, .slice Af nf cf, m3] 30)).alloc (.cells #[f0, f1, .slice Al nl cl, .slice As ns cs, f4] 40)).alloc (.cells #[.int .u8 (K : Int), .int .u8 (A : Int), .int .u8 (B : Int), .int .u8 (C : Int)] 77)).alloc (.cells #[.int .u8 0, .int .u8 0, .int .i64 0, .int .u8 0, .int .i64 0, .slice none 0 0, .slice none 0 0] 50)) (w.heap.size + 1 + 1 + 1) 50 #[.int .u8 0, .int .u8 0, .int .i64 0, .int .u8 0, .int .i64 0, .slice none 0 0, .slice none 0 0]) := Blk.new' _ 50 _ _ (by simp)
  go_enter Try.func33, Try.ntmps33
  go_wp2_with fail
  refine (HV1.out _).mono ?_
  rintro e w1 ⟨rfl, hb1⟩
  have HB1 := Lib.hid (HB0.out.trans (hb1.mono HB0.out.size))
  have KM1 := Lib.hid (KM.out.old hb1)
  have KF1 := Lib.hid (KF.out.old hb1)
  have KX1 := Lib.hid (KX.out.old hb1)
  have KR1 := Lib.hid (KR.out.old hb1)
  have z1 : w.heap.size + 1 + 1 + 1 < w1.heap.size := KR1.out.lt
  have z2 : w.heap.size + 1 + 1 < w1.heap.size := by omega
  have z3 : w.heap.size + 1 < w1.heap.size := by omega
  have z4 : w.heap.size < w1.heap.size := by omega
  obtain ⟨m01, m11, m21, m31⟩ := KM1.out.c4
  obtain ⟨f01, f11, f21, f31, f41⟩ := KF1.out.c5
  obtain ⟨x01, x11, x21, x31⟩ := KX1.out.c4
  clear hb1
  go_wp2_with fail
  refine (HV2.out _).mono ?_
  rintro e w2 ⟨rfl, hb2⟩
  have HB2 := Lib.hid ((HB1.out.alloc HB1.out.size (.cells #[.int .u8 va1, .int .i64 va2] 46)).trans (hb2.mono (by have := HB1.out.size; simp; omega)))
  have KM2 := Lib.hid ((KM1.out.alloc (.cells #[.int .u8 va1, .int .i64 va2] 46)).old hb2)
  have KF2 := Lib.hid ((KF1.out.alloc (.cells #[.int .u8 va1, .int .i64 va2] 46)).old hb2)
  have KX2 := Lib.hid ((KX1.out.alloc (.cells #[.int .u8 va1, .int .i64 va2] 46)).old hb2)
  have KR2 := Lib.hid ((KR1.out.alloc (.cells #[.int .u8 va1, .int .i64 va2] 46)).old hb2)
  have KA2 := Lib.hid ((Blk.new w1 46 #[.int .u8 va1, .int .i64 va2]).old hb2)
  have y0 : w1.heap.size < w2.heap.size := KA2.out.lt
  have y1 : w.heap.size + 1 + 1 + 1 < w2.heap.size := by omega
  have y2 : w.heap.size + 1 + 1 < w2.heap.size := by omega
  have y3 : w.heap.size + 1 < w2.heap.size := by omega
  have y4 : w.heap.size < w2.heap.size := by omega
  clear m01 m11 m21 m31 f01 f11 f21 f31 f41 x01 x11 x21 x31 hb2
  obtain ⟨m02, m12, m22, m32⟩ := KM2.out.c4
  obtain ⟨f02, f12, f22, f32, f42⟩ := KF2.out.c5
  obtain ⟨x02, x12, x22, x32⟩ := KX2.out.c4
  obtain ⟨a02, a12⟩ := KA2.out.c2
  obtain ⟨r02, r12, r22, r32, r42, r52, r62⟩ := KR2.out.c7
  have q0 := KR2.out.frozen 0
  have q1 := KR2.out.frozen 1
  have q2 := KR2.out.frozen 2
  have q3 := KR2.out.frozen 3
  have q4 := KR2.out.frozen 4
  have q5 := KR2.out.frozen 5
  have q6 := KR2.out.frozen 6
  have u0 : w1.heap.size < w2.heap.size + 1 := by omega
  have u1 : w.heap.size + 1 + 1 + 1 < w2.heap.size + 1 := by omega
  have u2 : w.heap.size + 1 + 1 < w2.heap.size + 1 := by omega
  have u3 : w.heap.size + 1 < w2.heap.size + 1 := by omega
  have u4 : w.heap.size < w2.heap.size + 1 := by omega
  go_wp2
  refine bodyPost_ret (v := .agg #[.int .u8 1, .int .u8 va1, .int .i64 va2, .int .u8 4, .int .i64 (bn : Int), .slice none 0 0, .slice none 0 0]) (by simp [results, Try.results33, go_sem, y1, u1, r02, r12, r22, r32, r42, r52, r62]) rfl ?_
  rw [HS.out]
  exact ⟨.slice none 0 0, none, 0, rfl, noArgs _ _, noBody _ _ _, ((set7 HB2.out (by omega) _ _ _ _ _ _ _).alloc (by have := HB2.out.size; simp [World.setCell]; omega) _).alloc (by have := HB2.out.size; simp [World.setCell]; omega) _⟩
set_option maxRecDepth 20000 in
set_option maxHeartbeats 1000000 in
theorem stm_take13 (m0 m3 f0 f1 f4 : Value) (Ag Af Al As : Option Addr) (ng cg nf cf nl cl ns cs K A B C : Nat) (par : Nat → Nat) (w : World) (hK : K < 256) (hA : A < 256) (hB : B < 256) (hC : C < 256) (hl : nl ≤ 1000000) (hg : ng ≤ 1000000) (hp : 0 < nl + ng) (h10 : K % 10 = 1) (h4 : C % 4 = 3) (hns : 0 < ns) (hns2 : ns ≤ 1000000) :
    Calls Try.prog 33 #[.agg #[m0, .slice Ag ng cg, .slice Af nf cf, m3], .agg #[f0, f1, .slice Al nl cl, .slice As ns cs, f4], .agg #[.int .u8 (K : Int), .int .u8 (A : Int), .int .u8 (B : Int), .int .u8 (C : Int)]] w (StPost w (stm0 nl ng nf ns par K A B C)) := by
  have HS : Hid (stm0 nl ng nf ns par K A B C = ⟨1, varF nl ng A, (4, ((B % ns : Nat) : Int)), [], .nil⟩) := by show _ = _; unfold stm0; simp [h10, h4]
  have hm : (K : Int) % 10 = 1 := by omega
  have hm4 : (C : Int) % 4 = 3 := by omega
  have hk : ((B : Int).tmod (ns : Int)) = ((B % ns : Nat) : Int) := u8mod B ns hns
  have hk0 : ((ns : Int) == 0) = false := by simp; omega
  generalize B % ns = bn at *
  have HB0 : Hid (Below w.heap.size w ((((w.alloc (.cells #[m0, .slice Ag ng cg, .slice Af nf cf, m3] 30)).alloc (.cells #[f0, f1, .slice Al nl cl, .slice As ns cs, f4] 40)).alloc (.cells #[.int .u8 (K : Int), .int .u8 (A : Int), .int .u8 (B : Int), .int .u8 (C : Int)] 77)).alloc (.cells #[.int .u8 0, .int .u8 0, .int .i64 0, .int .u8 0, .int .i64 0, .slice none 0 0, .slice none 0 0] 50))) := ((((Below.refl _ _).alloc (Nat.le_refl _) _).alloc (by simp) _).alloc (by simp; omega) _).alloc (by simp; omega) _
  have HV1 := Lib.hid (fun w' => variables_any m0 (.slice Af nf cf) m3 f0 f1 (.slice As ns cs) f4 Ag Al ng cg nl cl A w' hA hl hg hp)
  have HV2 := Lib.hid (fun w' => variables_any m0 (.slice Af nf cf) m3 f0 f1 (.slice As ns cs) f4 Ag Al ng cg nl cl B w' hB hl hg hp)
  generalize varF nl ng A = va at *
  generalize varF nl ng B = vb at *
  generalize stm0 nl ng nf ns par K A B C = s at *
  obtain ⟨va1, va2⟩ := va
  obtain ⟨vb1, vb2⟩ := vb
  have KM : Hid (Blk ((((w.alloc (.cells #[m0, .slice Ag ng cg, .slice Af nf cf, m3] 30)).alloc (.cells #[f0, f1, .slice Al nl cl, .slice As ns cs, f4] 40)).alloc (.cells #[.int .u8 (K : Int), .int .u8 (A : Int), .int .u8 (B : Int), .int .u8 (C : Int)] 77)).alloc (.cells #[.int .u8 0, .int .u8 0, .int .i64 0, .int .u8 0, .int .i64 0, .slice none 0 0, .slice none 0 0] 50)) w.heap.size 30 #[m0, .slice Ag ng cg, .slice Af nf cf, m3]) := (((Blk.new w 30 _).alloc _).alloc _).alloc _
  have KF : Hid (Blk ((((w.alloc (.cells #[m0, .slice Ag ng cg, .slice Af nf cf, m3] 30)).alloc (.cells #[f0, f1, .slice Al nl cl, .slice As ns cs, f4] 40)).alloc (.cells #[.int .u8 (K : Int), .int .u8 (A : Int), .int .u8 (B : Int), .int .u8 (C : Int)] 77)).alloc (.cells #[.int .u8 0, .int .u8 0, .int .i64 0, .int .u8 0, .int .i64 0, .slice none 0 0, .slice none 0 0] 50)) (w.heap.size + 1) 40 #[f0, f1, .slice Al nl cl, .slice As ns cs, f4]) := ((Blk.new' _ 40 _ _ (by simp)).alloc _).alloc _
  have KX : Hid (Blk ((((w.alloc (.cells #[m0, .slice Ag ng cg, .slice Af nf cf, m3] 30)).alloc (.cells #[f0, f1, .slice Al nl cl, .slice As ns cs, f4] 40)).alloc (.cells #[.int .u8 (K : Int), .int .u8 (A : Int), .int .u8 (B : Int), .int .u8 (C : Int)] 77)).alloc (.cells #[.int .u8 0, .int .u8 0, .int .i64 0, .int .u8 0, .int .i64 0, .slice none 0 0, .slice none 0 0] 50)) (w.heap.size + 1 + 1) 77 #[.int .u8 (K : Int), .int .u8 (A : Int), .int .u8 (B : Int), .int .u8 (C : Int)]) := (Blk.new' _ 77 _ _ (by simp)).alloc _
  have KR : Hid (Blk ((((w.alloc (.cells #[m0, .slice Ag ng cg, .slice Af nf cf, m3] 30)).alloc (.cells #[f0, f1, .slice Al nl cl, .slice As ns cs, f4] 40)).alloc (.cells #[.int .u8 (K : Int), .int .u8 (A : Int), .int .u8 (B : Int), .int .u8 (C : Int)] 77)).alloc (.cells #[.int .u8 0, .int .u8 0, .int .i64 0, .int .u8 0, .int .i64 0, .slice none 0 0, .slice none 0 0] 50)) (w.heap.size + 1 + 1 + 1) 50 #[.int .u8 0, .int .u8 0, .int .i64 0, .int .u8 0, .int .i64 0, .slice none 0 0, .slice none 0 0]) := Blk.new' _ 50 _ _ (by simp)
  go_enter Try.func33, Try.ntmps33
  go_wp2_with fail
  refine (HV1.out _).mono ?_
  rintro e w1 ⟨rfl, hb1⟩
  have HB1 := Lib.hid (HB0.out.trans (hb1.mono HB0.out.size))
  have KM1 := Lib.hid (KM.out.old hb1)
  have KF1 := Lib.hid (KF.out.old hb1)
  have KX1 := Lib.hid (KX.out.old hb1)
  have KR1 := Lib.hid (KR.out.old hb1)
  have z1 : w.heap.size + 1 + 1 + 1 < w1.heap.size := KR1.out.lt
  have z2 : w.heap.size + 1 + 1 < w1.heap.size := by omega
  have z3 : w.heap.size + 1 < w1.heap.size := by omega
  have z4 : w.heap.size < w1.heap.size := by omega
  obtain ⟨m01, m11, m21, m31⟩ := KM1.out.c4
  obtain ⟨f01, f11, f21, f31, f41⟩ := KF1.out.c5
  obtain ⟨x01, x11, x21, x31⟩ := KX1.out.c4
  clear hb1
  go_wp2_with fail
  refine (HV2.out _).mono ?_
  rintro e w2 ⟨rfl, hb2⟩
  have HB2 := Lib.hid ((HB1.out.alloc HB1.out.size (.cells #[.int .u8 va1, .int .i64 va2] 46)).trans (hb2.mono (by have := HB1.out.size; simp; omega)))
  have KM2 := Lib.hid ((KM1.out.alloc (.cells #[.int .u8 va1, .int .i64 va2] 46)).old hb2)
  have KF2 := Lib.hid ((KF1.out.alloc (.cells #[.int .u8 va1, .int .i64 va2] 46)).old hb2)
  have KX2 := Lib.hid ((KX1.out.alloc (.cells #[.int .u8 va1, .int .i64 va2] 46)).old hb2)
  have KR2 := Lib.hid ((KR1.out.alloc (.cells #[.int .u8 va1, .int .i64 va2] 46)).old hb2)
  have KA2 := Lib.hid ((Blk.new w1 46 #[.int .u8 va1, .int .i64 va2]).old hb2)
  have y0 : w1.heap.size < w2.heap.size := KA2.out.lt
  have y1 : w.heap.size + 1 + 1 + 1 < w2.heap.size := by omega
  have y2 : w.heap.size + 1 + 1 < w2.heap.size := by omega
  have y3 : w.heap.size + 1 < w2.heap.size := by omega
  have y4 : w.heap.size < w2.heap.size := by omega
  clear m01 m11 m21 m31 f01 f11 f21 f31 f41 x01 x11 x21 x31 hb2
  obtain ⟨m02, m12, m22, m32⟩ := KM2.out.c4
  obtain ⟨f02, f12, f22, f32, f42⟩ := KF2.out.c5
  obtain ⟨x02, x12, x22, x32⟩ := KX2.out.c4
  obtain ⟨a02, a12⟩ := KA2.out.c2
  obtain ⟨r02, r12, r22, r32, r42, r52, r62⟩ := KR2.out.c7
  have q0 := KR2.out.frozen 0
  have q1 := KR2.out.frozen 1
  have q2 := KR2.out.frozen 2
  have q3 := KR2.out.frozen 3
  have q4 := KR2.out.frozen 4
  have q5 := KR2.out.frozen 5
  have q6 := KR2.out.frozen 6
  have u0 : w1.heap.size < w2.heap.size + 1 := by omega
  have u1 : w.heap.size + 1 + 1 + 1 < w2.heap.size + 1 := by omega
  have u2 : w.heap.size + 1 + 1 < w2.heap.size + 1 := by omega
  have u3 : w.heap.size + 1 < w2.heap.size + 1 := by omega
  have u4 : w.heap.size < w2.heap.size + 1 := by omega
  go_wp2
  refine bodyPost_ret (v := .agg #[.int .u8 1, .int .u8 va1, .int .i64 va2, .int .u8 4, .int .i64 (bn : Int), .slice none 0 0, .slice none 0 0]) (by simp [results, Try.results33, go_sem, y1, u1, r02, r12, r22, r32, r42, r52, r62]) rfl ?_
  rw [HS.out]
  exact ⟨.slice none 0 0, none, 0, rfl, noArgs _ _, noBody _ _ _, ((set7 HB2.out (by omega) _ _ _ _ _ _ _).alloc (by have := HB2.out.size; simp [World.setCell]; omega) _).alloc (by have := HB2.out.size; simp [World.setCell]; omega) _⟩
end Go.Proofs.Ytpdebnecfknohaa
