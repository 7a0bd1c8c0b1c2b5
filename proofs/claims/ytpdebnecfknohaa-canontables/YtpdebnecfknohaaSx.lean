
/-
  What the reference's statement leaves.
-/
import Derived.Test.YtpdebnecfknohaaSc
namespace Go.Proofs.Ytpdebnecfknohaa
open Go.RowKit
set_option linter.unusedVariables false
set_option maxRecDepth 20000

theorem stm0_any (m0 m3 f0 f1 f4 : Value) (Ag Af Al As : Option Addr) (ng cg nf cf nl cl ns cs K A B C : Nat) (par : Nat → Nat) (w : World) (hK : K < 256) (hA : A < 256) (hB : B < 256) (hC : C < 256) (hl : nl ≤ 1000000) (hg : ng ≤ 1000000) (hp : 0 < nl + ng) (hnf : 0 < nf) (hnf2 : nf ≤ 1000000) (hns : 0 < ns) (hns2 : ns ≤ 1000000) (hpar : ∀ i, i < nf → par i ≤ 100 ∧ ∃ b o, Af = some ⟨b, o, none⟩ ∧ w.cell? ⟨b, o + i * 5 + 1, none⟩ = some (.int .i64 ((par i : Nat) : Int))) (h7 : K % 10 ≠ 7) :
    Calls Try.prog 33 #[.agg #[m0, .slice Ag ng cg, .slice Af nf cf, m3], .agg #[f0, f1, .slice Al nl cl, .slice As ns cs, f4], .agg #[.int .u8 (K : Int), .int .u8 (A : Int), .int .u8 (B : Int), .int .u8 (C : Int)]] w (StPost w (stm0 nl ng nf ns par K A B C)) := by
  have hm := Nat.mod_lt K (show 0 < 10 by decide)
  by_cases h0 : K % 10 = 0
  · have h4 := Nat.mod_lt C (show 0 < 4 by decide)
    by_cases c0 : C % 4 = 0
    · exact stm_take00 m0 m3 f0 f1 f4 Ag Af Al As ng cg nf cf nl cl ns cs K A B C par w hK hA hB hC hl hg hp h0 c0
    by_cases c1 : C % 4 = 1
    · exact stm_take01 m0 m3 f0 f1 f4 Ag Af Al As ng cg nf cf nl cl ns cs K A B C par w hK hA hB hC hl hg hp h0 c1 hnf hnf2
    by_cases c2 : C % 4 = 2
    · exact stm_take02 m0 m3 f0 f1 f4 Ag Af Al As ng cg nf cf nl cl ns cs K A B C par w hK hA hB hC hl hg hp h0 c2 hns hns2
    exact stm_take03 m0 m3 f0 f1 f4 Ag Af Al As ng cg nf cf nl cl ns cs K A B C par w hK hA hB hC hl hg hp h0 (by omega) hns hns2
  by_cases h1 : K % 10 = 1
  · have h4 := Nat.mod_lt C (show 0 < 4 by decide)
    by_cases c0 : C % 4 = 0
    · exact stm_take10 m0 m3 f0 f1 f4 Ag Af Al As ng cg nf cf nl cl ns cs K A B C par w hK hA hB hC hl hg hp h1 c0
    by_cases c1 : C % 4 = 1
    · exact stm_take11 m0 m3 f0 f1 f4 Ag Af Al As ng cg nf cf nl cl ns cs K A B C par w hK hA hB hC hl hg hp h1 c1 hnf hnf2
    by_cases c2 : C % 4 = 2
    · exact stm_take12 m0 m3 f0 f1 f4 Ag Af Al As ng cg nf cf nl cl ns cs K A B C par w hK hA hB hC hl hg hp h1 c2 hns hns2
    exact stm_take13 m0 m3 f0 f1 f4 Ag Af Al As ng cg nf cf nl cl ns cs K A B C par w hK hA hB hC hl hg hp h1 (by omega) hns hns2
  by_cases h2 : K % 10 = 2
  · exact stm_load m0 m3 f0 f1 f4 Ag Af Al As ng cg nf cf nl cl ns cs K A B C par w hK hA hB hC hl hg hp h2
  by_cases h3 : K % 10 = 3
  · exact stm_store m0 m3 f0 f1 f4 Ag Af Al As ng cg nf cf nl cl ns cs K A B C par w hK hA hB hC hl hg hp h3
  by_cases h4 : K % 10 = 4
  · by_cases hc : C % 3 = 0
    · exact stm_call40 m0 m3 f0 f1 f4 Ag Af Al As ng cg nf cf nl cl ns cs K A B C par w hK hA hB hC hl hg hp h4 hc hnf hnf2 hpar
    · exact stm_call41 m0 m3 f0 f1 f4 Ag Af Al As ng cg nf cf nl cl ns cs K A B C par w hK hA hB hC hl hg hp h4 hc hnf hnf2 hpar
  by_cases h5 : K % 10 = 5
  · by_cases hc : C % 3 = 0
    · exact stm_call50 m0 m3 f0 f1 f4 Ag Af Al As ng cg nf cf nl cl ns cs K A B C par w hK hA hB hC hl hg hp h5 hc
    · exact stm_call51 m0 m3 f0 f1 f4 Ag Af Al As ng cg nf cf nl cl ns cs K A B C par w hK hA hB hC hl hg hp h5 hc
  by_cases h6 : K % 10 = 6
  · exact stm_return m0 m3 f0 f1 f4 Ag Af Al As ng cg nf cf nl cl ns cs K A B C par w hK hA hB hC hl hg hp h6
  by_cases h8 : K % 10 = 8
  · exact stm_move8 m0 m3 f0 f1 f4 Ag Af Al As ng cg nf cf nl cl ns cs K A B C par w hK hA hB hC hl hg hp h8
  exact stm_move9 m0 m3 f0 f1 f4 Ag Af Al As ng cg nf cf nl cl ns cs K A B C par w hK hA hB hC hl hg hp (by omega)

set_option maxRecDepth 20000 in
set_option maxHeartbeats 1000000 in
theorem stm_none (m0 m3 f0 f1 f4 : Value) (Ag Af Al As : Option Addr) (ng cg nf cf nl cl ns cs K A B C : Nat) (par : Nat → Nat) (w : World) (hK : K < 256) (hA : A < 256) (hB : B < 256) (hC : C < 256) (hl : nl ≤ 1000000) (hg : ng ≤ 1000000) (hp : 0 < nl + ng) (h10 : K % 10 = 7) (h8 : C % 8 = 7) :
    Calls Try.prog 33 #[.agg #[m0, .slice Ag ng cg, .slice Af nf cf, m3], .agg #[f0, f1, .slice Al nl cl, .slice As ns cs, f4], .agg #[.int .u8 (K : Int), .int .u8 (A : Int), .int .u8 (B : Int), .int .u8 (C : Int)]] w (StPost w (stm nl ng nf ns par K A B C)) := by
  have HS : Hid (stm nl ng nf ns par K A B C = ⟨7, (0, 0), (0, 0), [], .nil⟩) := by show _ = _; unfold stm; simp [h10, h8]
  have hm : (K : Int) % 10 = 7 := by omega
  have hm8 : (C : Int) % 8 = 7 := by omega
  have HB0 : Hid (Below w.heap.size w ((((w.alloc (.cells #[m0, .slice Ag ng cg, .slice Af nf cf, m3] 30)).alloc (.cells #[f0, f1, .slice Al nl cl, .slice As ns cs, f4] 40)).alloc (.cells #[.int .u8 (K : Int), .int .u8 (A : Int), .int .u8 (B : Int), .int .u8 (C : Int)] 77)).alloc (.cells #[.int .u8 0, .int .u8 0, .int .i64 0, .int .u8 0, .int .i64 0, .slice none 0 0, .slice none 0 0] 50))) := ((((Below.refl _ _).alloc (Nat.le_refl _) _).alloc (by simp) _).alloc (by simp; omega) _).alloc (by simp; omega) _
  have HV1 := Lib.hid (fun w' => variables_any m0 (.slice Af nf cf) m3 f0 f1 (.slice As ns cs) f4 Ag Al ng cg nl cl A w' hA hl hg hp)
  have HV2 := Lib.hid (fun w' => variables_any m0 (.slice Af nf cf) m3 f0 f1 (.slice As ns cs) f4 Ag Al ng cg nl cl B w' hB hl hg hp)
  generalize varF nl ng A = va at *
  generalize varF nl ng B = vb at *
  generalize stm nl ng nf ns par K A B C = s at *
  obtain ⟨va1, va2⟩ := va
  obtain ⟨vb1, vb2⟩ := vb
  have KM : Hid (Blk ((((w.alloc (.cells #[m0, .slice Ag ng cg, .slice Af nf cf, m3] 30)).alloc (.cells #[f0, f1, .slice Al nl cl, .slice As ns cs, f4] 40)).alloc (.cells #[.int .u8 (K : Int), .int .u8 (A : Int), .int .u8 (B : Int), .int .u8 (C : Int)] 77)).alloc (.cells #[.int .u8 0, .int .u8 0, .int .i64 0, .int .u8 0, .int .i64 0, .slice none 0 0, .slice none 0 0] 50)) w.heap.size 30 #[m0, .slice Ag ng cg, .slice Af nf cf, m3]) := (((Blk.new w 30 _).alloc _).alloc _).alloc _
  have KF : Hid (Blk ((((w.alloc (.cells #[m0, .slice Ag ng cg, .slice Af nf cf, m3] 30)).alloc (.cells #[f0, f1, .slice Al nl cl, .slice As ns cs, f4] 40)).alloc (.cells #[.int .u8 (K : Int), .int .u8 (A : Int), .int .u8 (B : Int), .int .u8 (C : Int)] 77)).alloc (.cells #[.int .u8 0, .int .u8 0, .int .i64 0, .int .u8 0, .int .i64 0, .slice none 0 0, .slice none 0 0] 50)) (w.heap.size + 1) 40 #[f0, f1, .slice Al nl cl, .slice As ns cs, f4]) := ((Blk.new' _ 40 _ _ (by simp)).alloc _).alloc _
  have KX : Hid (Blk ((((w.alloc (.cells #[m0, .slice Ag ng cg, .slice Af nf cf, m3] 30)).alloc (.cells #[f0, f1, .slice Al nl cl, .slice As ns cs, f4] 40)).alloc (.cells #[.int .u8 (K : Int), .int .u8 (A : Int), .int .u8 (B : Int), .int .u8 (C : Int)] 77)).alloc (.cells #[.int .u8 0, .int .u8 0, .int .i64 0, .int .u8 0, .int .i64 0, .slice none 0 0, .slice none 0 0] 50)) (w.heap.size + 1 + 1) 77 #[.int .u8 (K : Int), .int .u8 (A : Int), .int .u8 (B : Int), .int .u8 (C : Int)]) := (Blk.new' _ 77 _ _ (by simp)).alloc _
  have KR : Hid (Blk ((((w.alloc (.cells #[m0, .slice Ag ng cg, .slice Af nf cf, m3] 30)).alloc (.cells #[f0, f1, .slice Al nl cl, .slice As ns cs, f4] 40)).alloc (.cells #[.int .u8 (K : Int), .int .u8 (A : Int), .int .u8 (B : Int), .int .u8 (C : Int)] 77)).alloc (.cells #[.int .u8 0, .int .u8 0, .int .i64 0, .int .u8 0, .int .i64 0, .slice none 0 0, .slice none 0 0] 50)) (w.heap.size + 1 + 1 + 1) 50 #[.int .u8 0, .int .u8 0, .int .i64 0, .int .u8 0, .int .i64 0, .slice none 0 0, .slice none 0 0]) := Blk.new' _ 50 _ _ (by simp)
  go_enter Try.func33, Try.ntmps33
  go_wp2_with fail
  refine (HV1.out _).mono ?_
  rintro e w1 ⟨rfl, hb1⟩
  have HB1 := Lib.hid (HB0.out.trans (hb1.mono HB0.out.size))
  have KM1 := Lib.hid (KM.out.old hb1)
  have KF1 := Lib.hid (KF.out.old hb1)
  have KX1 := Lib.hid (KX.out.old hb1)
  have KR1 := Lib.hid (KR.out.old hb1)
  have z1 : w.heap.size + 1 + 1 + 1 < w1.heap.size := KR1.out.lt
  have z2 : w.heap.size + 1 + 1 < w1.heap.size := by omega
  have z3 : w.heap.size + 1 < w1.heap.size := by omega
  have z4 : w.heap.size < w1.heap.size := by omega
  obtain ⟨m01, m11, m21, m31⟩ := KM1.out.c4
  obtain ⟨f01, f11, f21, f31, f41⟩ := KF1.out.c5
  obtain ⟨x01, x11, x21, x31⟩ := KX1.out.c4
  clear hb1
  go_wp2_with fail
  refine (HV2.out _).mono ?_
  rintro e w2 ⟨rfl, hb2⟩
  have HB2 := Lib.hid ((HB1.out.alloc HB1.out.size (.cells #[.int .u8 va1, .int .i64 va2] 46)).trans (hb2.mono (by have := HB1.out.size; simp; omega)))
  have KM2 := Lib.hid ((KM1.out.alloc (.cells #[.int .u8 va1, .int .i64 va2] 46)).old hb2)
  have KF2 := Lib.hid ((KF1.out.alloc (.cells #[.int .u8 va1, .int .i64 va2] 46)).old hb2)
  have KX2 := Lib.hid ((KX1.out.alloc (.cells #[.int .u8 va1, .int .i64 va2] 46)).old hb2)
  have KR2 := Lib.hid ((KR1.out.alloc (.cells #[.int .u8 va1, .int .i64 va2] 46)).old hb2)
  have KA2 := Lib.hid ((Blk.new w1 46 #[.int .u8 va1, .int .i64 va2]).old hb2)
  have y0 : w1.heap.size < w2.heap.size := KA2.out.lt
  have y1 : w.heap.size + 1 + 1 + 1 < w2.heap.size := by omega
  have y2 : w.heap.size + 1 + 1 < w2.heap.size := by omega
  have y3 : w.heap.size + 1 < w2.heap.size := by omega
  have y4 : w.heap.size < w2.heap.size := by omega
  clear m01 m11 m21 m31 f01 f11 f21 f31 f41 x01 x11 x21 x31 hb2
  obtain ⟨m02, m12, m22, m32⟩ := KM2.out.c4
  obtain ⟨f02, f12, f22, f32, f42⟩ := KF2.out.c5
  obtain ⟨x02, x12, x22, x32⟩ := KX2.out.c4
  obtain ⟨a02, a12⟩ := KA2.out.c2
  obtain ⟨r02, r12, r22, r32, r42, r52, r62⟩ := KR2.out.c7
  have q0 := KR2.out.frozen 0
  have q1 := KR2.out.frozen 1
  have q2 := KR2.out.frozen 2
  have q3 := KR2.out.frozen 3
  have q4 := KR2.out.frozen 4
  have q5 := KR2.out.frozen 5
  have q6 := KR2.out.frozen 6
  have u0 : w1.heap.size < w2.heap.size + 1 := by omega
  have u1 : w.heap.size + 1 + 1 + 1 < w2.heap.size + 1 := by omega
  have u2 : w.heap.size + 1 + 1 < w2.heap.size + 1 := by omega
  have u3 : w.heap.size + 1 < w2.heap.size + 1 := by omega
  have u4 : w.heap.size < w2.heap.size + 1 := by omega
  go_wp2
  refine bodyPost_ret (v := .agg #[.int .u8 7, .int .u8 0, .int .i64 0, .int .u8 0, .int .i64 0, .slice none 0 0, .slice none 0 0]) (by simp [results, Try.results33, go_sem, y1, u1, r02, r12, r22, r32, r42, r52, r62]) rfl ?_
  rw [HS.out]
  exact ⟨.slice none 0 0, none, 0, rfl, noArgs _ _, noBody _ _ _, ((set7 HB2.out (by omega) _ _ _ _ _ _ _).alloc (by have := HB2.out.size; simp [World.setCell]; omega) _).alloc (by have := HB2.out.size; simp [World.setCell]; omega) _⟩

set_option maxRecDepth 20000 in
set_option maxHeartbeats 1000000 in
theorem stm_block (m0 m3 f0 f1 f4 : Value) (Ag Af Al As : Option Addr) (ng cg nf cf nl cl ns cs K A B C : Nat) (par : Nat → Nat) (w : World) (hK : K < 256) (hA : A < 256) (hB : B < 256) (hC : C < 256) (hl : nl ≤ 1000000) (hg : ng ≤ 1000000) (hp : 0 < nl + ng) (h10 : K % 10 = 7) (h8 : C % 8 ≠ 7) (hnf : 0 < nf) (hnf2 : nf ≤ 1000000) (hns : 0 < ns) (hns2 : ns ≤ 1000000) (hpar : ∀ i, i < nf → par i ≤ 100 ∧ ∃ b o, Af = some ⟨b, o, none⟩ ∧ w.cell? ⟨b, o + i * 5 + 1, none⟩ = some (.int .i64 ((par i : Nat) : Int))) :
    Calls Try.prog 33 #[.agg #[m0, .slice Ag ng cg, .slice Af nf cf, m3], .agg #[f0, f1, .slice Al nl cl, .slice As ns cs, f4], .agg #[.int .u8 (K : Int), .int .u8 (A : Int), .int .u8 (B : Int), .int .u8 (C : Int)]] w (StPost w (stm nl ng nf ns par K A B C)) := by
  have HS : Hid (stm nl ng nf ns par K A B C = ⟨7, (0, 0), (0, 0), [], (stm0 nl ng nf ns par (C % 8) A B C).ahead ((⟨2, varF nl ng B, varF nl ng A, [], .nil⟩ : St7).ahead .nil)⟩) := by show _ = _; unfold stm; simp [h10, h8]
  have hm : (K : Int) % 10 = 7 := by omega
  have hm8 : (C : Int) % 8 = ((C % 8 : Nat) : Int) := by omega
  have hm7 : (((C % 8 : Nat) : Int) == 7) = false := by simp; omega
  have HI := Lib.hid (fun w' (hb : Below w.heap.size w w') => stm0_any m0 m3 f0 f1 f4 Ag Af Al As ng cg nf cf nl cl ns cs (C % 8) A B C par w' (by omega) hA hB hC hl hg hp hnf hnf2 hns hns2 (fun i hi => by obtain ⟨h1, b, o, h2, h3⟩ := hpar i hi; exact ⟨h1, b, o, h2, (World.cell?_of_block (hb.block b (World.block_lt_of_cell? w ⟨b, o + i * 5 + 1, none⟩ h3))).trans h3⟩) (by omega))
  clear hpar
  generalize stm0 nl ng nf ns par (C % 8) A B C = s0 at *
  generalize C % 8 = k8 at *
  have HB0 : Hid (Below w.heap.size w ((((w.alloc (.cells #[m0, .slice Ag ng cg, .slice Af nf cf, m3] 30)).alloc (.cells #[f0, f1, .slice Al nl cl, .slice As ns cs, f4] 40)).alloc (.cells #[.int .u8 (K : Int), .int .u8 (A : Int), .int .u8 (B : Int), .int .u8 (C : Int)] 77)).alloc (.cells #[.int .u8 0, .int .u8 0, .int .i64 0, .int .u8 0, .int .i64 0, .slice none 0 0, .slice none 0 0] 50))) := ((((Below.refl _ _).alloc (Nat.le_refl _) _).alloc (by simp) _).alloc (by simp; omega) _).alloc (by simp; omega) _
  have HV1 := Lib.hid (fun w' => variables_any m0 (.slice Af nf cf) m3 f0 f1 (.slice As ns cs) f4 Ag Al ng cg nl cl A w' hA hl hg hp)
  have HV2 := Lib.hid (fun w' => variables_any m0 (.slice Af nf cf) m3 f0 f1 (.slice As ns cs) f4 Ag Al ng cg nl cl B w' hB hl hg hp)
  generalize varF nl ng A = va at *
  generalize varF nl ng B = vb at *
  generalize stm nl ng nf ns par K A B C = s at *
  obtain ⟨va1, va2⟩ := va
  obtain ⟨vb1, vb2⟩ := vb
  have KM : Hid (Blk ((((w.alloc (.cells #[m0, .slice Ag ng cg, .slice Af nf cf, m3] 30)).alloc (.cells #[f0, f1, .slice Al nl cl, .slice As ns cs, f4] 40)).alloc (.cells #[.int .u8 (K : Int), .int .u8 (A : Int), .int .u8 (B : Int), .int .u8 (C : Int)] 77)).alloc (.cells #[.int .u8 0, .int .u8 0, .int .i64 0, .int .u8 0, .int .i64 0, .slice none 0 0, .slice none 0 0] 50)) w.heap.size 30 #[m0, .slice Ag ng cg, .slice Af nf cf, m3]) := (((Blk.new w 30 _).alloc _).alloc _).alloc _
  have KF : Hid (Blk ((((w.alloc (.cells #[m0, .slice Ag ng cg, .slice Af nf cf, m3] 30)).alloc (.cells #[f0, f1, .slice Al nl cl, .slice As ns cs, f4] 40)).alloc (.cells #[.int .u8 (K : Int), .int .u8 (A : Int), .int .u8 (B : Int), .int .u8 (C : Int)] 77)).alloc (.cells #[.int .u8 0, .int .u8 0, .int .i64 0, .int .u8 0, .int .i64 0, .slice none 0 0, .slice none 0 0] 50)) (w.heap.size + 1) 40 #[f0, f1, .slice Al nl cl, .slice As ns cs, f4]) := ((Blk.new' _ 40 _ _ (by simp)).alloc _).alloc _
  have KX : Hid (Blk ((((w.alloc (.cells #[m0, .slice Ag ng cg, .slice Af nf cf, m3] 30)).alloc (.cells #[f0, f1, .slice Al nl cl, .slice As ns cs, f4] 40)).alloc (.cells #[.int .u8 (K : Int), .int .u8 (A : Int), .int .u8 (B : Int), .int .u8 (C : Int)] 77)).alloc (.cells #[.int .u8 0, .int .u8 0, .int .i64 0, .int .u8 0, .int .i64 0, .slice none 0 0, .slice none 0 0] 50)) (w.heap.size + 1 + 1) 77 #[.int .u8 (K : Int), .int .u8 (A : Int), .int .u8 (B : Int), .int .u8 (C : Int)]) := (Blk.new' _ 77 _ _ (by simp)).alloc _
  have KR : Hid (Blk ((((w.alloc (.cells #[m0, .slice Ag ng cg, .slice Af nf cf, m3] 30)).alloc (.cells #[f0, f1, .slice Al nl cl, .slice As ns cs, f4] 40)).alloc (.cells #[.int .u8 (K : Int), .int .u8 (A : Int), .int .u8 (B : Int), .int .u8 (C : Int)] 77)).alloc (.cells #[.int .u8 0, .int .u8 0, .int .i64 0, .int .u8 0, .int .i64 0, .slice none 0 0, .slice none 0 0] 50)) (w.heap.size + 1 + 1 + 1) 50 #[.int .u8 0, .int .u8 0, .int .i64 0, .int .u8 0, .int .i64 0, .slice none 0 0, .slice none 0 0]) := Blk.new' _ 50 _ _ (by simp)
  go_enter Try.func33, Try.ntmps33
  go_wp2_with fail
  refine (HV1.out _).mono ?_
  rintro e w1 ⟨rfl, hb1⟩
  have HB1 := Lib.hid (HB0.out.trans (hb1.mono HB0.out.size))
  have KM1 := Lib.hid (KM.out.old hb1)
  have KF1 := Lib.hid (KF.out.old hb1)
  have KX1 := Lib.hid (KX.out.old hb1)
  have KR1 := Lib.hid (KR.out.old hb1)
  have z1 : w.heap.size + 1 + 1 + 1 < w1.heap.size := KR1.out.lt
  have z2 : w.heap.size + 1 + 1 < w1.heap.size := by omega
  have z3 : w.heap.size + 1 < w1.heap.size := by omega
  have z4 : w.heap.size < w1.heap.size := by omega
  obtain ⟨m01, m11, m21, m31⟩ := KM1.out.c4
  obtain ⟨f01, f11, f21, f31, f41⟩ := KF1.out.c5
  obtain ⟨x01, x11, x21, x31⟩ := KX1.out.c4
  clear hb1
  go_wp2_with fail
  refine (HV2.out _).mono ?_
  rintro e w2 ⟨rfl, hb2⟩
  have HB2 := Lib.hid ((HB1.out.alloc HB1.out.size (.cells #[.int .u8 va1, .int .i64 va2] 46)).trans (hb2.mono (by have := HB1.out.size; simp; omega)))
  have KM2 := Lib.hid ((KM1.out.alloc (.cells #[.int .u8 va1, .int .i64 va2] 46)).old hb2)
  have KF2 := Lib.hid ((KF1.out.alloc (.cells #[.int .u8 va1, .int .i64 va2] 46)).old hb2)
  have KX2 := Lib.hid ((KX1.out.alloc (.cells #[.int .u8 va1, .int .i64 va2] 46)).old hb2)
  have KR2 := Lib.hid ((KR1.out.alloc (.cells #[.int .u8 va1, .int .i64 va2] 46)).old hb2)
  have KA2 := Lib.hid ((Blk.new w1 46 #[.int .u8 va1, .int .i64 va2]).old hb2)
  have y0 : w1.heap.size < w2.heap.size := KA2.out.lt
  have y1 : w.heap.size + 1 + 1 + 1 < w2.heap.size := by omega
  have y2 : w.heap.size + 1 + 1 < w2.heap.size := by omega
  have y3 : w.heap.size + 1 < w2.heap.size := by omega
  have y4 : w.heap.size < w2.heap.size := by omega
  clear m01 m11 m21 m31 f01 f11 f21 f31 f41 x01 x11 x21 x31 hb2
  obtain ⟨m02, m12, m22, m32⟩ := KM2.out.c4
  obtain ⟨f02, f12, f22, f32, f42⟩ := KF2.out.c5
  obtain ⟨x02, x12, x22, x32⟩ := KX2.out.c4
  obtain ⟨a02, a12⟩ := KA2.out.c2
  obtain ⟨r02, r12, r22, r32, r42, r52, r62⟩ := KR2.out.c7
  have q0 := KR2.out.frozen 0
  have q1 := KR2.out.frozen 1
  have q2 := KR2.out.frozen 2
  have q3 := KR2.out.frozen 3
  have q4 := KR2.out.frozen 4
  have q5 := KR2.out.frozen 5
  have q6 := KR2.out.frozen 6
  have u0 : w1.heap.size < w2.heap.size + 1 := by omega
  have u1 : w.heap.size + 1 + 1 + 1 < w2.heap.size + 1 := by omega
  have u2 : w.heap.size + 1 + 1 < w2.heap.size + 1 := by omega
  have u3 : w.heap.size + 1 < w2.heap.size + 1 := by omega
  have u4 : w.heap.size < w2.heap.size + 1 := by omega
  have HS0 : Hid ((fun W => Blk W w.heap.size 30 #[m0, .slice Ag ng cg, .slice Af nf cf, m3] ∧ Blk W (w.heap.size + 1) 40 #[f0, f1, .slice Al nl cl, .slice As ns cs, f4] ∧ Blk W (w2.heap.size + 1) 77 #[.int .u8 (k8 : Int), .int .u8 (A : Int), .int .u8 (B : Int), .int .u8 (C : Int)] ∧ Blk W w1.heap.size 46 #[.int .u8 va1, .int .i64 va2] ∧ Blk W w2.heap.size 46 #[.int .u8 vb1, .int .i64 vb2]) ((w2.alloc (.cells #[.int .u8 vb1, .int .i64 vb2] 46)).alloc (.cells #[.int .u8 (k8 : Int), .int .u8 (A : Int), .int .u8 (B : Int), .int .u8 (C : Int)] 77))) := ⟨(KM2.out.alloc _).alloc _, (KF2.out.alloc _).alloc _, Blk.new' _ 77 _ _ (by simp), (KA2.out.alloc _).alloc _, (Blk.new w2 46 _).alloc _⟩
  have KR9 : Hid (Blk ((w2.alloc (.cells #[.int .u8 vb1, .int .i64 vb2] 46)).alloc (.cells #[.int .u8 (k8 : Int), .int .u8 (A : Int), .int .u8 (B : Int), .int .u8 (C : Int)] 77)) (w.heap.size + 1 + 1 + 1) 50 #[.int .u8 0, .int .u8 0, .int .i64 0, .int .u8 0, .int .i64 0, .slice none 0 0, .slice none 0 0]) := (KR2.out.alloc _).alloc _
  have HB9 : Hid (Below w.heap.size w ((w2.alloc (.cells #[.int .u8 vb1, .int .i64 vb2] 46)).alloc (.cells #[.int .u8 (k8 : Int), .int .u8 (A : Int), .int .u8 (B : Int), .int .u8 (C : Int)] 77))) := (HB2.out.alloc HB2.out.size _).alloc (by have := HB2.out.size; simp; omega) _
  go_wp2_with fail
  clear m02 m12 m22 m32 f02 f12 f22 f32 f42 x02 x12 x22 x32 a02 a12 r02 r12 r22 r32 r42 r52 r62 q0 q1 q2 q3 q4 q5 q6 KM KF KX KR KM1 KF1 KX1 KR1 KM2 KF2 KX2 KR2 KA2 HB0 HB1 hm hm8 hm7 u0 u1 u2 u3 u4
  have hz9 : w2.heap.size + 1 < ((w2.alloc (.cells #[.int .u8 vb1, .int .i64 vb2] 46)).alloc (.cells #[.int .u8 (k8 : Int), .int .u8 (A : Int), .int .u8 (B : Int), .int .u8 (C : Int)] 77)).heap.size := by simp
  generalize ((w2.alloc (.cells #[.int .u8 vb1, .int .i64 vb2] 46)).alloc (.cells #[.int .u8 (k8 : Int), .int .u8 (A : Int), .int .u8 (B : Int), .int .u8 (C : Int)] 77)) = W9 at *
  refine wp_region_held_drew (S := (fun W => Blk W w.heap.size 30 #[m0, .slice Ag ng cg, .slice Af nf cf, m3] ∧ Blk W (w.heap.size + 1) 40 #[f0, f1, .slice Al nl cl, .slice As ns cs, f4] ∧ Blk W (w2.heap.size + 1) 77 #[.int .u8 (k8 : Int), .int .u8 (A : Int), .int .u8 (B : Int), .int .u8 (C : Int)] ∧ Blk W w1.heap.size 46 #[.int .u8 va1, .int .i64 va2] ∧ Blk W w2.heap.size 46 #[.int .u8 vb1, .int .i64 vb2])) (by kernel_rfl) ⟨HS0.out.1.drew, HS0.out.2.1.drew, HS0.out.2.2.1.drew, HS0.out.2.2.2.1.drew, HS0.out.2.2.2.2.drew⟩ (fun hHeld => ?_)
  refine wpAnyH_take (i := 0) (oi := { dst := some 143, op := Op.load 30 (Operand.tmp 3), type := 30, pos := "ref.go:347", after := #[], guard := none }) (v := ?_) rfl (by kernel_rfl) (by kernel_rfl) (by kernel_rfl) (fun _ _ _ h => h) (Or.inl ⟨by rfl, ?_⟩) (by assumption) ?_
  rotate_left
  · (intro W hSW; (try dsimp only at hSW); obtain ⟨s1, s2, s3, s4, s5⟩ := hSW; obtain ⟨p0, p1, p2, p3⟩ := s1.c4; obtain ⟨p4, p5, p6, p7, p8⟩ := s2.c5; obtain ⟨p9, p10, p11, p12⟩ := s3.c4; obtain ⟨p13, p14⟩ := s4.c2; obtain ⟨p15, p16⟩ := s5.c2; go_simp; first | done | with_reducible rfl)
  try simp only [Act.put, List.setIfInBounds_toArray, List.set_cons_zero, List.set_cons_succ]
  refine wpAnyH_take (i := 1) (oi := { dst := some 144, op := Op.load 40 (Operand.tmp 4), type := 40, pos := "ref.go:347", after := #[], guard := none }) (v := ?_) rfl (by kernel_rfl) (by kernel_rfl) (by kernel_rfl) (fun _ _ _ h => h) (Or.inl ⟨by rfl, ?_⟩) (by assumption) ?_
  rotate_left
  · (intro W hSW; (try dsimp only at hSW); obtain ⟨s1, s2, s3, s4, s5⟩ := hSW; obtain ⟨p0, p1, p2, p3⟩ := s1.c4; obtain ⟨p4, p5, p6, p7, p8⟩ := s2.c5; obtain ⟨p9, p10, p11, p12⟩ := s3.c4; obtain ⟨p13, p14⟩ := s4.c2; obtain ⟨p15, p16⟩ := s5.c2; go_simp; first | done | with_reducible rfl)
  try simp only [Act.put, List.setIfInBounds_toArray, List.set_cons_zero, List.set_cons_succ]
  refine wpAnyH_take (i := 2) (oi := { dst := some 145, op := Op.load 77 (Operand.tmp 13), type := 77, pos := "ref.go:347", after := #[], guard := none }) (v := ?_) rfl (by kernel_rfl) (by kernel_rfl) (by kernel_rfl) (fun _ _ _ h => h) (Or.inl ⟨by rfl, ?_⟩) (by assumption) ?_
  rotate_left
  · (intro W hSW; (try dsimp only at hSW); obtain ⟨s1, s2, s3, s4, s5⟩ := hSW; obtain ⟨p0, p1, p2, p3⟩ := s1.c4; obtain ⟨p4, p5, p6, p7, p8⟩ := s2.c5; obtain ⟨p9, p10, p11, p12⟩ := s3.c4; obtain ⟨p13, p14⟩ := s4.c2; obtain ⟨p15, p16⟩ := s5.c2; go_simp; first | done | with_reducible rfl)
  try simp only [Act.put, List.setIfInBounds_toArray, List.set_cons_zero, List.set_cons_succ]
  refine wpAnyH_take (i := 4) (oi := { dst := some 147, op := Op.load 46 (Operand.tmp 8), type := 46, pos := "ref.go:347", after := #[], guard := none }) (v := ?_) rfl (by kernel_rfl) (by kernel_rfl) (by kernel_rfl) (fun _ _ _ h => h) (Or.inl ⟨by rfl, ?_⟩) (by assumption) ?_
  rotate_left
  · (intro W hSW; (try dsimp only at hSW); obtain ⟨s1, s2, s3, s4, s5⟩ := hSW; obtain ⟨p0, p1, p2, p3⟩ := s1.c4; obtain ⟨p4, p5, p6, p7, p8⟩ := s2.c5; obtain ⟨p9, p10, p11, p12⟩ := s3.c4; obtain ⟨p13, p14⟩ := s4.c2; obtain ⟨p15, p16⟩ := s5.c2; go_simp; first | done | with_reducible rfl)
  try simp only [Act.put, List.setIfInBounds_toArray, List.set_cons_zero, List.set_cons_succ]
  refine wpAnyH_take (i := 5) (oi := { dst := some 148, op := Op.load 46 (Operand.tmp 7), type := 46, pos := "ref.go:347", after := #[], guard := none }) (v := ?_) rfl (by kernel_rfl) (by kernel_rfl) (by kernel_rfl) (fun _ _ _ h => h) (Or.inl ⟨by rfl, ?_⟩) (by assumption) ?_
  rotate_left
  · (intro W hSW; (try dsimp only at hSW); obtain ⟨s1, s2, s3, s4, s5⟩ := hSW; obtain ⟨p0, p1, p2, p3⟩ := s1.c4; obtain ⟨p4, p5, p6, p7, p8⟩ := s2.c5; obtain ⟨p9, p10, p11, p12⟩ := s3.c4; obtain ⟨p13, p14⟩ := s4.c2; obtain ⟨p15, p16⟩ := s5.c2; go_simp; first | done | with_reducible rfl)
  try simp only [Act.put, List.setIfInBounds_toArray, List.set_cons_zero, List.set_cons_succ]
  refine wpAnyH_take (i := 6) (oi := { dst := some 149, op := Op.build 50 #[(0, Operand.const (Value.int IntKind.u8 2)), (1, Operand.tmp 147), (2, Operand.tmp 148)], type := 50, pos := "ref.go:347", after := #[{ on := 4, ground := Ground.data }, { on := 5, ground := Ground.data }], guard := none }) (v := ?_) rfl (by kernel_rfl) (by kernel_rfl) (by kernel_rfl) (fun _ _ _ h => h) (Or.inl ⟨by rfl, ?_⟩) (by assumption) ?_
  rotate_left
  · (intro W hSW; (try dsimp only at hSW); obtain ⟨s1, s2, s3, s4, s5⟩ := hSW; obtain ⟨p0, p1, p2, p3⟩ := s1.c4; obtain ⟨p4, p5, p6, p7, p8⟩ := s2.c5; obtain ⟨p9, p10, p11, p12⟩ := s3.c4; obtain ⟨p13, p14⟩ := s4.c2; obtain ⟨p15, p16⟩ := s5.c2; go_simp; first | done | with_reducible rfl)
  try simp only [Act.put, List.setIfInBounds_toArray, List.set_cons_zero, List.set_cons_succ]
  refine wpAnyH_ready (rs := [3]) (by kernel_rfl) (by simp) ?_
  refine AllReadyH.cons (o := { dst := some 146, op := Op.call { callee := Callee.value (Operand.func 33), args := #[Operand.tmp 143, Operand.tmp 144, Operand.tmp 145], argTypes := #[30, 40, 77] }, type := 50, pos := "ref.go:347", after := #[{ on := 0, ground := Ground.data }, { on := 1, ground := Ground.data }, { on := 2, ground := Ground.data }], guard := none }) rfl (fun KQ hKQ => ?_) AllReadyH.nil
  go_simp
  refine (HI.out W9.drew (HB9.out.drew)).mono ?_
  rintro e w3 ⟨va, A0, c0, rfl, hA3, hB3, hb3⟩
  obtain ⟨Aa, ca, rfl, hA3'⟩ := hA3
  have hb3' : Below W9.heap.size W9 w3 := (Below.refl _ W9).drew.trans hb3
  have hS3 : (fun W => Blk W w.heap.size 30 #[m0, .slice Ag ng cg, .slice Af nf cf, m3] ∧ Blk W (w.heap.size + 1) 40 #[f0, f1, .slice Al nl cl, .slice As ns cs, f4] ∧ Blk W (w2.heap.size + 1) 77 #[.int .u8 (k8 : Int), .int .u8 (A : Int), .int .u8 (B : Int), .int .u8 (C : Int)] ∧ Blk W w1.heap.size 46 #[.int .u8 va1, .int .i64 va2] ∧ Blk W w2.heap.size 46 #[.int .u8 vb1, .int .i64 vb2]) w3 := ⟨HS0.out.1.old hb3', HS0.out.2.1.old hb3', HS0.out.2.2.1.old hb3', HS0.out.2.2.2.1.old hb3', HS0.out.2.2.2.2.old hb3'⟩
  have KR3 := Lib.hid (KR9.out.old hb3')
  have HB3 := Lib.hid (HB9.out.trans (hb3'.mono HB9.out.size))
  have HA3 : Hid (ArgsS (fun k => W9.heap.size ≤ k) w3 (.slice Aa s0.xs.length ca) s0.xs) := ⟨Aa, ca, rfl, hA3'⟩
  have HBd3 : Hid (BodyS (fun k => W9.heap.size ≤ k) w3 A0 s0.sub) := hB3
  have hz3 : W9.heap.size ≤ w3.heap.size := hb3'.size
  refine hKQ.out _ _ hS3 (fun _ => ?_)
  clear hKQ KQ hA3' hB3 hb3 hb3' hHeld
  try simp only [Act.put, List.setIfInBounds_toArray, List.set_cons_zero, List.set_cons_succ]
  refine wpAnyH_ready (rs := [7]) (by kernel_rfl) (by simp) ?_
  refine AllReadyH.cons (o := { dst := some 150, op := Op.buildSlice 38 2 #[(0, Operand.tmp 146), (1, Operand.tmp 149)], type := 38, pos := "ref.go:347", after := #[{ on := 3, ground := Ground.data }, { on := 6, ground := Ground.data }], guard := none }) rfl (fun KQ hKQ => ?_) AllReadyH.nil
  go_simp
  have hS4 : (fun W => Blk W w.heap.size 30 #[m0, .slice Ag ng cg, .slice Af nf cf, m3] ∧ Blk W (w.heap.size + 1) 40 #[f0, f1, .slice Al nl cl, .slice As ns cs, f4] ∧ Blk W (w2.heap.size + 1) 77 #[.int .u8 (k8 : Int), .int .u8 (A : Int), .int .u8 (B : Int), .int .u8 (C : Int)] ∧ Blk W w1.heap.size 46 #[.int .u8 va1, .int .i64 va2] ∧ Blk W w2.heap.size 46 #[.int .u8 vb1, .int .i64 vb2]) (w3.alloc (.cells #[.int .u8 s0.k, .int .u8 s0.a.1, .int .i64 s0.a.2, .int .u8 s0.b.1, .int .i64 s0.b.2, .slice Aa s0.xs.length ca, .slice A0 s0.sub.len c0, .int .u8 2, .int .u8 vb1, .int .i64 vb2, .int .u8 va1, .int .i64 va2, .slice none 0 0, .slice none 0 0] 50)) := ⟨hS3.1.alloc _, hS3.2.1.alloc _, hS3.2.2.1.alloc _, hS3.2.2.2.1.alloc _, hS3.2.2.2.2.alloc _⟩
  refine hKQ.out _ _ hS4 (fun _ => ?_)
  clear hKQ KQ
  try simp only [Act.put, List.setIfInBounds_toArray, List.set_cons_zero, List.set_cons_succ]
  refine wpAnyH_take (i := 8) (oi := { dst := some 151, op := Op.build 50 #[(0, Operand.const (Value.int IntKind.u8 7)), (4, Operand.tmp 150)], type := 50, pos := "ref.go:347", after := #[{ on := 7, ground := Ground.data }], guard := none }) (v := ?_) rfl (by kernel_rfl) (by kernel_rfl) (by kernel_rfl) (fun _ _ _ h => h) (Or.inl ⟨by rfl, ?_⟩) (by assumption) ?_
  rotate_left
  · (intro W hSW; (try dsimp only at hSW); go_simp; first | done | with_reducible rfl)
  try simp only [Act.put, List.setIfInBounds_toArray, List.set_cons_zero, List.set_cons_succ]
  obtain ⟨r0, r1, r2, r3, r4, r5, r6⟩ := KR3.out.c7
  have p0 := KR3.out.frozen 0
  have p1 := KR3.out.frozen 1
  have p2 := KR3.out.frozen 2
  have p3 := KR3.out.frozen 3
  have p4 := KR3.out.frozen 4
  have p5 := KR3.out.frozen 5
  have p6 := KR3.out.frozen 6
  have hzr : w.heap.size + 1 + 1 + 1 < w3.heap.size := KR3.out.lt
  refine wpAnyH_ready (rs := [9]) (by kernel_rfl) (by simp) ?_
  refine AllReadyH.cons (o := { dst := none, op := Op.store 50 (Operand.tmp 6) (Operand.tmp 151), type := 0, pos := "ref.go:347", after := #[{ on := 8, ground := Ground.data }, { on := 3, ground := Ground.chain }, { on := 0, ground := Ground.phase }, { on := 1, ground := Ground.phase }, { on := 2, ground := Ground.phase }, { on := 3, ground := Ground.phase }, { on := 4, ground := Ground.phase }, { on := 5, ground := Ground.phase }, { on := 6, ground := Ground.phase }, { on := 7, ground := Ground.phase }, { on := 8, ground := Ground.phase }], guard := none }) rfl (fun KQ hKQ => ?_) AllReadyH.nil
  go_simp
  have hne : ∀ g, g ≠ w.heap.size + 1 + 1 + 1 → ∀ (t : TypeId) (cs : Array Value) (v0 v1 v2 v3 v4 v5 v6 : Value) (o : Obj), Blk w3 g t cs → Blk ((((((((w3.setCell ⟨w.heap.size + 1 + 1 + 1, 0, none⟩ v0).setCell ⟨w.heap.size + 1 + 1 + 1, 1, none⟩ v1).setCell ⟨w.heap.size + 1 + 1 + 1, 2, none⟩ v2).setCell ⟨w.heap.size + 1 + 1 + 1, 3, none⟩ v3).setCell ⟨w.heap.size + 1 + 1 + 1, 4, none⟩ v4).setCell ⟨w.heap.size + 1 + 1 + 1, 5, none⟩ v5).setCell ⟨w.heap.size + 1 + 1 + 1, 6, none⟩ v6).alloc o) g t cs :=
    fun g hg t cs v0 v1 v2 v3 v4 v5 v6 o h => Blk.alloc ((set7_far v0 v1 v2 v3 v4 v5 v6 hg).trans h) o
  have HNE := Lib.hid hne
  have HS3 := Lib.hid hS3
  clear hne
  refine hKQ.out _ _ ⟨HNE.out _ (by omega) _ _ _ _ _ _ _ _ _ _ HS3.out.1, HNE.out _ (by omega) _ _ _ _ _ _ _ _ _ _ HS3.out.2.1, HNE.out _ (by omega) _ _ _ _ _ _ _ _ _ _ HS3.out.2.2.1, HNE.out _ (by omega) _ _ _ _ _ _ _ _ _ _ HS3.out.2.2.2.1, HNE.out _ (by omega) _ _ _ _ _ _ _ _ _ _ HS3.out.2.2.2.2⟩ (fun _ => ?_)
  clear hKQ KQ hS3 hS4
  try simp only [Act.put, List.setIfInBounds_toArray, List.set_cons_zero, List.set_cons_succ]
  refine wpAnyH_done (by kernel_rfl) ?_ _
  go_wp2
  refine bodyPost_ret (v := .agg #[.int .u8 7, .int .u8 0, .int .i64 0, .int .u8 0, .int .i64 0, .slice none 0 0, .slice (some ⟨w3.heap.size, 0, none⟩) 2 2]) (by simp [results, Try.results33, go_sem, hzr, r0, r1, r2, r3, r4, r5, r6]) rfl ?_
  rw [HS.out]
  refine ⟨.slice none 0 0, some ⟨w3.heap.size, 0, none⟩, 2, rfl, noArgs _ _, ?_, (set7 HB3.out (by omega) _ _ _ _ _ _ _).alloc (by have := HB3.out.size; simp [World.setCell]; omega) _⟩
  intro hp
  refine ⟨w3.heap.size, 0, rfl, ?_⟩
  have hw := HB3.out.size
  have hblk := Blk.new' ((((((((w3.setCell ⟨w.heap.size + 1 + 1 + 1, 0, none⟩ (.int .u8 7)).setCell ⟨w.heap.size + 1 + 1 + 1, 1, none⟩ (.int .u8 0)).setCell ⟨w.heap.size + 1 + 1 + 1, 2, none⟩ (.int .i64 0)).setCell ⟨w.heap.size + 1 + 1 + 1, 3, none⟩ (.int .u8 0)).setCell ⟨w.heap.size + 1 + 1 + 1, 4, none⟩ (.int .i64 0)).setCell ⟨w.heap.size + 1 + 1 + 1, 5, none⟩ (.slice none 0 0)).setCell ⟨w.heap.size + 1 + 1 + 1, 6, none⟩ (.slice (some ⟨w3.heap.size, 0, none⟩) 2 2))) 50 #[.int .u8 s0.k, .int .u8 s0.a.1, .int .i64 s0.a.2, .int .u8 s0.b.1, .int .i64 s0.b.2, .slice Aa s0.xs.length ca, .slice A0 s0.sub.len c0, .int .u8 2, .int .u8 vb1, .int .i64 vb2, .int .u8 va1, .int .i64 va2, .slice none 0 0, .slice none 0 0] w3.heap.size (by simp [World.setCell])
  have hkp : Kept (fun k => W9.heap.size ≤ k) w3 (((((((((w3.setCell ⟨w.heap.size + 1 + 1 + 1, 0, none⟩ (.int .u8 7)).setCell ⟨w.heap.size + 1 + 1 + 1, 1, none⟩ (.int .u8 0)).setCell ⟨w.heap.size + 1 + 1 + 1, 2, none⟩ (.int .i64 0)).setCell ⟨w.heap.size + 1 + 1 + 1, 3, none⟩ (.int .u8 0)).setCell ⟨w.heap.size + 1 + 1 + 1, 4, none⟩ (.int .i64 0)).setCell ⟨w.heap.size + 1 + 1 + 1, 5, none⟩ (.slice none 0 0)).setCell ⟨w.heap.size + 1 + 1 + 1, 6, none⟩ (.slice (some ⟨w3.heap.size, 0, none⟩) 2 2))).alloc (.cells #[.int .u8 s0.k, .int .u8 s0.a.1, .int .i64 s0.a.2, .int .u8 s0.b.1, .int .i64 s0.b.2, .slice Aa s0.xs.length ca, .slice A0 s0.sub.len c0, .int .u8 2, .int .u8 vb1, .int .i64 vb2, .int .u8 va1, .int .i64 va2, .slice none 0 0, .slice none 0 0] 50)) := fun k hk hlt => by
    have hk' : W9.heap.size ≤ k := hk
    rw [heap_alloc_old _ _ (by simp [World.setCell]; exact hlt), set7_far _ _ _ _ _ _ _ (by omega)]
  generalize (((((((((w3.setCell ⟨w.heap.size + 1 + 1 + 1, 0, none⟩ (.int .u8 7)).setCell ⟨w.heap.size + 1 + 1 + 1, 1, none⟩ (.int .u8 0)).setCell ⟨w.heap.size + 1 + 1 + 1, 2, none⟩ (.int .i64 0)).setCell ⟨w.heap.size + 1 + 1 + 1, 3, none⟩ (.int .u8 0)).setCell ⟨w.heap.size + 1 + 1 + 1, 4, none⟩ (.int .i64 0)).setCell ⟨w.heap.size + 1 + 1 + 1, 5, none⟩ (.slice none 0 0)).setCell ⟨w.heap.size + 1 + 1 + 1, 6, none⟩ (.slice (some ⟨w3.heap.size, 0, none⟩) 2 2))).alloc (.cells #[.int .u8 s0.k, .int .u8 s0.a.1, .int .i64 s0.a.2, .int .u8 s0.b.1, .int .i64 s0.b.2, .slice Aa s0.xs.length ca, .slice A0 s0.sub.len c0, .int .u8 2, .int .u8 vb1, .int .i64 vb2, .int .u8 va1, .int .i64 va2, .slice none 0 0, .slice none 0 0] 50)) = wf at hblk hkp ⊢
  have hmono : ∀ k, W9.heap.size ≤ k → k < w3.heap.size → w.heap.size ≤ k := fun k hk _ => by omega
  exact ⟨hw, ⟨hblk.cell 0, hblk.cell 1, hblk.cell 2, hblk.cell 3, hblk.cell 4⟩, ⟨_, hblk.cell 5, HA3.out.kept hkp hmono⟩, ⟨A0, c0, hblk.cell 6, HBd3.out.kept hkp hmono⟩, ⟨hw, ⟨hblk.cell 7, hblk.cell 8, hblk.cell 9, hblk.cell 10, hblk.cell 11⟩, ⟨_, hblk.cell 12, noArgs _ _⟩, ⟨none, 0, hblk.cell 13, fun h => by simp [Bd.len] at h⟩, trivial⟩⟩

theorem stm_any (m0 m3 f0 f1 f4 : Value) (Ag Af Al As : Option Addr) (ng cg nf cf nl cl ns cs K A B C : Nat) (par : Nat → Nat) (w : World) (hK : K < 256) (hA : A < 256) (hB : B < 256) (hC : C < 256) (hl : nl ≤ 1000000) (hg : ng ≤ 1000000) (hp : 0 < nl + ng) (hnf : 0 < nf) (hnf2 : nf ≤ 1000000) (hns : 0 < ns) (hns2 : ns ≤ 1000000) (hpar : ∀ i, i < nf → par i ≤ 100 ∧ ∃ b o, Af = some ⟨b, o, none⟩ ∧ w.cell? ⟨b, o + i * 5 + 1, none⟩ = some (.int .i64 ((par i : Nat) : Int))) :
    Calls Try.prog 33 #[.agg #[m0, .slice Ag ng cg, .slice Af nf cf, m3], .agg #[f0, f1, .slice Al nl cl, .slice As ns cs, f4], .agg #[.int .u8 (K : Int), .int .u8 (A : Int), .int .u8 (B : Int), .int .u8 (C : Int)]] w (StPost w (stm nl ng nf ns par K A B C)) := by
  by_cases h7 : K % 10 = 7
  · by_cases h8 : C % 8 = 7
    · exact stm_none m0 m3 f0 f1 f4 Ag Af Al As ng cg nf cf nl cl ns cs K A B C par w hK hA hB hC hl hg hp h7 h8
    · exact stm_block m0 m3 f0 f1 f4 Ag Af Al As ng cg nf cf nl cl ns cs K A B C par w hK hA hB hC hl hg hp h7 h8 hnf hnf2 hns hns2 hpar
  · have := stm0_any m0 m3 f0 f1 f4 Ag Af Al As ng cg nf cf nl cl ns cs K A B C par w hK hA hB hC hl hg hp hnf hnf2 hns hns2 hpar h7
    rwa [show stm0 nl ng nf ns par K A B C = stm nl ng nf ns par K A B C from by unfold stm; rw [if_neg h7]] at this
end Go.Proofs.Ytpdebnecfknohaa
