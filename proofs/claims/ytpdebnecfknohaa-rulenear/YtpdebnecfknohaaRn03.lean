/-
  Parts: Sx Nu Us Cs Cl Cn Rw.
-/
import Derived.Test.YtpdebnecfknohaaRn00
import Derived.Test.YtpdebnecfknohaaRn01
import Derived.Test.YtpdebnecfknohaaRn02
import Derived.Laws.Cover1
import Derived.Deep.DeepCutAuto
import Derived.Deep.CutBlock
namespace Go.Proofs.Ytpdebnecfknohaa
open Go.RowKit
set_option linter.unusedVariables false
set_option maxRecDepth 20000
theorem stm0_any (m0 m3 f0 f1 f4 : Value) (Ag Af Al As : Option Addr) (ng cg nf cf nl cl ns cs K A B C : Nat) (par : Nat → Nat) (w : World) (hK : K < 256) (hA : A < 256) (hB : B < 256) (hC : C < 256) (hl : nl ≤ 1000000) (hg : ng ≤ 1000000) (hp : 0 < nl + ng) (hnf : 0 < nf) (hnf2 : nf ≤ 1000000) (hns : 0 < ns) (hns2 : ns ≤ 1000000) (hpar : ∀ i, i < nf → par i ≤ 100 ∧ ∃ b o, Af = some ⟨b, o, none⟩ ∧ w.cell? ⟨b, o + i * 5 + 1, none⟩ = some (.int .i64 ((par i : Nat) : Int))) (h7 : K % 10 ≠ 7) :
    Calls Try.prog 33 #[.agg #[m0, .slice Ag ng cg, .slice Af nf cf, m3], .agg #[f0, f1, .slice Al nl cl, .slice As ns cs, f4], .agg #[.int .u8 (K : Int), .int .u8 (A : Int), .int .u8 (B : Int), .int .u8 (C : Int)]] w (StPost w (stm0 nl ng nf ns par K A B C)) := by
  have hm := Nat.mod_lt K (show 0 < 10 by decide)
  by_cases h0 : K % 10 = 0
  · have h4 := Nat.mod_lt C (show 0 < 4 by decide)
    by_cases c0 : C % 4 = 0
    · exact stm_take00 m0 m3 f0 f1 f4 Ag Af Al As ng cg nf cf nl cl ns cs K A B C par w hK hA hB hC hl hg hp h0 c0
    by_cases c1 : C % 4 = 1
    · exact stm_take01 m0 m3 f0 f1 f4 Ag Af Al As ng cg nf cf nl cl ns cs K A B C par w hK hA hB hC hl hg hp h0 c1 hnf hnf2
    by_cases c2 : C % 4 = 2
    · exact stm_take02 m0 m3 f0 f1 f4 Ag Af Al As ng cg nf cf nl cl ns cs K A B C par w hK hA hB hC hl hg hp h0 c2 hns hns2
    exact stm_take03 m0 m3 f0 f1 f4 Ag Af Al As ng cg nf cf nl cl ns cs K A B C par w hK hA hB hC hl hg hp h0 (by omega) hns hns2
  by_cases h1 : K % 10 = 1
  · have h4 := Nat.mod_lt C (show 0 < 4 by decide)
    by_cases c0 : C % 4 = 0
    · exact stm_take10 m0 m3 f0 f1 f4 Ag Af Al As ng cg nf cf nl cl ns cs K A B C par w hK hA hB hC hl hg hp h1 c0
    by_cases c1 : C % 4 = 1
    · exact stm_take11 m0 m3 f0 f1 f4 Ag Af Al As ng cg nf cf nl cl ns cs K A B C par w hK hA hB hC hl hg hp h1 c1 hnf hnf2
    by_cases c2 : C % 4 = 2
    · exact stm_take12 m0 m3 f0 f1 f4 Ag Af Al As ng cg nf cf nl cl ns cs K A B C par w hK hA hB hC hl hg hp h1 c2 hns hns2
    exact stm_take13 m0 m3 f0 f1 f4 Ag Af Al As ng cg nf cf nl cl ns cs K A B C par w hK hA hB hC hl hg hp h1 (by omega) hns hns2
  by_cases h2 : K % 10 = 2
  · exact stm_load m0 m3 f0 f1 f4 Ag Af Al As ng cg nf cf nl cl ns cs K A B C par w hK hA hB hC hl hg hp h2
  by_cases h3 : K % 10 = 3
  · exact stm_store m0 m3 f0 f1 f4 Ag Af Al As ng cg nf cf nl cl ns cs K A B C par w hK hA hB hC hl hg hp h3
  by_cases h4 : K % 10 = 4
  · by_cases hc : C % 3 = 0
    · exact stm_call40 m0 m3 f0 f1 f4 Ag Af Al As ng cg nf cf nl cl ns cs K A B C par w hK hA hB hC hl hg hp h4 hc hnf hnf2 hpar
    · exact stm_call41 m0 m3 f0 f1 f4 Ag Af Al As ng cg nf cf nl cl ns cs K A B C par w hK hA hB hC hl hg hp h4 hc hnf hnf2 hpar
  by_cases h5 : K % 10 = 5
  · by_cases hc : C % 3 = 0
    · exact stm_call50 m0 m3 f0 f1 f4 Ag Af Al As ng cg nf cf nl cl ns cs K A B C par w hK hA hB hC hl hg hp h5 hc
    · exact stm_call51 m0 m3 f0 f1 f4 Ag Af Al As ng cg nf cf nl cl ns cs K A B C par w hK hA hB hC hl hg hp h5 hc
  by_cases h6 : K % 10 = 6
  · exact stm_return m0 m3 f0 f1 f4 Ag Af Al As ng cg nf cf nl cl ns cs K A B C par w hK hA hB hC hl hg hp h6
  by_cases h8 : K % 10 = 8
  · exact stm_move8 m0 m3 f0 f1 f4 Ag Af Al As ng cg nf cf nl cl ns cs K A B C par w hK hA hB hC hl hg hp h8
  exact stm_move9 m0 m3 f0 f1 f4 Ag Af Al As ng cg nf cf nl cl ns cs K A B C par w hK hA hB hC hl hg hp (by omega)
set_option maxRecDepth 20000 in
set_option maxHeartbeats 1000000 in
theorem stm_none (m0 m3 f0 f1 f4 : Value) (Ag Af Al As : Option Addr) (ng cg nf cf nl cl ns cs K A B C : Nat) (par : Nat → Nat) (w : World) (hK : K < 256) (hA : A < 256) (hB : B < 256) (hC : C < 256) (hl : nl ≤ 1000000) (hg : ng ≤ 1000000) (hp : 0 < nl + ng) (h10 : K % 10 = 7) (h8 : C % 8 = 7) :
    Calls Try.prog 33 #[.agg #[m0, .slice Ag ng cg, .slice Af nf cf, m3], .agg #[f0, f1, .slice Al nl cl, .slice As ns cs, f4], .agg #[.int .u8 (K : Int), .int .u8 (A : Int), .int .u8 (B : Int), .int .u8 (C : Int)]] w (StPost w (stm nl ng nf ns par K A B C)) := by
  have HS : Hid (stm nl ng nf ns par K A B C = ⟨7, (0, 0), (0, 0), [], .nil⟩) := by show _ = _; unfold stm; simp [h10, h8]
  have hm : (K : Int) % 10 = 7 := by omega
  have hm8 : (C : Int) % 8 = 7 := by omega
  have HB0 : Hid (Below w.heap.size w ((((w.alloc (.cells #[m0, .slice Ag ng cg, .slice Af nf cf, m3] 30)).alloc (.cells #[f0, f1, .slice Al nl cl, .slice As ns cs, f4] 40)).alloc (.cells #[.int .u8 (K : Int), .int .u8 (A : Int), .int .u8 (B : Int), .int .u8 (C : Int)] 77)).alloc (.cells #[.int .u8 0, .int .u8 0, .int .i64 0, .int .u8 0, .int .i64 0, .slice none 0 0, .slice none 0 0] 50))) := ((((Below.refl _ _).alloc (Nat.le_refl _) _).alloc (by simp) _).alloc (by simp; omega) _).alloc (by simp; omega) _
  have HV1 := Lib.hid (fun w' => variables_any m0 (.slice Af nf cf) m3 f0 f1 (.slice As ns cs) f4 Ag Al ng cg nl cl A w' hA hl hg hp)
  have HV2 := Lib.hid (fun w' => variables_any m0 (.slice Af nf cf) m3 f0 f1 (.slice As ns cs) f4 Ag Al ng cg nl cl B w' hB hl hg hp)
  generalize varF nl ng A = va at *
  generalize varF nl ng B = vb at *
  generalize stm nl ng nf ns par K A B C = s at *
  obtain ⟨va1, va2⟩ := va
  obtain ⟨vb1, vb2⟩ := vb
  have KM : Hid (Blk ((((w.alloc (.cells #[m0, .slice Ag ng cg, .slice Af nf cf, m3] 30)).alloc (.cells #[f0, f1, .slice Al nl cl, .slice As ns cs, f4] 40)).alloc (.cells #[.int .u8 (K : Int), .int .u8 (A : Int), .int .u8 (B : Int), .int .u8 (C : Int)] 77)).alloc (.cells #[.int .u8 0, .int .u8 0, .int .i64 0, .int .u8 0, .int .i64 0, .slice none 0 0, .slice none 0 0] 50)) w.heap.size 30 #[m0, .slice Ag ng cg, .slice Af nf cf, m3]) := (((Blk.new w 30 _).alloc _).alloc _).alloc _
  have KF : Hid (Blk ((((w.alloc (.cells #[m0, .slice Ag ng cg, .slice Af nf cf, m3] 30)).alloc (.cells #[f0, f1, .slice Al nl cl, .slice As ns cs, f4] 40)).alloc (.cells #[.int .u8 (K : Int), .int .u8 (A : Int), .int .u8 (B : Int), .int .u8 (C : Int)] 77)).alloc (.cells #[.int .u8 0, .int .u8 0, .int .i64 0, .int .u8 0, .int .i64 0, .slice none 0 0, .slice none 0 0] 50)) (w.heap.size + 1) 40 #[f0, f1, .slice Al nl cl, .slice As ns cs, f4]) := ((Blk.new' _ 40 _ _ (by simp)).alloc _).alloc _
  have KX : Hid (Blk ((((w.alloc (.cells #[m0, .slice Ag ng cg, .slice Af nf cf, m3] 30)).alloc (.cells #[f0, f1, .slice Al nl cl, .slice As ns cs, f4] 40)).alloc (.cells #[.int .u8 (K : Int), .int .u8 (A : Int), .int .u8 (B : Int), .int .u8 (C : Int)] 77)).alloc (.cells #[.int .u8 0, .int .u8 0, .int .i64 0, .int .u8 0, .int .i64 0, .slice none 0 0, .slice none 0 0] 50)) (w.heap.size + 1 + 1) 77 #[.int .u8 (K : Int), .int .u8 (A : Int), .int .u8 (B : Int), .int .u8 (C : Int)]) := (Blk.new' _ 77 _ _ (by simp)).alloc _
  have KR : Hid (Blk ((((w.alloc (.cells #[m0, .slice Ag ng cg, .slice Af nf cf, m3] 30)).alloc (.cells #[f0, f1, .slice Al nl cl, .slice As ns cs, f4] 40)).alloc (.cells #[.int .u8 (K : Int), .int .u8 (A : Int), .int .u8 (B : Int), .int .u8 (C : Int)] 77)).alloc (.cells #[.int .u8 0, .int .u8 0, .int .i64 0, .int .u8 0, .int .i64 0, .slice none 0 0, .slice none 0 0] 50)) (w.heap.size + 1 + 1 + 1) 50 #[.int .u8 0, .int .u8 0, .int .i64 0, .int .u8 0, .int .i64 0, .slice none 0 0, .slice none 0 0]) := Blk.new' _ 50 _ _ (by simp)
  go_enter Try.func33, Try.ntmps33
  go_wp2_with fail
  refine (HV1.out _).mono ?_
  rintro e w1 ⟨rfl, hb1⟩
  have HB1 := Lib.hid (HB0.out.trans (hb1.mono HB0.out.size))
  have KM1 := Lib.hid (KM.out.old hb1)
  have KF1 := Lib.hid (KF.out.old hb1)
  have KX1 := Lib.hid (KX.out.old hb1)
  have KR1 := Lib.hid (KR.out.old hb1)
  have z1 : w.heap.size + 1 + 1 + 1 < w1.heap.size := KR1.out.lt
  have z2 : w.heap.size + 1 + 1 < w1.heap.size := by omega
  have z3 : w.heap.size + 1 < w1.heap.size := by omega
  have z4 : w.heap.size < w1.heap.size := by omega
  obtain ⟨m01, m11, m21, m31⟩ := KM1.out.c4
  obtain ⟨f01, f11, f21, f31, f41⟩ := KF1.out.c5
  obtain ⟨x01, x11, x21, x31⟩ := KX1.out.c4
  clear hb1
  go_wp2_with fail
  refine (HV2.out _).mono ?_
  rintro e w2 ⟨rfl, hb2⟩
  have HB2 := Lib.hid ((HB1.out.alloc HB1.out.size (.cells #[.int .u8 va1, .int .i64 va2] 46)).trans (hb2.mono (by have := HB1.out.size; simp; omega)))
  have KM2 := Lib.hid ((KM1.out.alloc (.cells #[.int .u8 va1, .int .i64 va2] 46)).old hb2)
  have KF2 := Lib.hid ((KF1.out.alloc (.cells #[.int .u8 va1, .int .i64 va2] 46)).old hb2)
  have KX2 := Lib.hid ((KX1.out.alloc (.cells #[.int .u8 va1, .int .i64 va2] 46)).old hb2)
  have KR2 := Lib.hid ((KR1.out.alloc (.cells #[.int .u8 va1, .int .i64 va2] 46)).old hb2)
  have KA2 := Lib.hid ((Blk.new w1 46 #[.int .u8 va1, .int .i64 va2]).old hb2)
  have y0 : w1.heap.size < w2.heap.size := KA2.out.lt
  have y1 : w.heap.size + 1 + 1 + 1 < w2.heap.size := by omega
  have y2 : w.heap.size + 1 + 1 < w2.heap.size := by omega
  have y3 : w.heap.size + 1 < w2.heap.size := by omega
  have y4 : w.heap.size < w2.heap.size := by omega
  clear m01 m11 m21 m31 f01 f11 f21 f31 f41 x01 x11 x21 x31 hb2
  obtain ⟨m02, m12, m22, m32⟩ := KM2.out.c4
  obtain ⟨f02, f12, f22, f32, f42⟩ := KF2.out.c5
  obtain ⟨x02, x12, x22, x32⟩ := KX2.out.c4
  obtain ⟨a02, a12⟩ := KA2.out.c2
  obtain ⟨r02, r12, r22, r32, r42, r52, r62⟩ := KR2.out.c7
  have q0 := KR2.out.frozen 0
  have q1 := KR2.out.frozen 1
  have q2 := KR2.out.frozen 2
  have q3 := KR2.out.frozen 3
  have q4 := KR2.out.frozen 4
  have q5 := KR2.out.frozen 5
  have q6 := KR2.out.frozen 6
  have u0 : w1.heap.size < w2.heap.size + 1 := by omega
  have u1 : w.heap.size + 1 + 1 + 1 < w2.heap.size + 1 := by omega
  have u2 : w.heap.size + 1 + 1 < w2.heap.size + 1 := by omega
  have u3 : w.heap.size + 1 < w2.heap.size + 1 := by omega
  have u4 : w.heap.size < w2.heap.size + 1 := by omega
  go_wp2
  refine bodyPost_ret (v := .agg #[.int .u8 7, .int .u8 0, .int .i64 0, .int .u8 0, .int .i64 0, .slice none 0 0, .slice none 0 0]) (by simp [results, Try.results33, go_sem, y1, u1, r02, r12, r22, r32, r42, r52, r62]) rfl ?_
  rw [HS.out]
  exact ⟨.slice none 0 0, none, 0, rfl, noArgs _ _, noBody _ _ _, ((set7 HB2.out (by omega) _ _ _ _ _ _ _).alloc (by have := HB2.out.size; simp [World.setCell]; omega) _).alloc (by have := HB2.out.size; simp [World.setCell]; omega) _⟩
set_option maxRecDepth 20000 in
set_option maxHeartbeats 1000000 in
theorem stm_block (m0 m3 f0 f1 f4 : Value) (Ag Af Al As : Option Addr) (ng cg nf cf nl cl ns cs K A B C : Nat) (par : Nat → Nat) (w : World) (hK : K < 256) (hA : A < 256) (hB : B < 256) (hC : C < 256) (hl : nl ≤ 1000000) (hg : ng ≤ 1000000) (hp : 0 < nl + ng) (h10 : K % 10 = 7) (h8 : C % 8 ≠ 7) (hnf : 0 < nf) (hnf2 : nf ≤ 1000000) (hns : 0 < ns) (hns2 : ns ≤ 1000000) (hpar : ∀ i, i < nf → par i ≤ 100 ∧ ∃ b o, Af = some ⟨b, o, none⟩ ∧ w.cell? ⟨b, o + i * 5 + 1, none⟩ = some (.int .i64 ((par i : Nat) : Int))) :
    Calls Try.prog 33 #[.agg #[m0, .slice Ag ng cg, .slice Af nf cf, m3], .agg #[f0, f1, .slice Al nl cl, .slice As ns cs, f4], .agg #[.int .u8 (K : Int), .int .u8 (A : Int), .int .u8 (B : Int), .int .u8 (C : Int)]] w (StPost w (stm nl ng nf ns par K A B C)) := by
  have HS : Hid (stm nl ng nf ns par K A B C = ⟨7, (0, 0), (0, 0), [], (stm0 nl ng nf ns par (C % 8) A B C).ahead ((⟨2, varF nl ng B, varF nl ng A, [], .nil⟩ : St7).ahead .nil)⟩) := by show _ = _; unfold stm; simp [h10, h8]
  have hm : (K : Int) % 10 = 7 := by omega
  have hm8 : (C : Int) % 8 = ((C % 8 : Nat) : Int) := by omega
  have hm7 : (((C % 8 : Nat) : Int) == 7) = false := by simp; omega
  have HI := Lib.hid (fun w' (hb : Below w.heap.size w w') => stm0_any m0 m3 f0 f1 f4 Ag Af Al As ng cg nf cf nl cl ns cs (C % 8) A B C par w' (by omega) hA hB hC hl hg hp hnf hnf2 hns hns2 (fun i hi => by obtain ⟨h1, b, o, h2, h3⟩ := hpar i hi; exact ⟨h1, b, o, h2, (World.cell?_of_block (hb.block b (World.block_lt_of_cell? w ⟨b, o + i * 5 + 1, none⟩ h3))).trans h3⟩) (by omega))
  clear hpar
  generalize stm0 nl ng nf ns par (C % 8) A B C = s0 at *
  generalize C % 8 = k8 at *
  have HB0 : Hid (Below w.heap.size w ((((w.alloc (.cells #[m0, .slice Ag ng cg, .slice Af nf cf, m3] 30)).alloc (.cells #[f0, f1, .slice Al nl cl, .slice As ns cs, f4] 40)).alloc (.cells #[.int .u8 (K : Int), .int .u8 (A : Int), .int .u8 (B : Int), .int .u8 (C : Int)] 77)).alloc (.cells #[.int .u8 0, .int .u8 0, .int .i64 0, .int .u8 0, .int .i64 0, .slice none 0 0, .slice none 0 0] 50))) := ((((Below.refl _ _).alloc (Nat.le_refl _) _).alloc (by simp) _).alloc (by simp; omega) _).alloc (by simp; omega) _
  have HV1 := Lib.hid (fun w' => variables_any m0 (.slice Af nf cf) m3 f0 f1 (.slice As ns cs) f4 Ag Al ng cg nl cl A w' hA hl hg hp)
  have HV2 := Lib.hid (fun w' => variables_any m0 (.slice Af nf cf) m3 f0 f1 (.slice As ns cs) f4 Ag Al ng cg nl cl B w' hB hl hg hp)
  generalize varF nl ng A = va at *
  generalize varF nl ng B = vb at *
  generalize stm nl ng nf ns par K A B C = s at *
  obtain ⟨va1, va2⟩ := va
  obtain ⟨vb1, vb2⟩ := vb
  have KM : Hid (Blk ((((w.alloc (.cells #[m0, .slice Ag ng cg, .slice Af nf cf, m3] 30)).alloc (.cells #[f0, f1, .slice Al nl cl, .slice As ns cs, f4] 40)).alloc (.cells #[.int .u8 (K : Int), .int .u8 (A : Int), .int .u8 (B : Int), .int .u8 (C : Int)] 77)).alloc (.cells #[.int .u8 0, .int .u8 0, .int .i64 0, .int .u8 0, .int .i64 0, .slice none 0 0, .slice none 0 0] 50)) w.heap.size 30 #[m0, .slice Ag ng cg, .slice Af nf cf, m3]) := (((Blk.new w 30 _).alloc _).alloc _).alloc _
  have KF : Hid (Blk ((((w.alloc (.cells #[m0, .slice Ag ng cg, .slice Af nf cf, m3] 30)).alloc (.cells #[f0, f1, .slice Al nl cl, .slice As ns cs, f4] 40)).alloc (.cells #[.int .u8 (K : Int), .int .u8 (A : Int), .int .u8 (B : Int), .int .u8 (C : Int)] 77)).alloc (.cells #[.int .u8 0, .int .u8 0, .int .i64 0, .int .u8 0, .int .i64 0, .slice none 0 0, .slice none 0 0] 50)) (w.heap.size + 1) 40 #[f0, f1, .slice Al nl cl, .slice As ns cs, f4]) := ((Blk.new' _ 40 _ _ (by simp)).alloc _).alloc _
  have KX : Hid (Blk ((((w.alloc (.cells #[m0, .slice Ag ng cg, .slice Af nf cf, m3] 30)).alloc (.cells #[f0, f1, .slice Al nl cl, .slice As ns cs, f4] 40)).alloc (.cells #[.int .u8 (K : Int), .int .u8 (A : Int), .int .u8 (B : Int), .int .u8 (C : Int)] 77)).alloc (.cells #[.int .u8 0, .int .u8 0, .int .i64 0, .int .u8 0, .int .i64 0, .slice none 0 0, .slice none 0 0] 50)) (w.heap.size + 1 + 1) 77 #[.int .u8 (K : Int), .int .u8 (A : Int), .int .u8 (B : Int), .int .u8 (C : Int)]) := (Blk.new' _ 77 _ _ (by simp)).alloc _
  have KR : Hid (Blk ((((w.alloc (.cells #[m0, .slice Ag ng cg, .slice Af nf cf, m3] 30)).alloc (.cells #[f0, f1, .slice Al nl cl, .slice As ns cs, f4] 40)).alloc (.cells #[.int .u8 (K : Int), .int .u8 (A : Int), .int .u8 (B : Int), .int .u8 (C : Int)] 77)).alloc (.cells #[.int .u8 0, .int .u8 0, .int .i64 0, .int .u8 0, .int .i64 0, .slice none 0 0, .slice none 0 0] 50)) (w.heap.size + 1 + 1 + 1) 50 #[.int .u8 0, .int .u8 0, .int .i64 0, .int .u8 0, .int .i64 0, .slice none 0 0, .slice none 0 0]) := Blk.new' _ 50 _ _ (by simp)
  go_enter Try.func33, Try.ntmps33
  go_wp2_with fail
  refine (HV1.out _).mono ?_
  rintro e w1 ⟨rfl, hb1⟩
  have HB1 := Lib.hid (HB0.out.trans (hb1.mono HB0.out.size))
  have KM1 := Lib.hid (KM.out.old hb1)
  have KF1 := Lib.hid (KF.out.old hb1)
  have KX1 := Lib.hid (KX.out.old hb1)
  have KR1 := Lib.hid (KR.out.old hb1)
  have z1 : w.heap.size + 1 + 1 + 1 < w1.heap.size := KR1.out.lt
  have z2 : w.heap.size + 1 + 1 < w1.heap.size := by omega
  have z3 : w.heap.size + 1 < w1.heap.size := by omega
  have z4 : w.heap.size < w1.heap.size := by omega
  obtain ⟨m01, m11, m21, m31⟩ := KM1.out.c4
  obtain ⟨f01, f11, f21, f31, f41⟩ := KF1.out.c5
  obtain ⟨x01, x11, x21, x31⟩ := KX1.out.c4
  clear hb1
  go_wp2_with fail
  refine (HV2.out _).mono ?_
  rintro e w2 ⟨rfl, hb2⟩
  have HB2 := Lib.hid ((HB1.out.alloc HB1.out.size (.cells #[.int .u8 va1, .int .i64 va2] 46)).trans (hb2.mono (by have := HB1.out.size; simp; omega)))
  have KM2 := Lib.hid ((KM1.out.alloc (.cells #[.int .u8 va1, .int .i64 va2] 46)).old hb2)
  have KF2 := Lib.hid ((KF1.out.alloc (.cells #[.int .u8 va1, .int .i64 va2] 46)).old hb2)
  have KX2 := Lib.hid ((KX1.out.alloc (.cells #[.int .u8 va1, .int .i64 va2] 46)).old hb2)
  have KR2 := Lib.hid ((KR1.out.alloc (.cells #[.int .u8 va1, .int .i64 va2] 46)).old hb2)
  have KA2 := Lib.hid ((Blk.new w1 46 #[.int .u8 va1, .int .i64 va2]).old hb2)
  have y0 : w1.heap.size < w2.heap.size := KA2.out.lt
  have y1 : w.heap.size + 1 + 1 + 1 < w2.heap.size := by omega
  have y2 : w.heap.size + 1 + 1 < w2.heap.size := by omega
  have y3 : w.heap.size + 1 < w2.heap.size := by omega
  have y4 : w.heap.size < w2.heap.size := by omega
  clear m01 m11 m21 m31 f01 f11 f21 f31 f41 x01 x11 x21 x31 hb2
  obtain ⟨m02, m12, m22, m32⟩ := KM2.out.c4
  obtain ⟨f02, f12, f22, f32, f42⟩ := KF2.out.c5
  obtain ⟨x02, x12, x22, x32⟩ := KX2.out.c4
  obtain ⟨a02, a12⟩ := KA2.out.c2
  obtain ⟨r02, r12, r22, r32, r42, r52, r62⟩ := KR2.out.c7
  have q0 := KR2.out.frozen 0
  have q1 := KR2.out.frozen 1
  have q2 := KR2.out.frozen 2
  have q3 := KR2.out.frozen 3
  have q4 := KR2.out.frozen 4
  have q5 := KR2.out.frozen 5
  have q6 := KR2.out.frozen 6
  have u0 : w1.heap.size < w2.heap.size + 1 := by omega
  have u1 : w.heap.size + 1 + 1 + 1 < w2.heap.size + 1 := by omega
  have u2 : w.heap.size + 1 + 1 < w2.heap.size + 1 := by omega
  have u3 : w.heap.size + 1 < w2.heap.size + 1 := by omega
  have u4 : w.heap.size < w2.heap.size + 1 := by omega
  have HS0 : Hid ((fun W => Blk W w.heap.size 30 #[m0, .slice Ag ng cg, .slice Af nf cf, m3] ∧ Blk W (w.heap.size + 1) 40 #[f0, f1, .slice Al nl cl, .slice As ns cs, f4] ∧ Blk W (w2.heap.size + 1) 77 #[.int .u8 (k8 : Int), .int .u8 (A : Int), .int .u8 (B : Int), .int .u8 (C : Int)] ∧ Blk W w1.heap.size 46 #[.int .u8 va1, .int .i64 va2] ∧ Blk W w2.heap.size 46 #[.int .u8 vb1, .int .i64 vb2]) ((w2.alloc (.cells #[.int .u8 vb1, .int .i64 vb2] 46)).alloc (.cells #[.int .u8 (k8 : Int), .int .u8 (A : Int), .int .u8 (B : Int), .int .u8 (C : Int)] 77))) := ⟨(KM2.out.alloc _).alloc _, (KF2.out.alloc _).alloc _, Blk.new' _ 77 _ _ (by simp), (KA2.out.alloc _).alloc _, (Blk.new w2 46 _).alloc _⟩
  have KR9 : Hid (Blk ((w2.alloc (.cells #[.int .u8 vb1, .int .i64 vb2] 46)).alloc (.cells #[.int .u8 (k8 : Int), .int .u8 (A : Int), .int .u8 (B : Int), .int .u8 (C : Int)] 77)) (w.heap.size + 1 + 1 + 1) 50 #[.int .u8 0, .int .u8 0, .int .i64 0, .int .u8 0, .int .i64 0, .slice none 0 0, .slice none 0 0]) := (KR2.out.alloc _).alloc _
  have HB9 : Hid (Below w.heap.size w ((w2.alloc (.cells #[.int .u8 vb1, .int .i64 vb2] 46)).alloc (.cells #[.int .u8 (k8 : Int), .int .u8 (A : Int), .int .u8 (B : Int), .int .u8 (C : Int)] 77))) := (HB2.out.alloc HB2.out.size _).alloc (by have := HB2.out.size; simp; omega) _
  go_wp2_with fail
  clear m02 m12 m22 m32 f02 f12 f22 f32 f42 x02 x12 x22 x32 a02 a12 r02 r12 r22 r32 r42 r52 r62 q0 q1 q2 q3 q4 q5 q6 KM KF KX KR KM1 KF1 KX1 KR1 KM2 KF2 KX2 KR2 KA2 HB0 HB1 hm hm8 hm7 u0 u1 u2 u3 u4
  have hz9 : w2.heap.size + 1 < ((w2.alloc (.cells #[.int .u8 vb1, .int .i64 vb2] 46)).alloc (.cells #[.int .u8 (k8 : Int), .int .u8 (A : Int), .int .u8 (B : Int), .int .u8 (C : Int)] 77)).heap.size := by simp
  generalize ((w2.alloc (.cells #[.int .u8 vb1, .int .i64 vb2] 46)).alloc (.cells #[.int .u8 (k8 : Int), .int .u8 (A : Int), .int .u8 (B : Int), .int .u8 (C : Int)] 77)) = W9 at *
  refine wp_region_held_drew (S := (fun W => Blk W w.heap.size 30 #[m0, .slice Ag ng cg, .slice Af nf cf, m3] ∧ Blk W (w.heap.size + 1) 40 #[f0, f1, .slice Al nl cl, .slice As ns cs, f4] ∧ Blk W (w2.heap.size + 1) 77 #[.int .u8 (k8 : Int), .int .u8 (A : Int), .int .u8 (B : Int), .int .u8 (C : Int)] ∧ Blk W w1.heap.size 46 #[.int .u8 va1, .int .i64 va2] ∧ Blk W w2.heap.size 46 #[.int .u8 vb1, .int .i64 vb2])) (by kernel_rfl) ⟨HS0.out.1.drew, HS0.out.2.1.drew, HS0.out.2.2.1.drew, HS0.out.2.2.2.1.drew, HS0.out.2.2.2.2.drew⟩ (fun hHeld => ?_)
  refine wpAnyH_take (i := 0) (oi := ⟨_, _, _, _, _, _⟩) (v := ?_) rfl (by kernel_rfl) (by kernel_rfl) (by kernel_rfl) (fun _ _ _ h => h) (Or.inl ⟨by rfl, ?_⟩) (by assumption) ?_
  rotate_left
  · (intro W hSW; (try dsimp only at hSW); obtain ⟨s1, s2, s3, s4, s5⟩ := hSW; obtain ⟨p0, p1, p2, p3⟩ := s1.c4; obtain ⟨p4, p5, p6, p7, p8⟩ := s2.c5; obtain ⟨p9, p10, p11, p12⟩ := s3.c4; obtain ⟨p13, p14⟩ := s4.c2; obtain ⟨p15, p16⟩ := s5.c2; go_simp; first | done | with_reducible rfl)
  try simp only [Act.put, List.setIfInBounds_toArray, List.set_cons_zero, List.set_cons_succ]
  refine wpAnyH_take (i := 1) (oi := ⟨_, _, _, _, _, _⟩) (v := ?_) rfl (by kernel_rfl) (by kernel_rfl) (by kernel_rfl) (fun _ _ _ h => h) (Or.inl ⟨by rfl, ?_⟩) (by assumption) ?_
  rotate_left
  · (intro W hSW; (try dsimp only at hSW); obtain ⟨s1, s2, s3, s4, s5⟩ := hSW; obtain ⟨p0, p1, p2, p3⟩ := s1.c4; obtain ⟨p4, p5, p6, p7, p8⟩ := s2.c5; obtain ⟨p9, p10, p11, p12⟩ := s3.c4; obtain ⟨p13, p14⟩ := s4.c2; obtain ⟨p15, p16⟩ := s5.c2; go_simp; first | done | with_reducible rfl)
  try simp only [Act.put, List.setIfInBounds_toArray, List.set_cons_zero, List.set_cons_succ]
  refine wpAnyH_take (i := 2) (oi := ⟨_, _, _, _, _, _⟩) (v := ?_) rfl (by kernel_rfl) (by kernel_rfl) (by kernel_rfl) (fun _ _ _ h => h) (Or.inl ⟨by rfl, ?_⟩) (by assumption) ?_
  rotate_left
  · (intro W hSW; (try dsimp only at hSW); obtain ⟨s1, s2, s3, s4, s5⟩ := hSW; obtain ⟨p0, p1, p2, p3⟩ := s1.c4; obtain ⟨p4, p5, p6, p7, p8⟩ := s2.c5; obtain ⟨p9, p10, p11, p12⟩ := s3.c4; obtain ⟨p13, p14⟩ := s4.c2; obtain ⟨p15, p16⟩ := s5.c2; go_simp; first | done | with_reducible rfl)
  try simp only [Act.put, List.setIfInBounds_toArray, List.set_cons_zero, List.set_cons_succ]
  refine wpAnyH_take (i := 4) (oi := ⟨_, _, _, _, _, _⟩) (v := ?_) rfl (by kernel_rfl) (by kernel_rfl) (by kernel_rfl) (fun _ _ _ h => h) (Or.inl ⟨by rfl, ?_⟩) (by assumption) ?_
  rotate_left
  · (intro W hSW; (try dsimp only at hSW); obtain ⟨s1, s2, s3, s4, s5⟩ := hSW; obtain ⟨p0, p1, p2, p3⟩ := s1.c4; obtain ⟨p4, p5, p6, p7, p8⟩ := s2.c5; obtain ⟨p9, p10, p11, p12⟩ := s3.c4; obtain ⟨p13, p14⟩ := s4.c2; obtain ⟨p15, p16⟩ := s5.c2; go_simp; first | done | with_reducible rfl)
  try simp only [Act.put, List.setIfInBounds_toArray, List.set_cons_zero, List.set_cons_succ]
  refine wpAnyH_take (i := 5) (oi := ⟨_, _, _, _, _, _⟩) (v := ?_) rfl (by kernel_rfl) (by kernel_rfl) (by kernel_rfl) (fun _ _ _ h => h) (Or.inl ⟨by rfl, ?_⟩) (by assumption) ?_
  rotate_left
  · (intro W hSW; (try dsimp only at hSW); obtain ⟨s1, s2, s3, s4, s5⟩ := hSW; obtain ⟨p0, p1, p2, p3⟩ := s1.c4; obtain ⟨p4, p5, p6, p7, p8⟩ := s2.c5; obtain ⟨p9, p10, p11, p12⟩ := s3.c4; obtain ⟨p13, p14⟩ := s4.c2; obtain ⟨p15, p16⟩ := s5.c2; go_simp; first | done | with_reducible rfl)
  try simp only [Act.put, List.setIfInBounds_toArray, List.set_cons_zero, List.set_cons_succ]
  refine wpAnyH_take (i := 6) (oi := ⟨_, _, _, _, _, _⟩) (v := ?_) rfl (by kernel_rfl) (by kernel_rfl) (by kernel_rfl) (fun _ _ _ h => h) (Or.inl ⟨by rfl, ?_⟩) (by assumption) ?_
  rotate_left
  · (intro W hSW; (try dsimp only at hSW); obtain ⟨s1, s2, s3, s4, s5⟩ := hSW; obtain ⟨p0, p1, p2, p3⟩ := s1.c4; obtain ⟨p4, p5, p6, p7, p8⟩ := s2.c5; obtain ⟨p9, p10, p11, p12⟩ := s3.c4; obtain ⟨p13, p14⟩ := s4.c2; obtain ⟨p15, p16⟩ := s5.c2; go_simp; first | done | with_reducible rfl)
  try simp only [Act.put, List.setIfInBounds_toArray, List.set_cons_zero, List.set_cons_succ]
  refine wpAnyH_ready (rs := [3]) (by kernel_rfl) (by simp) ?_
  refine AllReadyH.cons (o := ⟨_, _, _, _, _, _⟩) rfl (fun KQ hKQ => ?_) AllReadyH.nil
  go_simp
  refine (HI.out W9.drew (HB9.out.drew)).mono ?_
  rintro e w3 ⟨va, A0, c0, rfl, hA3, hB3, hb3⟩
  obtain ⟨Aa, ca, rfl, hA3'⟩ := hA3
  have hb3' : Below W9.heap.size W9 w3 := (Below.refl _ W9).drew.trans hb3
  have hS3 : (fun W => Blk W w.heap.size 30 #[m0, .slice Ag ng cg, .slice Af nf cf, m3] ∧ Blk W (w.heap.size + 1) 40 #[f0, f1, .slice Al nl cl, .slice As ns cs, f4] ∧ Blk W (w2.heap.size + 1) 77 #[.int .u8 (k8 : Int), .int .u8 (A : Int), .int .u8 (B : Int), .int .u8 (C : Int)] ∧ Blk W w1.heap.size 46 #[.int .u8 va1, .int .i64 va2] ∧ Blk W w2.heap.size 46 #[.int .u8 vb1, .int .i64 vb2]) w3 := ⟨HS0.out.1.old hb3', HS0.out.2.1.old hb3', HS0.out.2.2.1.old hb3', HS0.out.2.2.2.1.old hb3', HS0.out.2.2.2.2.old hb3'⟩
  have KR3 := Lib.hid (KR9.out.old hb3')
  have HB3 := Lib.hid (HB9.out.trans (hb3'.mono HB9.out.size))
  have HA3 : Hid (ArgsS (fun k => W9.heap.size ≤ k) w3 (.slice Aa s0.xs.length ca) s0.xs) := ⟨Aa, ca, rfl, hA3'⟩
  have HBd3 : Hid (BodyS (fun k => W9.heap.size ≤ k) w3 A0 s0.sub) := hB3
  have hz3 : W9.heap.size ≤ w3.heap.size := hb3'.size
  refine hKQ.out _ _ hS3 (fun _ => ?_)
  clear hKQ KQ hA3' hB3 hb3 hb3' hHeld
  try simp only [Act.put, List.setIfInBounds_toArray, List.set_cons_zero, List.set_cons_succ]
  refine wpAnyH_ready (rs := [7]) (by kernel_rfl) (by simp) ?_
  refine AllReadyH.cons (o := ⟨_, _, _, _, _, _⟩) rfl (fun KQ hKQ => ?_) AllReadyH.nil
  go_simp
  have hS4 : (fun W => Blk W w.heap.size 30 #[m0, .slice Ag ng cg, .slice Af nf cf, m3] ∧ Blk W (w.heap.size + 1) 40 #[f0, f1, .slice Al nl cl, .slice As ns cs, f4] ∧ Blk W (w2.heap.size + 1) 77 #[.int .u8 (k8 : Int), .int .u8 (A : Int), .int .u8 (B : Int), .int .u8 (C : Int)] ∧ Blk W w1.heap.size 46 #[.int .u8 va1, .int .i64 va2] ∧ Blk W w2.heap.size 46 #[.int .u8 vb1, .int .i64 vb2]) (w3.alloc (.cells #[.int .u8 s0.k, .int .u8 s0.a.1, .int .i64 s0.a.2, .int .u8 s0.b.1, .int .i64 s0.b.2, .slice Aa s0.xs.length ca, .slice A0 s0.sub.len c0, .int .u8 2, .int .u8 vb1, .int .i64 vb2, .int .u8 va1, .int .i64 va2, .slice none 0 0, .slice none 0 0] 50)) := ⟨hS3.1.alloc _, hS3.2.1.alloc _, hS3.2.2.1.alloc _, hS3.2.2.2.1.alloc _, hS3.2.2.2.2.alloc _⟩
  refine hKQ.out _ _ hS4 (fun _ => ?_)
  clear hKQ KQ
  try simp only [Act.put, List.setIfInBounds_toArray, List.set_cons_zero, List.set_cons_succ]
  refine wpAnyH_take (i := 8) (oi := ⟨_, _, _, _, _, _⟩) (v := ?_) rfl (by kernel_rfl) (by kernel_rfl) (by kernel_rfl) (fun _ _ _ h => h) (Or.inl ⟨by rfl, ?_⟩) (by assumption) ?_
  rotate_left
  · (intro W hSW; (try dsimp only at hSW); go_simp; first | done | with_reducible rfl)
  try simp only [Act.put, List.setIfInBounds_toArray, List.set_cons_zero, List.set_cons_succ]
  obtain ⟨r0, r1, r2, r3, r4, r5, r6⟩ := KR3.out.c7
  have p0 := KR3.out.frozen 0
  have p1 := KR3.out.frozen 1
  have p2 := KR3.out.frozen 2
  have p3 := KR3.out.frozen 3
  have p4 := KR3.out.frozen 4
  have p5 := KR3.out.frozen 5
  have p6 := KR3.out.frozen 6
  have hzr : w.heap.size + 1 + 1 + 1 < w3.heap.size := KR3.out.lt
  refine wpAnyH_ready (rs := [9]) (by kernel_rfl) (by simp) ?_
  refine AllReadyH.cons (o := ⟨_, _, _, _, _, _⟩) rfl (fun KQ hKQ => ?_) AllReadyH.nil
  go_simp
  have hne : ∀ g, g ≠ w.heap.size + 1 + 1 + 1 → ∀ (t : TypeId) (cs : Array Value) (v0 v1 v2 v3 v4 v5 v6 : Value) (o : Obj), Blk w3 g t cs → Blk ((((((((w3.setCell ⟨w.heap.size + 1 + 1 + 1, 0, none⟩ v0).setCell ⟨w.heap.size + 1 + 1 + 1, 1, none⟩ v1).setCell ⟨w.heap.size + 1 + 1 + 1, 2, none⟩ v2).setCell ⟨w.heap.size + 1 + 1 + 1, 3, none⟩ v3).setCell ⟨w.heap.size + 1 + 1 + 1, 4, none⟩ v4).setCell ⟨w.heap.size + 1 + 1 + 1, 5, none⟩ v5).setCell ⟨w.heap.size + 1 + 1 + 1, 6, none⟩ v6).alloc o) g t cs :=
    fun g hg t cs v0 v1 v2 v3 v4 v5 v6 o h => Blk.alloc ((set7_far v0 v1 v2 v3 v4 v5 v6 hg).trans h) o
  have HNE := Lib.hid hne
  have HS3 := Lib.hid hS3
  clear hne
  refine hKQ.out _ _ ⟨HNE.out _ (by omega) _ _ _ _ _ _ _ _ _ _ HS3.out.1, HNE.out _ (by omega) _ _ _ _ _ _ _ _ _ _ HS3.out.2.1, HNE.out _ (by omega) _ _ _ _ _ _ _ _ _ _ HS3.out.2.2.1, HNE.out _ (by omega) _ _ _ _ _ _ _ _ _ _ HS3.out.2.2.2.1, HNE.out _ (by omega) _ _ _ _ _ _ _ _ _ _ HS3.out.2.2.2.2⟩ (fun _ => ?_)
  clear hKQ KQ hS3 hS4
  try simp only [Act.put, List.setIfInBounds_toArray, List.set_cons_zero, List.set_cons_succ]
  refine wpAnyH_done (by kernel_rfl) ?_ _
  go_wp2
  refine bodyPost_ret (v := .agg #[.int .u8 7, .int .u8 0, .int .i64 0, .int .u8 0, .int .i64 0, .slice none 0 0, .slice (some ⟨w3.heap.size, 0, none⟩) 2 2]) (by simp [results, Try.results33, go_sem, hzr, r0, r1, r2, r3, r4, r5, r6]) rfl ?_
  rw [HS.out]
  refine ⟨.slice none 0 0, some ⟨w3.heap.size, 0, none⟩, 2, rfl, noArgs _ _, ?_, (set7 HB3.out (by omega) _ _ _ _ _ _ _).alloc (by have := HB3.out.size; simp [World.setCell]; omega) _⟩
  intro hp
  refine ⟨w3.heap.size, 0, rfl, ?_⟩
  have hw := HB3.out.size
  have hblk := Blk.new' ((((((((w3.setCell ⟨w.heap.size + 1 + 1 + 1, 0, none⟩ (.int .u8 7)).setCell ⟨w.heap.size + 1 + 1 + 1, 1, none⟩ (.int .u8 0)).setCell ⟨w.heap.size + 1 + 1 + 1, 2, none⟩ (.int .i64 0)).setCell ⟨w.heap.size + 1 + 1 + 1, 3, none⟩ (.int .u8 0)).setCell ⟨w.heap.size + 1 + 1 + 1, 4, none⟩ (.int .i64 0)).setCell ⟨w.heap.size + 1 + 1 + 1, 5, none⟩ (.slice none 0 0)).setCell ⟨w.heap.size + 1 + 1 + 1, 6, none⟩ (.slice (some ⟨w3.heap.size, 0, none⟩) 2 2))) 50 #[.int .u8 s0.k, .int .u8 s0.a.1, .int .i64 s0.a.2, .int .u8 s0.b.1, .int .i64 s0.b.2, .slice Aa s0.xs.length ca, .slice A0 s0.sub.len c0, .int .u8 2, .int .u8 vb1, .int .i64 vb2, .int .u8 va1, .int .i64 va2, .slice none 0 0, .slice none 0 0] w3.heap.size (by simp [World.setCell])
  have hkp : Kept (fun k => W9.heap.size ≤ k) w3 (((((((((w3.setCell ⟨w.heap.size + 1 + 1 + 1, 0, none⟩ (.int .u8 7)).setCell ⟨w.heap.size + 1 + 1 + 1, 1, none⟩ (.int .u8 0)).setCell ⟨w.heap.size + 1 + 1 + 1, 2, none⟩ (.int .i64 0)).setCell ⟨w.heap.size + 1 + 1 + 1, 3, none⟩ (.int .u8 0)).setCell ⟨w.heap.size + 1 + 1 + 1, 4, none⟩ (.int .i64 0)).setCell ⟨w.heap.size + 1 + 1 + 1, 5, none⟩ (.slice none 0 0)).setCell ⟨w.heap.size + 1 + 1 + 1, 6, none⟩ (.slice (some ⟨w3.heap.size, 0, none⟩) 2 2))).alloc (.cells #[.int .u8 s0.k, .int .u8 s0.a.1, .int .i64 s0.a.2, .int .u8 s0.b.1, .int .i64 s0.b.2, .slice Aa s0.xs.length ca, .slice A0 s0.sub.len c0, .int .u8 2, .int .u8 vb1, .int .i64 vb2, .int .u8 va1, .int .i64 va2, .slice none 0 0, .slice none 0 0] 50)) := fun k hk hlt => by
    have hk' : W9.heap.size ≤ k := hk
    rw [heap_alloc_old _ _ (by simp [World.setCell]; exact hlt), set7_far _ _ _ _ _ _ _ (by omega)]
  generalize (((((((((w3.setCell ⟨w.heap.size + 1 + 1 + 1, 0, none⟩ (.int .u8 7)).setCell ⟨w.heap.size + 1 + 1 + 1, 1, none⟩ (.int .u8 0)).setCell ⟨w.heap.size + 1 + 1 + 1, 2, none⟩ (.int .i64 0)).setCell ⟨w.heap.size + 1 + 1 + 1, 3, none⟩ (.int .u8 0)).setCell ⟨w.heap.size + 1 + 1 + 1, 4, none⟩ (.int .i64 0)).setCell ⟨w.heap.size + 1 + 1 + 1, 5, none⟩ (.slice none 0 0)).setCell ⟨w.heap.size + 1 + 1 + 1, 6, none⟩ (.slice (some ⟨w3.heap.size, 0, none⟩) 2 2))).alloc (.cells #[.int .u8 s0.k, .int .u8 s0.a.1, .int .i64 s0.a.2, .int .u8 s0.b.1, .int .i64 s0.b.2, .slice Aa s0.xs.length ca, .slice A0 s0.sub.len c0, .int .u8 2, .int .u8 vb1, .int .i64 vb2, .int .u8 va1, .int .i64 va2, .slice none 0 0, .slice none 0 0] 50)) = wf at hblk hkp ⊢
  have hmono : ∀ k, W9.heap.size ≤ k → k < w3.heap.size → w.heap.size ≤ k := fun k hk _ => by omega
  exact ⟨hw, ⟨hblk.cell 0, hblk.cell 1, hblk.cell 2, hblk.cell 3, hblk.cell 4⟩, ⟨_, hblk.cell 5, HA3.out.kept hkp hmono⟩, ⟨A0, c0, hblk.cell 6, HBd3.out.kept hkp hmono⟩, ⟨hw, ⟨hblk.cell 7, hblk.cell 8, hblk.cell 9, hblk.cell 10, hblk.cell 11⟩, ⟨_, hblk.cell 12, noArgs _ _⟩, ⟨none, 0, hblk.cell 13, fun h => by simp [Bd.len] at h⟩, trivial⟩⟩
theorem stm_any (m0 m3 f0 f1 f4 : Value) (Ag Af Al As : Option Addr) (ng cg nf cf nl cl ns cs K A B C : Nat) (par : Nat → Nat) (w : World) (hK : K < 256) (hA : A < 256) (hB : B < 256) (hC : C < 256) (hl : nl ≤ 1000000) (hg : ng ≤ 1000000) (hp : 0 < nl + ng) (hnf : 0 < nf) (hnf2 : nf ≤ 1000000) (hns : 0 < ns) (hns2 : ns ≤ 1000000) (hpar : ∀ i, i < nf → par i ≤ 100 ∧ ∃ b o, Af = some ⟨b, o, none⟩ ∧ w.cell? ⟨b, o + i * 5 + 1, none⟩ = some (.int .i64 ((par i : Nat) : Int))) :
    Calls Try.prog 33 #[.agg #[m0, .slice Ag ng cg, .slice Af nf cf, m3], .agg #[f0, f1, .slice Al nl cl, .slice As ns cs, f4], .agg #[.int .u8 (K : Int), .int .u8 (A : Int), .int .u8 (B : Int), .int .u8 (C : Int)]] w (StPost w (stm nl ng nf ns par K A B C)) := by
  by_cases h7 : K % 10 = 7
  · by_cases h8 : C % 8 = 7
    · exact stm_none m0 m3 f0 f1 f4 Ag Af Al As ng cg nf cf nl cl ns cs K A B C par w hK hA hB hC hl hg hp h7 h8
    · exact stm_block m0 m3 f0 f1 f4 Ag Af Al As ng cg nf cf nl cl ns cs K A B C par w hK hA hB hC hl hg hp h7 h8 hnf hnf2 hns hns2 hpar
  · have := stm0_any m0 m3 f0 f1 f4 Ag Af Al As ng cg nf cf nl cl ns cs K A B C par w hK hA hB hC hl hg hp hnf hnf2 hns hns2 hpar h7
    rwa [show stm0 nl ng nf ns par K A B C = stm nl ng nf ns par K A B C from by unfold stm; rw [if_neg h7]] at this
end Go.Proofs.Ytpdebnecfknohaa
namespace Go.Proofs.Ytpdebnecfknohaa
open Go.RowKit
set_option linter.unusedVariables false
set_option maxRecDepth 20000
/-- A string of bytes. -/
def bs (x : List UInt8) : ByteArray := ⟨x.toArray⟩
theorem bs_toList (x : List UInt8) : (bs x).toList = x := by rw [ByteArray.toList_eq]; rfl
/-- A slice that reads as these cells, in a block of the kind. -/
def RdS (S : Nat → Prop) (w : World) (A : Option Addr) (n size : Nat) (xs : List Value) : Prop := xs.length = n * size ∧ (0 < n → ∃ b o, A = some ⟨b, o, none⟩ ∧ S b ∧ ∀ j u, xs[j]? = some u → w.cell? ⟨b, o + j, none⟩ = some u)
theorem RdS.kept {S S' : Nat → Prop} {w w' : World} {A : Option Addr} {n size : Nat} {xs : List Value} (h : RdS S w A n size xs) (hk : Kept S w w') (hS : ∀ k, S k → k < w.heap.size → S' k) (hs : 0 < size) : RdS S' w' A n size xs := by
  refine ⟨h.1, fun hp => ?_⟩
  obtain ⟨b, o, hA, hb, hc⟩ := h.2 hp
  have h0 : 0 < xs.length := by rw [h.1]; exact Nat.mul_pos hp hs
  exact ⟨b, o, hA, hS b hb (World.block_lt_of_cell? w ⟨b, o + 0, none⟩ (hc 0 _ (List.getElem?_eq_getElem h0))), fun j u hj => hk.cell hb (hc j u hj)⟩
theorem RdS.old {S : Nat → Prop} {w w' : World} {A : Option Addr} {n size : Nat} {xs : List Value} (h : RdS S w A n size xs) (hb : Below w.heap.size w w') (hs : 0 < size) : RdS S w' A n size xs := h.kept (fun k _ hk => hb.block k hk) (fun _ h _ => h) hs
theorem RdS.own {w : World} {base n size e c : Nat} {A : Option Addr} {xs : List Value} (h : w.ownsRow base e size (.slice A n c) n xs) : RdS (fun k => base ≤ k) w A n size xs := by
  refine ⟨h.1, fun hp => ?_⟩
  rcases h.2 with ⟨_, h0⟩ | ⟨q, cap, cur, hv, h2, hk, h3, h4, h5, h6⟩
  · omega
  · have hA : A = some ⟨q, 0, none⟩ := by injection hv
    refine ⟨q, 0, hA, h2, fun j u hj => ?_⟩
    rw [cell_of_row w q _ cur e (0, 0) hk, Nat.zero_add, ← Array.getElem?_toList]
    rw [← h6] at hj
    rcases Nat.lt_or_ge j (n * size) with h | h
    · rwa [List.getElem?_take_of_lt h] at hj
    · rw [List.getElem?_eq_none (by rw [List.length_take]; omega)] at hj; cases hj
theorem RdS.below {S : Nat → Prop} {w : World} {A : Option Addr} {n size : Nat} {xs : List Value} (h : RdS S w A n size xs) {S' : Nat → Prop} (hS : ∀ k, S k → S' k) : RdS S' w A n size xs :=
  ⟨h.1, fun hp => by obtain ⟨b, o, hA, hb, hc⟩ := h.2 hp; exact ⟨b, o, hA, hS b hb, hc⟩⟩
def strV (l : List (List UInt8)) : List Value := l.map fun x => .string (bs x)
def intV (l : List Int) : List Value := l.map (Value.int .i64)
theorem intV_len (l : List Int) : (intV l).length = l.length := by simp [intV]
theorem strV_get (l : List (List UInt8)) (i : Nat) (h : i < l.length) : (strV l)[i]? = some (.string (bs l[i])) := by simp [strV, h]
theorem intV_get (l : List Int) (i : Nat) (h : i < l.length) : (intV l)[i]? = some (.int .i64 l[i]) := by simp [intV, h]
/-- The number of a string among others, the first of which has the number i. -/
def numF : List (List UInt8) → List UInt8 → Nat → Int
  | [], _, _ => -1
  | x :: l, s, i => if x = s then (i : Int) else numF l s (i + 1)
set_option maxHeartbeats 1000000 in
theorem number_any (A : Option Addr) (c : Nat) (l : List (List UInt8)) (s : List UInt8) (w : World) (h : RdS (fun _ => True) w A l.length 1 (strV l)) (hl : l.length ≤ 1000000) :
    Calls Try.prog 55 #[.slice A l.length c, .string (bs s)] w fun e w' => e = .returned (.int .i64 (numF l s 0)) ∧ w = w' := by
  have HR := Lib.hid h
  clear h
  obtain ⟨N, hN⟩ : ∃ N, N = l.length := ⟨_, rfl⟩
  rw [← hN] at hl
  have HN := Lib.hid hN
  rw [← hN]
  clear hN
  go_enter Try.func55, Try.ntmps55
  go_wp2_with fail
  go_loopw [5] (fun i wr => ∃ k : Nat, k ≤ N ∧ i = .int .i64 (k : Int) ∧ w = wr ∧ Hid (numF l s 0 = numF (l.drop k) s k)) (fun i _ => N - (intOf i).toNat)
  case atStart => exact ⟨0, Nat.zero_le _, rfl, rfl, rfl⟩
  case round =>
    obtain ⟨k, hk, rfl, rfl, hE⟩ := hrel
    by_cases hlt : k < N
    · have hkl : k < l.length := by have := HN.out; omega
      obtain ⟨b, o, rfl, _, hc⟩ := HR.out.2 (by omega)
      have hcell := hc k _ (strV_get l k hkl)
      have hE2 := hE.out
      rw [List.drop_eq_getElem_cons hkl, numF] at hE2
      clear hc hE
      by_cases hx : l[k] = s
      · rw [if_pos hx] at hE2
        have HE2 := Lib.hid hE2
        have hq : ((bs l[k]).toList == (bs s).toList) = true := by rw [bs_toList, bs_toList]; simp [hx]
        generalize bs l[k] = bk at *
        clear hE2 hx
        go_wp2
        go_ret
        exact ⟨congrArg (fun x => Ending.returned (Value.int .i64 x)) HE2.out.symm, rfl⟩
      · rw [if_neg hx] at hE2
        have HE2 := Lib.hid hE2
        have hq : ((bs l[k]).toList == (bs s).toList) = false := by rw [bs_toList, bs_toList]; simpa using hx
        generalize bs l[k] = bk at *
        clear hE2 hx
        go_wp2
        go_roundw
        case rel => exact ⟨k + 1, by omega, by go_num, trivial, HE2⟩
        case measure => simp [intOf]; omega
    · obtain rfl : k = N := by omega
      have hE2 := hE.out
      rw [List.drop_of_length_le (by have := HN.out; omega), numF] at hE2
      have HE2 := Lib.hid hE2
      clear hE2 hE
      go_wp2
      go_ret
      exact ⟨congrArg (fun x => Ending.returned (Value.int .i64 x)) HE2.out.symm, rfl⟩
theorem numF_bound (l : List (List UInt8)) (s : List UInt8) : ∀ i, -1 ≤ numF l s i ∧ numF l s i ≤ (i : Int) + l.length := by
  induction l with
  | nil => intro i; simp [numF]
  | cons x l ih =>
    intro i
    have := ih (i + 1)
    simp only [numF]
    split
    · simp; omega
    · simp at *; omega
def numsF (l fr : List (List UInt8)) (x : List Int) : List Int := x.map fun i => numF l (fr.getD i.toNat []) 0
theorem info3 : (Try.prog.info? 3).map (fun i => (i.zero, i.size, i.bytes)) = some (some (.int .i64 0), 1, 8) := by kernel_rfl
/-- A number more. -/
theorem push1 (base : Nat) (v : Value) (l : List Int) (x : Int) (w : World) (h : w.ownsRow base 3 1 v l.length (intV l)) (hl : l.length ≤ 1000000) (hb : base ≤ w.heap.size) :
    ∃ q c w', (Builtin.append_ #[27, 27] 27 #[v, .slice (some ⟨w.heap.size, 0, none⟩) 1 1]).run Try.prog (w.alloc (.cells #[.int .i64 x] 3)) = .ok (.slice (some ⟨q, 0, none⟩) (l.length + 1) c) w' ∧ w'.ownsRow base 3 1 (.slice (some ⟨q, 0, none⟩) (l.length + 1) c) (l ++ [x]).length (intV (l ++ [x])) ∧ (w.alloc (.cells #[.int .i64 x] 3)).grownBy w' v.ownBlock ∧ (some q = v.ownBlock ∨ q = w.heap.size + 1) := by
  obtain ⟨i0, hi0, hz0, hz1, hz2⟩ := info_parts info3
  have hc : ∀ j u, ([.int .i64 x] : List Value)[j]? = some u → (w.alloc (.cells #[.int .i64 x] 3)).cell? ((⟨w.heap.size, 0, none⟩ : Addr).add j) = some u := by
    intro j u hj
    rw [Go.WideShapes.add_plain, cell_of_row _ w.heap.size _ _ 3 (0, 0) (heap_alloc_new w _), Nat.zero_add]
    simpa using hj
  obtain ⟨v5, w5, hr5, hO5, hg5, _, hat⟩ := run_append_own_at (P := Try.prog) (w.alloc (.cells #[.int .i64 x] 3)) base 27 27 3 i0 (.int .i64 0) 1 8 Try.underlying27 hi0 hz0 hz1 hz2 rfl (by decide) v l.length _ (h.alloc _) ⟨w.heap.size, 0, none⟩ 1 1 [.int .i64 x] rfl hc (by intro u hu; simp at hu; subst hu; rfl) (by unfold maxLen; omega) (by omega) (by simp; omega)
  obtain ⟨q5, c5, rfl⟩ : ∃ q5 c5, v5 = .slice (some ⟨q5, 0, none⟩) (l.length + 1) c5 := by
    rcases hO5.2 with ⟨_, h1⟩ | ⟨k, cap, cur, hv, _⟩
    · omega
    · exact ⟨k, cap, hv⟩
  refine ⟨q5, c5, w5, hr5, ?_, hg5, ?_⟩
  · rw [show (l ++ [x]).length = l.length + 1 from by simp, show intV (l ++ [x]) = intV l ++ [.int .i64 x] from by simp [intV]]; exact hO5
  · rcases hat with h | h
    · exact .inl h
    · refine .inr ?_
      have : some q5 = some (w.heap.size + 1) := by rw [show (some q5 : Option Nat) = (Value.slice (some ⟨q5, 0, none⟩) (l.length + 1) c5).ownBlock from rfl, h]; simp
      injection this
/-- What a call that hands back a new row of numbers leaves. -/
def IntsPost (w : World) (l : List Int) (e : Ending) (w' : World) : Prop := ∃ A c, e = .returned (.slice A l.length c) ∧ w'.ownsRow w.heap.size 3 1 (.slice A l.length c) l.length (intV l) ∧ Below w.heap.size w w'
set_option maxRecDepth 20000 in
set_option maxHeartbeats 1000000 in
theorem numbers_any (A B C : Option Addr) (ca cb cc : Nat) (l fr : List (List UInt8)) (x : List Int) (w : World) (h1 : RdS (fun _ => True) w A l.length 1 (strV l)) (h2 : RdS (fun _ => True) w B fr.length 1 (strV fr)) (h3 : RdS (fun _ => True) w C x.length 1 (intV x)) (hl : l.length ≤ 1000000) (hf : fr.length ≤ 1000000) (hx : x.length ≤ 1000000) (hi : ∀ i ∈ x, 0 ≤ i ∧ i < fr.length) :
    Calls Try.prog 56 #[.slice A l.length ca, .slice B fr.length cb, .slice C x.length cc] w (IntsPost w (numsF l fr x)) := by
  have H1 := Lib.hid h1
  have H2 := Lib.hid h2
  have H3 := Lib.hid h3
  have HI := Lib.hid hi
  have HL := Lib.hid hl
  clear h1 h2 h3 hi
  obtain ⟨N, hN⟩ : ∃ N, N = x.length := ⟨_, rfl⟩
  obtain ⟨F, hF⟩ : ∃ F, F = fr.length := ⟨_, rfl⟩
  obtain ⟨L, hL⟩ : ∃ L, L = l.length := ⟨_, rfl⟩
  rw [← hN] at hx
  rw [← hF] at hf
  have HN := Lib.hid hN
  have HF := Lib.hid hF
  have HLL := Lib.hid hL
  rw [← hN, ← hF, ← hL]
  clear hN hF hL hl
  go_enter Try.func56, Try.ntmps56
  go_wp2_with fail
  go_loopw [7, 8] (fun s7 s8 wr => ∃ (k : Nat) (Ao : Option Addr) (co : Nat), k ≤ N ∧ s8 = .int .i64 (k : Int) ∧ s7 = .slice Ao k co ∧ Hid (wr.ownsRow w.heap.size 3 1 (.slice Ao k co) (numsF l fr (x.take k)).length (intV (numsF l fr (x.take k)))) ∧ Hid (Below w.heap.size w wr)) (fun _ s8 _ => N - (intOf s8).toNat)
  case atStart => exact ⟨0, none, 0, Nat.zero_le _, rfl, rfl, ⟨rfl, .inl ⟨rfl, rfl⟩⟩, Below.refl _ _⟩
  case round =>
    obtain ⟨k, Ao, co, hk, rfl, rfl, hO, hB⟩ := hrel
    have HLk : Hid ((numsF l fr (x.take k)).length = k) := by show _ = _; simp [numsF]; have := HN.out; omega
    by_cases hlt : k < N
    · have hkx : k < x.length := by have := HN.out; omega
      obtain ⟨bc, oc, rfl, _, dc⟩ := H3.out.2 (by omega)
      have c3 := cell_old hB.out (World.block_lt_of_cell? w ⟨bc, oc + k, none⟩ (dc k _ (intV_get x k hkx))) (dc k _ (intV_get x k hkx))
      obtain ⟨hi0, hi1⟩ := HI.out x[k] (List.getElem_mem hkx)
      have HTk : Hid (numsF l fr (x.take (k + 1)) = numsF l fr (x.take k) ++ [numF l (fr.getD x[k].toNat []) 0]) := by
        show _ = _
        unfold numsF; rw [List.take_succ_eq_append_getElem hkx, List.map_append]; rfl
      generalize x[k] = xk at *
      obtain ⟨m, rfl⟩ : ∃ m : Nat, xk = m := ⟨xk.toNat, by omega⟩
      have hmF : m < F := by have := HF.out; omega
      have hmf : m < fr.length := by omega
      obtain ⟨bb, ob, rfl, _, db⟩ := H2.out.2 (by omega)
      have c2 := cell_old hB.out (World.block_lt_of_cell? w ⟨bb, ob + m, none⟩ (db m _ (strV_get fr m hmf))) (db m _ (strV_get fr m hmf))
      have HNum := Lib.hid (number_any A ca l fr[m] wr (H1.out.old hB.out (by decide)) HL.out)
      have hnb := numF_bound l fr[m] 0
      have HTk2 : Hid (numsF l fr (x.take (k + 1)) = numsF l fr (x.take k) ++ [numF l fr[m] 0]) := by
        show _ = _
        rw [HTk.out]; simp [List.getD, hmf]
      rw [← HLL.out] at HNum
      generalize numF l fr[m] 0 = nv at *
      generalize fr[m] = sm at *
      have hO2 := hO.out
      obtain ⟨q5, c5, w5, hr5, hO5, hg5, _⟩ := push1 w.heap.size (.slice Ao k co) (numsF l fr (x.take k)) nv wr hO2 (by rw [HLk.out]; omega) hB.out.size
      rw [HLk.out] at hr5 hO5
      have HO5 := Lib.hid hO5
      have HB5 : Hid (Below w.heap.size w w5) := (hB.out.alloc hB.out.size _).grown hg5 (by have := hB.out.size; simp; omega) (fun q hq => (hO2.lt q hq).1)
      clear dc db hO2 hO5 hg5 HTk
      have hmi : (m : Int) < (F : Int) := by omega
      go_upto_region 5 with (fail)
      go_wp2_with fail
      refine HNum.out.mono ?_
      rintro e w2 ⟨rfl, rfl⟩
      go_wp2_with (at_builtin; refine Lib.wpList_append_run _ rfl _ _ 27 27 rfl _ _ rfl rfl _ _ hr5 ?_)
      go_roundw
      case rel => exact ⟨k + 1, _, _, by omega, by go_num, rfl, (by rw [HTk2.out]; exact HO5), HB5⟩
      case measure => simp [intOf]; omega
    · obtain rfl : k = N := by omega
      have HO2 := hO.out
      rw [List.take_of_length_le (by have := HN.out; omega)] at HO2 HLk
      go_wp2
      go_ret
      refine ⟨Ao, co, congrArg (fun n => Ending.returned (Value.slice Ao n co)) HLk.out.symm, by rw [HLk.out] at HO2 ⊢; exact HO2, hB.out⟩
end Go.Proofs.Ytpdebnecfknohaa
namespace Go.Proofs.Ytpdebnecfknohaa
open Go.RowKit
set_option linter.unusedVariables false
set_option maxRecDepth 20000
structure Fn where
  name : Int
  params : Int
  locals : List Int
  sites : List Int
  body : Bd
/-- A function's cells. -/
def FnS (S : Nat → Prop) (w : World) (cs : List Value) (f : Fn) : Prop := ∃ Al cl As cs' Ab cb, cs = [.int .i64 f.name, .int .i64 f.params, .slice Al f.locals.length cl, .slice As f.sites.length cs', .slice Ab f.body.len cb] ∧ RdS S w Al f.locals.length 1 (intV f.locals) ∧ RdS S w As f.sites.length 1 (intV f.sites) ∧ BodyS S w Ab f.body
def FnsS (S : Nat → Prop) (w : World) (A : Option Addr) (L : List Fn) : Prop := 0 < L.length → ∃ b o, A = some ⟨b, o, none⟩ ∧ S b ∧ ∀ i (h : i < L.length), ∃ cs, FnS S w cs L[i] ∧ ∀ j u, cs[j]? = some u → w.cell? ⟨b, o + i * 5 + j, none⟩ = some u
theorem FnS.kept {S S' : Nat → Prop} {w w' : World} {cs : List Value} {f : Fn} (h : FnS S w cs f) (hk : Kept S w w') (hS : ∀ k, S k → k < w.heap.size → S' k) : FnS S' w' cs f := by
  obtain ⟨Al, cl, As, cs', Ab, cb, h1, h2, h3, h4⟩ := h
  exact ⟨Al, cl, As, cs', Ab, cb, h1, h2.kept hk hS (by decide), h3.kept hk hS (by decide), h4.kept hk hS⟩
theorem FnsS.kept {S S' : Nat → Prop} {w w' : World} {A : Option Addr} {L : List Fn} (h : FnsS S w A L) (hk : Kept S w w') (hS : ∀ k, S k → k < w.heap.size → S' k) : FnsS S' w' A L := fun hp => by
  obtain ⟨b, o, hA, hb, hc⟩ := h hp
  obtain ⟨cs, hf, h0⟩ := hc 0 hp
  obtain ⟨Al, cl, As, cs', Ab, cb, h1, _⟩ := hf
  refine ⟨b, o, hA, hS b hb (World.block_lt_of_cell? w ⟨b, o + 0 * 5 + 0, none⟩ (h0 0 _ (by rw [h1]; rfl))), fun i hi => ?_⟩
  obtain ⟨cs, hf, hcc⟩ := hc i hi
  exact ⟨cs, hf.kept hk hS, fun j u hj => hk.cell hb (hcc j u hj)⟩
theorem FnsS.old {S : Nat → Prop} {w w' : World} {A : Option Addr} {L : List Fn} (h : FnsS S w A L) (hb : Below w.heap.size w w') : FnsS S w' A L := h.kept (fun k _ hk => hb.block k hk) (fun _ h _ => h)
def usedF (g : List Int) (L : List Fn) (n : Int) : Bool := g.any (fun x => x == n) || L.any (fun f => f.name == n || f.locals.any (fun x => x == n) || f.sites.any (fun x => x == n))
theorem any_take_succ {l : List Int} {n : Int} {k : Nat} (hk : k < l.length) (h : (l.take k).any (fun x => x == n) = false) : (l.take (k + 1)).any (fun x => x == n) = (l[k] == n) := by
  rw [List.take_succ_eq_append_getElem hk, List.any_append, h]; simp
theorem any_of_take {l : List Int} {n : Int} {k : Nat} (h : (l.take k).any (fun x => x == n) = true) : l.any (fun x => x == n) = true := by
  rw [List.any_eq_true] at h ⊢
  obtain ⟨x, hx, h⟩ := h
  exact ⟨x, List.mem_of_mem_take hx, h⟩
theorem anyF_of {l : List Fn} {p : Fn → Bool} {k : Nat} (hk : k < l.length) (h : p l[k] = true) : l.any p = true := List.any_eq_true.2 ⟨_, List.getElem_mem hk, h⟩
set_option maxRecDepth 20000 in
set_option maxHeartbeats 2000000 in
theorem used_any (m0 m3 : Value) (Ag Af : Option Addr) (cg cf : Nat) (g : List Int) (L : List Fn) (n : Int) (w : World) (h1 : RdS (fun _ => True) w Ag g.length 1 (intV g)) (h2 : FnsS (fun _ => True) w Af L) (hg : g.length ≤ 1000000) (hL : L.length ≤ 1000000) (hlo : ∀ f ∈ L, f.locals.length ≤ 1000000 ∧ f.sites.length ≤ 1000000) :
    Calls Try.prog 44 #[.agg #[m0, .slice Ag g.length cg, .slice Af L.length cf, m3], .int .i64 n] w fun e w' => e = .returned (.bool (usedF g L n)) ∧ Below w.heap.size w w' := by
  have H1 := Lib.hid h1
  have H2 := Lib.hid h2
  have HLO := Lib.hid hlo
  clear h1 h2 hlo
  obtain ⟨G, hG⟩ : ∃ G, G = g.length := ⟨_, rfl⟩
  obtain ⟨N, hN⟩ : ∃ N, N = L.length := ⟨_, rfl⟩
  rw [← hG] at hg
  rw [← hN] at hL
  have HG := Lib.hid hG
  have HN := Lib.hid hN
  rw [← hG, ← hN]
  clear hG hN
  have HB0 : Hid (Below w.heap.size w (w.alloc (.cells #[m0, .slice Ag G cg, .slice Af N cf, m3] 30))) := (Below.refl _ _).alloc (Nat.le_refl _) _
  have KM : Hid (Blk (w.alloc (.cells #[m0, .slice Ag G cg, .slice Af N cf, m3] 30)) w.heap.size 30 #[m0, .slice Ag G cg, .slice Af N cf, m3]) := Blk.new w 30 _
  go_enter Try.func44, Try.ntmps44
  go_wp2_with fail
  generalize w.alloc (.cells #[m0, .slice Ag G cg, .slice Af N cf, m3] 30) = W0 at *
  go_loopw [5] (fun s5 wr => ∃ k : Nat, k ≤ G ∧ s5 = .int .i64 (k : Int) ∧ W0 = wr ∧ Hid ((g.take k).any (fun x => x == n) = false)) (fun s5 _ => G - (intOf s5).toNat)
  case atStart => exact ⟨0, Nat.zero_le _, rfl, rfl, by simp [Hid]⟩
  case round =>
    obtain ⟨k, hk, rfl, rfl, hE⟩ := hrel
    obtain ⟨m01, m11, m21, m31⟩ := KM.out.c4
    by_cases hlt : k < G
    · have hkl : k < g.length := by have := HG.out; omega
      obtain ⟨b, o, rfl, _, dc⟩ := H1.out.2 (by omega)
      have c1 := cell_old HB0.out (World.block_lt_of_cell? w ⟨b, o + k, none⟩ (dc k _ (intV_get g k hkl))) (dc k _ (intV_get g k hkl))
      have hE2 := any_take_succ hkl hE.out
      clear dc
      by_cases hx : g[k] = n
      · have HR : Hid (usedF g L n = true) := by
          show _ = _
          unfold usedF
          rw [any_of_take (k := k + 1) (by rw [hE2]; simpa using hx)]; rfl
        rw [hx] at c1
        clear hE2 hx
        go_wp2
        go_ret
        exact ⟨congrArg (fun b => Ending.returned (Value.bool b)) HR.out.symm, HB0.out⟩
      · have hq : (g[k] == n) = false := by simpa using hx
        rw [hq] at hE2
        have HE2 := Lib.hid hE2
        generalize g[k] = gk' at *
        clear hE2 hx
        go_wp2
        go_roundw
        case rel => exact ⟨k + 1, by omega, by go_num, trivial, HE2⟩
        case measure => simp [intOf]; omega
    · obtain rfl : k = G := by omega
      have HEg : Hid (g.any (fun x => x == n) = false) := by
        have := hE.out
        rw [List.take_of_length_le (by have := HG.out; omega)] at this
        exact this
      go_wp2_with fail
      go_loopw [6] (fun s6 wr => ∃ i : Nat, i ≤ N ∧ s6 = .int .i64 (i : Int) ∧ Hid (Below W0.heap.size W0 wr) ∧ Hid ((L.take i).any (fun f => f.name == n || f.locals.any (fun x => x == n) || f.sites.any (fun x => x == n)) = false)) (fun s6 _ => N - (intOf s6).toNat)
      case atStart => exact ⟨0, Nat.zero_le _, rfl, Below.refl _ _, by simp [Hid]⟩
      case round =>
        obtain ⟨i, hi, rfl, hB, hF⟩ := hrel
        have KMr := KM.out.old hB.out
        obtain ⟨n01, n11, n21, n31⟩ := KMr.c4
        have HBw := Lib.hid (HB0.out.trans (hB.out.mono HB0.out.size))
        clear m01 m11 m21 m31
        by_cases hlt : i < N
        · have hiL : i < L.length := by have := HN.out; omega
          obtain ⟨b, o, rfl, _, dc⟩ := H2.out (by omega)
          obtain ⟨cs, ⟨Al, cl, As, csc, Ab, cb, hcs, rl, rs, _⟩, hcc⟩ := dc i hiL
          subst hcs
          have hbl := World.block_lt_of_cell? w ⟨b, o + i * 5 + 0, none⟩ (hcc 0 _ rfl)
          have e0 := cell_old HBw.out hbl (hcc 0 _ rfl)
          have e1 := cell_old HBw.out hbl (hcc 1 _ rfl)
          have e2 := cell_old HBw.out hbl (hcc 2 _ rfl)
          have e3 := cell_old HBw.out hbl (hcc 3 _ rfl)
          have e4 := cell_old HBw.out hbl (hcc 4 _ rfl)
          have hlo2 := HLO.out _ (List.getElem_mem hiL)
          have RNl := Lib.hid rl
          have RNs := Lib.hid rs
          simp only [Nat.add_zero] at e0
          obtain ⟨Nl, hNl⟩ : ∃ Nl, Nl = L[i].locals.length := ⟨_, rfl⟩
          obtain ⟨Ns, hNs⟩ : ∃ Ns, Ns = L[i].sites.length := ⟨_, rfl⟩
          have HNl := Lib.hid hNl
          have HNs := Lib.hid hNs
          rw [← hNl] at e2 hlo2
          rw [← hNs] at e3 hlo2
          generalize L[i].body.len = nb at *
          generalize L[i].params = pr at *
          clear dc hcc rl rs hNl hNs
          by_cases hnm : L[i].name = n
          · have HR : Hid (usedF g L n = true) := by
              show _ = _
              unfold usedF
              rw [anyF_of hiL (by simp [hnm])]; simp
            rw [hnm] at e0
            clear hnm
            go_wp2
            go_ret
            exact ⟨congrArg (fun b => Ending.returned (Value.bool b)) HR.out.symm, HBw.out.alloc HBw.out.size _⟩
          have hnq : (L[i].name == n) = false := by simpa using hnm
          have hnm := Lib.hid hnq
          have HB1 := Lib.hid (HBw.out.alloc HBw.out.size (.cells #[.int .i64 L[i].name, .int .i64 pr, .slice Al Nl cl, .slice As Ns csc, .slice Ab nb cb] 40))
          have KF1 := Lib.hid (Blk.new wr 40 #[.int .i64 L[i].name, .int .i64 pr, .slice Al Nl cl, .slice As Ns csc, .slice Ab nb cb])
          have HB10 := Lib.hid (hB.out.alloc hB.out.size (.cells #[.int .i64 L[i].name, .int .i64 pr, .slice Al Nl cl, .slice As Ns csc, .slice Ab nb cb] 40))
          have hpr : ∃ nm, nm = L[i].name := ⟨_, rfl⟩
          go_wp2_with fail
          clear e0 e1 e2 e3 e4 n01 n11 n21 n31 hnq
          obtain ⟨qf, hqf⟩ : ∃ qf, qf = wr.heap.size := ⟨_, rfl⟩
          rw [← hqf]
          rw [← hqf] at KF1
          clear hqf
          generalize wr.alloc (.cells #[.int .i64 L[i].name, .int .i64 pr, .slice Al Nl cl, .slice As Ns csc, .slice Ab nb cb] 40) = W1 at *
          obtain ⟨k0, k1, k2, k3, k4⟩ := KF1.out.c5
          go_loopw [8] (fun sq wi => ∃ k : Nat, k ≤ Nl ∧ sq = .int .i64 (k : Int) ∧ W1 = wi ∧ Hid (((L[i].locals).take k).any (fun x => x == n) = false)) (fun sq _ => Nl - (intOf sq).toNat)
          case atStart => exact ⟨0, Nat.zero_le _, rfl, rfl, by simp [Hid]⟩
          case round =>
            obtain ⟨k, hk, rfl, rfl, hE⟩ := hrel
            by_cases hlt2 : k < Nl
            · have hkl : k < L[i].locals.length := by have := HNl.out; omega
              obtain ⟨b2, o2, rfl, _, dc⟩ := RNl.out.2 (by have := HNl.out; omega)
              have c1 := cell_old HB1.out (World.block_lt_of_cell? w ⟨b2, o2 + k, none⟩ (dc k _ (intV_get _ k hkl))) (dc k _ (intV_get _ k hkl))
              have hE2 := any_take_succ hkl hE.out
              clear dc
              by_cases hx : L[i].locals[k] = n
              · have HR : Hid (usedF g L n = true) := by
                  show _ = _
                  unfold usedF
                  rw [anyF_of hiL (by rw [any_of_take (l := L[i].locals) (k := k + 1) (by rw [hE2]; simpa using hx)]; simp)]; simp
                rw [hx] at c1
                clear hE2 hx
                go_wp2
                go_ret
                exact ⟨congrArg (fun b => Ending.returned (Value.bool b)) HR.out.symm, HB1.out⟩
              · have hq : (L[i].locals[k] == n) = false := by simpa using hx
                rw [hq] at hE2
                have HE2 := Lib.hid hE2
                generalize L[i].locals[k] = gk' at *
                clear hE2 hx
                go_wp2
                go_roundw
                case rel => exact ⟨k + 1, by omega, by go_num, trivial, HE2⟩
                case measure => simp [intOf]; omega
            · obtain rfl : k = Nl := by omega
              have HENl : Hid (L[i].locals.any (fun x => x == n) = false) := by
                have := hE.out
                rw [List.take_of_length_le (by have := HNl.out; omega)] at this
                exact this
              go_wp2_with fail
              go_loopw [9] (fun sq wi => ∃ k : Nat, k ≤ Ns ∧ sq = .int .i64 (k : Int) ∧ W1 = wi ∧ Hid (((L[i].sites).take k).any (fun x => x == n) = false)) (fun sq _ => Ns - (intOf sq).toNat)
              case atStart => exact ⟨0, Nat.zero_le _, rfl, rfl, by simp [Hid]⟩
              case round =>
                obtain ⟨k, hk, rfl, rfl, hE⟩ := hrel
                by_cases hlt2 : k < Ns
                · have hkl : k < L[i].sites.length := by have := HNs.out; omega
                  obtain ⟨b2, o2, rfl, _, dc⟩ := RNs.out.2 (by have := HNs.out; omega)
                  have c1 := cell_old HB1.out (World.block_lt_of_cell? w ⟨b2, o2 + k, none⟩ (dc k _ (intV_get _ k hkl))) (dc k _ (intV_get _ k hkl))
                  have hE2 := any_take_succ hkl hE.out
                  clear dc
                  by_cases hx : L[i].sites[k] = n
                  · have HR : Hid (usedF g L n = true) := by
                      show _ = _
                      unfold usedF
                      rw [anyF_of hiL (by rw [any_of_take (l := L[i].sites) (k := k + 1) (by rw [hE2]; simpa using hx)]; simp)]; simp
                    rw [hx] at c1
                    clear hE2 hx
                    go_wp2
                    go_ret
                    exact ⟨congrArg (fun b => Ending.returned (Value.bool b)) HR.out.symm, HB1.out⟩
                  · have hq : (L[i].sites[k] == n) = false := by simpa using hx
                    rw [hq] at hE2
                    have HE2 := Lib.hid hE2
                    generalize L[i].sites[k] = gk' at *
                    clear hE2 hx
                    go_wp2
                    go_roundw
                    case rel => exact ⟨k + 1, by omega, by go_num, trivial, HE2⟩
                    case measure => simp [intOf]; omega
                · obtain rfl : k = Ns := by omega
                  have HENs : Hid (L[i].sites.any (fun x => x == n) = false) := by
                    have := hE.out
                    rw [List.take_of_length_le (by have := HNs.out; omega)] at this
                    exact this
                  have HEi : Hid ((L.take (i + 1)).any (fun f => f.name == n || f.locals.any (fun x => x == n) || f.sites.any (fun x => x == n)) = false) := by
                    show _ = _
                    rw [List.take_succ_eq_append_getElem hiL, List.any_append, hF.out]
                    simp [hnm.out, HENl.out, HENs.out]
                  go_wp2
                  go_roundw
                  case rel => exact ⟨i + 1, by omega, by go_num, HB10, HEi⟩
                  case measure => simp [intOf]; omega
        · obtain rfl : i = N := by omega
          have HR : Hid (usedF g L n = false) := by
            show _ = _
            have := hF.out
            rw [List.take_of_length_le (by have := HN.out; omega)] at this
            unfold usedF
            rw [HEg.out, this]; rfl
          go_wp2
          go_ret
          exact ⟨congrArg (fun b => Ending.returned (Value.bool b)) HR.out.symm, HBw.out⟩
end Go.Proofs.Ytpdebnecfknohaa
namespace Go.Proofs.Ytpdebnecfknohaa
open Go.RowKit
set_option linter.unusedVariables false
set_option maxRecDepth 20000
def gtF (a b : List UInt8) : Bool := !(Op.bytesLess a b || a == b)
/-- Two neighbours change places. -/
def swp (l : List (List UInt8)) (k : Nat) : List (List UInt8) := (l.set (k + 1) (l.getD k [])).set k (l.getD (k + 1) [])
/-- What stands at k goes down as long as what stands ahead is greater. -/
def bub : Nat → List (List UInt8) → List (List UInt8)
  | 0, l => l
  | k + 1, l => if gtF (l.getD k []) (l.getD (k + 1) []) = true then bub k (swp l k) else l
theorem swp_len (l : List (List UInt8)) (k : Nat) : (swp l k).length = l.length := by simp [swp]
theorem bub_len : ∀ (k : Nat) (l : List (List UInt8)), (bub k l).length = l.length
  | 0, l => rfl
  | k + 1, l => by
    simp only [bub]
    split
    · rw [bub_len k, swp_len]
    · rfl
/-- The strings that are used, of the first i. -/
def canL (g : List Int) (L : List Fn) (strs : List (List UInt8)) : Nat → List (List UInt8)
  | 0 => []
  | i + 1 => if usedF g L (i : Int) = true ∧ numF (canL g L strs i) (strs.getD i []) 0 < 0 then bub (canL g L strs i).length (canL g L strs i ++ [strs.getD i []]) else canL g L strs i
theorem canL_len (g : List Int) (L : List Fn) (strs : List (List UInt8)) (i : Nat) : (canL g L strs i).length ≤ i := by
  induction i with
  | zero => simp [canL]
  | succ i ih =>
    simp only [canL]
    split
    · rw [bub_len]; simp; omega
    · omega
theorem info9 : (Try.prog.info? 9).map (fun i => (i.zero, i.size, i.bytes)) = some (some (.string ⟨#[]⟩), 1, 16) := by kernel_rfl
/-- A string more. -/
theorem pushS (base : Nat) (v : Value) (l : List (List UInt8)) (x : List UInt8) (w : World) (h : w.ownsRow base 9 1 v l.length (strV l)) (hl : l.length ≤ 1000000) (hb : base ≤ w.heap.size) :
    ∃ q c w', (Builtin.append_ #[26, 26] 26 #[v, .slice (some ⟨w.heap.size, 0, none⟩) 1 1]).run Try.prog (w.alloc (.cells #[.string (bs x)] 9)) = .ok (.slice (some ⟨q, 0, none⟩) (l.length + 1) c) w' ∧ w'.ownsRow base 9 1 (.slice (some ⟨q, 0, none⟩) (l.length + 1) c) (l ++ [x]).length (strV (l ++ [x])) ∧ (w.alloc (.cells #[.string (bs x)] 9)).grownBy w' v.ownBlock ∧ (some q = v.ownBlock ∨ q = w.heap.size + 1) := by
  obtain ⟨i0, hi0, hz0, hz1, hz2⟩ := info_parts info9
  have hc : ∀ j u, ([.string (bs x)] : List Value)[j]? = some u → (w.alloc (.cells #[.string (bs x)] 9)).cell? ((⟨w.heap.size, 0, none⟩ : Addr).add j) = some u := by
    intro j u hj
    rw [Go.WideShapes.add_plain, cell_of_row _ w.heap.size _ _ 9 (0, 0) (heap_alloc_new w _), Nat.zero_add]
    simpa using hj
  obtain ⟨v5, w5, hr5, hO5, hg5, _, hat⟩ := run_append_own_at (P := Try.prog) (w.alloc (.cells #[.string (bs x)] 9)) base 26 26 9 i0 (.string ⟨#[]⟩) 1 16 Try.underlying26 hi0 hz0 hz1 hz2 rfl (by decide) v l.length _ (h.alloc _) ⟨w.heap.size, 0, none⟩ 1 1 [.string (bs x)] rfl hc (by intro u hu; simp at hu; subst hu; rfl) (by unfold maxLen; omega) (by omega) (by simp; omega)
  obtain ⟨q5, c5, rfl⟩ : ∃ q5 c5, v5 = .slice (some ⟨q5, 0, none⟩) (l.length + 1) c5 := by
    rcases hO5.2 with ⟨_, h1⟩ | ⟨k, cap, cur, hv, _⟩
    · omega
    · exact ⟨k, cap, hv⟩
  refine ⟨q5, c5, w5, hr5, ?_, hg5, ?_⟩
  · rw [show (l ++ [x]).length = l.length + 1 from by simp, show strV (l ++ [x]) = strV l ++ [.string (bs x)] from by simp [strV]]; exact hO5
  · rcases hat with h | h
    · exact .inl h
    · refine .inr ?_
      have : some q5 = some (w.heap.size + 1) := by rw [show (some q5 : Option Nat) = (Value.slice (some ⟨q5, 0, none⟩) (l.length + 1) c5).ownBlock from rfl, h]; simp
      injection this
/-- A row of the call's own: its cells, their marks, and one cell set. -/
theorem own_at {w : World} {base e n q c : Nat} {xs : List Value} (h : w.ownsRow base e 1 (.slice (some ⟨q, 0, none⟩) n c) n xs) (hn : 0 < n) : n ≤ c ∧ base ≤ q ∧ q < w.heap.size ∧ (∀ j u, xs[j]? = some u → w.cell? ⟨q, j, none⟩ = some u ∧ w.frozen? ⟨q, j, none⟩ = false) ∧ ∀ j u, j < n → (w.setCell ⟨q, j, none⟩ u).ownsRow base e 1 (.slice (some ⟨q, 0, none⟩) n c) n (xs.set j u) := by
  have hR := (RdS.own h).2 hn
  rcases h.2 with ⟨_, h0⟩ | ⟨q', cap, cur, hv, h2, hk, h3, h4, h5, h6⟩
  · omega
  · injection hv with hv1 _ hv3
    injection hv1 with hv1
    injection hv1 with hv1
    subst hv1
    subst hv3
    refine ⟨h3, h2, heap_ltM hk, fun j u hj => ⟨?_, by simp [World.frozen?, hk]⟩, fun j u hj => ⟨by rw [List.length_set]; exact h.1, .inr ⟨q, c, cur.setIfInBounds j u, rfl, h2, ?_, h3, h4, by simpa using h5, ?_⟩⟩⟩
    · obtain ⟨b, o, hA, _, hc⟩ := hR
      injection hA with hA
      injection hA with hA1 hA2
      subst hA1; subst hA2
      have := hc j u hj
      rwa [Nat.zero_add] at this
    · simp [World.setCell, Array.getElem?_modify, hk]
    · rw [Array.toList_setIfInBounds, List.take_set, h6]
end Go.Proofs.Ytpdebnecfknohaa
namespace Go.Proofs.Ytpdebnecfknohaa
open Go.RowKit
set_option linter.unusedVariables false
set_option maxRecDepth 20000
theorem Blk.uniq {w : World} {g t t' : Nat} {cs cs' : Array Value} (h : Blk w g t cs) (h' : w.heap[g]? = some (.cells cs' t' (0, 0))) : t = t' := by
  unfold Blk at h
  rw [h] at h'
  injection h' with h'
  injection h'
theorem info40 : (Try.prog.info? 40).map (fun i => (i.zero, i.size, i.bytes)) = some (some (.agg #[.int .i64 0, .int .i64 0, .slice none 0 0, .slice none 0 0, .slice none 0 0]), 5, 88) := by kernel_rfl
/-- A function more. -/
theorem pushF (base : Nat) (v : Value) (n : Nat) (xs : List Value) (a b : Int) (A1 A2 A3 : Option Addr) (n1 n2 n3 c1 c2 c3 : Nat) (w : World) (h : w.ownsRow base 40 5 v n xs) (hl : n ≤ 1000000) (hb : base ≤ w.heap.size) :
    ∃ q c w', (Builtin.append_ #[28, 28] 28 #[v, .slice (some ⟨w.heap.size, 0, none⟩) 1 1]).run Try.prog (w.alloc (.cells #[.int .i64 a, .int .i64 b, .slice A1 n1 c1, .slice A2 n2 c2, .slice A3 n3 c3] 40)) = .ok (.slice (some ⟨q, 0, none⟩) (n + 1) c) w' ∧ w'.ownsRow base 40 5 (.slice (some ⟨q, 0, none⟩) (n + 1) c) (n + 1) (xs ++ [.int .i64 a, .int .i64 b, .slice A1 n1 c1, .slice A2 n2 c2, .slice A3 n3 c3]) ∧ (w.alloc (.cells #[.int .i64 a, .int .i64 b, .slice A1 n1 c1, .slice A2 n2 c2, .slice A3 n3 c3] 40)).grownBy w' v.ownBlock ∧ (some q = v.ownBlock ∨ q = w.heap.size + 1) := by
  obtain ⟨i0, hi0, hz0, hz1, hz2⟩ := info_parts info40
  have hc : ∀ j u, ([.int .i64 a, .int .i64 b, .slice A1 n1 c1, .slice A2 n2 c2, .slice A3 n3 c3] : List Value)[j]? = some u → (w.alloc (.cells #[.int .i64 a, .int .i64 b, .slice A1 n1 c1, .slice A2 n2 c2, .slice A3 n3 c3] 40)).cell? ((⟨w.heap.size, 0, none⟩ : Addr).add j) = some u := by
    intro j u hj
    rw [Go.WideShapes.add_plain, cell_of_row _ w.heap.size _ _ 40 (0, 0) (heap_alloc_new w _), Nat.zero_add]
    simpa using hj
  obtain ⟨v5, w5, hr5, hO5, hg5, _, hat⟩ := run_append_own_at (P := Try.prog) (w.alloc (.cells #[.int .i64 a, .int .i64 b, .slice A1 n1 c1, .slice A2 n2 c2, .slice A3 n3 c3] 40)) base 28 28 40 i0 (.agg #[.int .i64 0, .int .i64 0, .slice none 0 0, .slice none 0 0, .slice none 0 0]) 5 88 Try.underlying28 hi0 hz0 hz1 hz2 rfl (by decide) v n _ (h.alloc _) ⟨w.heap.size, 0, none⟩ 1 1 [.int .i64 a, .int .i64 b, .slice A1 n1 c1, .slice A2 n2 c2, .slice A3 n3 c3] rfl hc (by intro u hu; simp at hu; rcases hu with rfl | rfl | rfl | rfl | rfl <;> rfl) (by unfold maxLen; omega) (by omega) (by simp; omega)
  obtain ⟨q5, c5, rfl⟩ : ∃ q5 c5, v5 = .slice (some ⟨q5, 0, none⟩) (n + 1) c5 := by
    rcases hO5.2 with ⟨_, h1⟩ | ⟨k, cap, cur, hv, _⟩
    · omega
    · exact ⟨k, cap, hv⟩
  refine ⟨q5, c5, w5, hr5, hO5, hg5, ?_⟩
  rcases hat with h | h
  · exact .inl h
  · refine .inr ?_
    have : some q5 = some (w.heap.size + 1) := by rw [show (some q5 : Option Nat) = (Value.slice (some ⟨q5, 0, none⟩) (n + 1) c5).ownBlock from rfl, h]; simp
    injection this
/-- Functions in a row of the call's own, whose other blocks are not that row's. -/
structure FnRow (w : World) (base : Nat) (X : Nat → Prop) (v : Value) (L : List Fn) : Prop where
  own : ∃ css : List (List Value), w.ownsRow base 40 5 v L.length css.flatten ∧ css.length = L.length ∧ ∀ i (h : i < L.length), ∃ cs, css[i]? = some cs ∧ FnS (fun k => some k ≠ v.ownBlock ∧ X k) w cs L[i]
theorem FnRow.nil (w : World) (base : Nat) (X : Nat → Prop) : FnRow w base X (.slice none 0 0) [] := ⟨[], ⟨rfl, .inl ⟨rfl, rfl⟩⟩, rfl, fun i h => by simp at h⟩
theorem FnRow.blk {w : World} {base : Nat} {X : Nat → Prop} {v : Value} {L : List Fn} (h : FnRow w base X v L) : ∀ k, some k = v.ownBlock → base ≤ k ∧ k < w.heap.size ∧ ∃ cur, Blk w k 40 cur := fun k hk => by
  obtain ⟨css, h1, _, _⟩ := h.own
  rcases h1.2 with ⟨rfl, _⟩ | ⟨q, cap, cur, rfl, hq, hh, _⟩
  · simp [Value.ownBlock] at hk
  · have : k = q := by simpa [Value.ownBlock] using hk
    subst this
    exact ⟨hq, heap_ltM hh, cur, hh⟩
/-- Blocks that this row and its functions lie in are as they were. -/
theorem FnRow.kept {w w' : World} {base : Nat} {X X' : Nat → Prop} {v : Value} {L : List Fn} (h : FnRow w base X v L) (hv : ∀ k, some k = v.ownBlock → w'.heap[k]? = w.heap[k]?) (hk : ∀ k, X k → k < w.heap.size → w'.heap[k]? = w.heap[k]?) (hX : ∀ k, X k → k < w.heap.size → X' k) : FnRow w' base X' v L := by
  obtain ⟨css, h1, h2, h3⟩ := h.own
  refine ⟨css, own_blocks h1 hv, h2, fun i hi => ?_⟩
  obtain ⟨cs, e, hf⟩ := h3 i hi
  exact ⟨cs, e, hf.kept (fun k hk' hlt => hk k hk'.2 hlt) (fun k hk' hlt => ⟨hk'.1, hX k hk'.2 hlt⟩)⟩
theorem FnRow.old {w w' : World} {base : Nat} {X : Nat → Prop} {v : Value} {L : List Fn} (h : FnRow w base X v L) (hb : Below w.heap.size w w') : FnRow w' base X v L :=
  h.kept (fun k hk => hb.block k (h.blk k hk).2.1) (fun k _ hlt => hb.block k hlt) (fun _ h _ => h)
/-- One function more, in a row; w4 the world ahead of it. -/
theorem FnRow.push {w4 : World} {base : Nat} {X : Nat → Prop} {v : Value} {L : List Fn} (h : FnRow w4 base X v L) (hl : L.length ≤ 1000000) (hb : base ≤ w4.heap.size) (f : Fn) (A1 A2 A3 : Option Addr) (c1 c2 c3 : Nat)
    (hf : FnS (fun k => some k ≠ v.ownBlock ∧ X k) w4 [.int .i64 f.name, .int .i64 f.params, .slice A1 f.locals.length c1, .slice A2 f.sites.length c2, .slice A3 f.body.len c3] f) :
    ∃ q c w', (Builtin.append_ #[28, 28] 28 #[v, .slice (some ⟨w4.heap.size, 0, none⟩) 1 1]).run Try.prog (w4.alloc (.cells #[.int .i64 f.name, .int .i64 f.params, .slice A1 f.locals.length c1, .slice A2 f.sites.length c2, .slice A3 f.body.len c3] 40)) = .ok (.slice (some ⟨q, 0, none⟩) (L.length + 1) c) w' ∧ (some q = v.ownBlock ∨ q = w4.heap.size + 1) ∧ (w4.alloc (.cells #[.int .i64 f.name, .int .i64 f.params, .slice A1 f.locals.length c1, .slice A2 f.sites.length c2, .slice A3 f.body.len c3] 40)).grownBy w' v.ownBlock ∧ FnRow w' base X (.slice (some ⟨q, 0, none⟩) (L.length + 1) c) (L ++ [f]) ∧ ((∀ k, some k = v.ownBlock → ∀ j, j < L.length * 5 → w'.cell? ⟨q, j, none⟩ = w4.cell? ⟨k, j, none⟩) ∧ w'.cell? ⟨q, L.length * 5 + 4, none⟩ = some (.slice A3 f.body.len c3)) := by
  obtain ⟨css, h1, h2, h3⟩ := h.own
  obtain ⟨q, c, w', hr, hO, hg, hat⟩ := pushF base v L.length css.flatten f.name f.params A1 A2 A3 f.locals.length f.sites.length f.body.len c1 c2 c3 w4 h1 hl hb
  refine ⟨q, c, w', hr, hat, hg, ⟨css ++ [[.int .i64 f.name, .int .i64 f.params, .slice A1 f.locals.length c1, .slice A2 f.sites.length c2, .slice A3 f.body.len c3]], ?_, by simp [h2], fun i hi => ?_⟩, fun k hk j hj => ?_, ?_⟩
  · rw [show (L ++ [f]).length = L.length + 1 from by simp, List.flatten_append]
    simpa using hO
  · have hkp : ∀ k, (some k ≠ v.ownBlock ∧ X k) → k < w4.heap.size → w'.heap[k]? = w4.heap[k]? := fun k hk hlt => by
      rw [hg.block k (by simp; omega) hk.1, heap_alloc_old _ _ hlt]
    have hS : ∀ k, (some k ≠ v.ownBlock ∧ X k) → k < w4.heap.size → (some k ≠ (Value.slice (some ⟨q, 0, none⟩) (L.length + 1) c).ownBlock ∧ X k) := fun k hkx hlt => by
      refine ⟨?_, hkx.2⟩
      have hk := hkx.1
      intro e
      have e : k = q := by simpa [Value.ownBlock] using e
      subst e
      rcases hat with h | h
      · exact hk h
      · omega
    by_cases hlt : i < L.length
    · obtain ⟨cs, e, hfi⟩ := h3 i hlt
      refine ⟨cs, by rw [List.getElem?_append_left (by omega)]; exact e, ?_⟩
      rw [List.getElem_append_left hlt]
      exact hfi.kept hkp hS
    · obtain rfl : i = L.length := by simp at hi; omega
      refine ⟨[.int .i64 f.name, .int .i64 f.params, .slice A1 f.locals.length c1, .slice A2 f.sites.length c2, .slice A3 f.body.len c3], by rw [List.getElem?_append_right (by omega), h2, Nat.sub_self]; rfl, ?_⟩
      rw [List.getElem_append_right (Nat.le_refl _)]
      simp only [Nat.sub_self, List.getElem_cons_zero]
      exact hf.kept hkp hS
  · rw [hO.cellAt j (by omega), List.getElem?_append_left (by rw [h1.1]; exact hj)]
    rcases h1.2 with ⟨e, _⟩ | ⟨g, cap, cur, e, _⟩
    · rw [e] at hk; simp [Value.ownBlock] at hk
    · rw [e] at h1 hk
      have e1 : k = g := by simpa [Value.ownBlock] using hk
      subst e1
      exact (h1.cellAt j hj).symm
  · rw [hO.cellAt _ (by omega), List.getElem?_append_right (by rw [h1.1]; omega), h1.1]
    simp
end Go.Proofs.Ytpdebnecfknohaa
namespace Go.Proofs.Ytpdebnecfknohaa
open Go.RowKit
set_option linter.unusedVariables false
set_option maxRecDepth 20000
structure Md where
  strs : List (List UInt8)
  globs : List Int
  funcs : List Fn
  ents : List Int
/-- All numbers of strings are some's, and nothing is long. -/
structure Md.Ok (M : Md) : Prop where
  strs : M.strs.length ≤ 1000
  globs : M.globs.length ≤ 1000 ∧ ∀ i ∈ M.globs, 0 ≤ i ∧ i < M.strs.length
  funcs : M.funcs.length ≤ 1000
  fns : ∀ f ∈ M.funcs, (0 ≤ f.name ∧ f.name < M.strs.length) ∧ (f.locals.length ≤ 1000 ∧ ∀ i ∈ f.locals, 0 ≤ i ∧ i < M.strs.length) ∧ (f.sites.length ≤ 1000 ∧ ∀ i ∈ f.sites, 0 ≤ i ∧ i < M.strs.length)
def canl (M : Md) : List (List UInt8) := canL M.globs M.funcs M.strs M.strs.length
def canFn (l strs : List (List UInt8)) (f : Fn) : Fn := ⟨numF l (strs.getD f.name.toNat []) 0, f.params, numsF l strs f.locals, numsF l strs f.sites, f.body⟩
def canM (M : Md) : Md := ⟨canl M, numsF (canl M) M.strs M.globs, M.funcs.map (canFn (canl M) M.strs), M.ents⟩
theorem FnRow.base {w : World} {base base' : Nat} {X : Nat → Prop} {v : Value} {L : List Fn} (h : FnRow w base X v L) (hb : base' ≤ base) : FnRow w base' X v L := by
  obtain ⟨css, h1, h2, h3⟩ := h.own
  refine ⟨css, ⟨h1.1, ?_⟩, h2, h3⟩
  rcases h1.2 with h | ⟨k, cap, cur, hv, hq, rest⟩
  · exact .inl h
  · exact .inr ⟨k, cap, cur, hv, Nat.le_trans hb hq, rest⟩
/-- What Canon leaves: rows of the call's own, and bodies that were there. -/
def CanPost (Sb : Nat → Prop) (w : World) (M : Md) (Ae : Option Addr) (ce : Nat) (e : Ending) (w' : World) : Prop :=
  ∃ Al cl A2 c2 Ax cx, e = .returned (.agg #[.slice Al (canM M).strs.length cl, .slice A2 (canM M).globs.length c2, .slice Ax (canM M).funcs.length cx, .slice Ae M.ents.length ce]) ∧
    w'.ownsRow w.heap.size 9 1 (.slice Al (canM M).strs.length cl) (canM M).strs.length (strV (canM M).strs) ∧
    w'.ownsRow w.heap.size 3 1 (.slice A2 (canM M).globs.length c2) (canM M).globs.length (intV (canM M).globs) ∧
    FnRow w' w.heap.size (fun k => some k ≠ (Value.slice Al (canM M).strs.length cl).ownBlock ∧ (Sb k ∨ w.heap.size ≤ k)) (.slice Ax (canM M).funcs.length cx) (canM M).funcs ∧ Below w.heap.size w w'
theorem canL_succ (g : List Int) (L : List Fn) (strs : List (List UInt8)) (i : Nat) (h : i < strs.length) : canL g L strs (i + 1) = if usedF g L (i : Int) = true ∧ numF (canL g L strs i) strs[i] 0 < 0 then bub (canL g L strs i).length (canL g L strs i ++ [strs[i]]) else canL g L strs i := by
  rw [canL, show strs.getD i [] = strs[i] from by simp [List.getD, h]]
theorem set4 {B q : Nat} {a w : World} (h : Below B a w) (hq : B ≤ q) (v0 v1 v2 v3 : Value) : Below B a ((((w.setCell ⟨q, 0, none⟩ v0).setCell ⟨q, 1, none⟩ v1).setCell ⟨q, 2, none⟩ v2).setCell ⟨q, 3, none⟩ v3) :=
  (((h.setCell (p := ⟨q, 0, none⟩) hq _).setCell (p := ⟨q, 1, none⟩) hq _).setCell (p := ⟨q, 2, none⟩) hq _).setCell (p := ⟨q, 3, none⟩) hq _
theorem set4_far {q k : Nat} {w : World} (v0 v1 v2 v3 : Value) (h : k ≠ q) : ((((w.setCell ⟨q, 0, none⟩ v0).setCell ⟨q, 1, none⟩ v1).setCell ⟨q, 2, none⟩ v2).setCell ⟨q, 3, none⟩ v3).heap[k]? = w.heap[k]? := by
  rw [Below.heap_setCell _ _ _ _ h, Below.heap_setCell _ _ _ _ h, Below.heap_setCell _ _ _ _ h, Below.heap_setCell _ _ _ _ h]
theorem own_mono {w : World} {base base' e size n : Nat} {v : Value} {xs : List Value} (h : w.ownsRow base e size v n xs) (hb : base' ≤ base) : w.ownsRow base' e size v n xs := by
  refine ⟨h.1, ?_⟩
  rcases h.2 with h1 | ⟨k, cap, cur, hv, h2, rest⟩
  · exact .inl h1
  · exact .inr ⟨k, cap, cur, hv, Nat.le_trans hb h2, rest⟩
theorem Below.set1 {B q j : Nat} {a w : World} (h : Below B a w) (hq : B ≤ q) (v : Value) : Below B a (w.setCell ⟨q, j, none⟩ v) := h.setCell (p := ⟨q, j, none⟩) hq v
end Go.Proofs.Ytpdebnecfknohaa
namespace Go.Proofs.Ytpdebnecfknohaa
open Go.RowKit
set_option linter.unusedVariables false
set_option maxRecDepth 20000
/-- What is left behind 'x.f = append(x.f, u)': x's box at q, its cell j. -/
structure StepOut (wr wf : World) (B q tq j e : Nat) (cs : Array Value) (old new : Value) (n : Nat) (xs : List Value) : Prop where
  box : Blk wf q tq (cs.setIfInBounds j new)
  own : wf.ownsRow B e 1 new n xs
  kept : ∀ k, k < wr.heap.size → k ≠ q → some k ≠ old.ownBlock → wf.heap[k]? = wr.heap[k]?
  fresh : ∀ k, some k = new.ownBlock → some k = old.ownBlock ∨ wr.heap.size ≤ k
  size : wr.heap.size ≤ wf.heap.size
  bel : ∀ (B' : Nat) (a : World), Below B' a wr → B' ≤ B → B' ≤ q → B' ≤ wr.heap.size → Below B' a wf
theorem StepOut.blk {wr wf : World} {B q tq j e : Nat} {cs : Array Value} {old new : Value} {n : Nat} {xs : List Value} (h : StepOut wr wf B q tq j e cs old new n xs) {m : Nat} {ys : List Value} (ho : wr.ownsRow B e 1 old m ys) {k t : Nat} {ds : Array Value} (hb : Blk wr k t ds) (hk : k ≠ q) (ht : t ≠ e) : Blk wf k t ds :=
  (h.kept k hb.lt hk (own_ne ho hb (fun x => ht x.symm))).trans hb
theorem StepOut.row {wr wf : World} {B q tq j e : Nat} {cs : Array Value} {old new : Value} {n : Nat} {xs : List Value} (h : StepOut wr wf B q tq j e cs old new n xs) {m : Nat} {ys : List Value} (ho : wr.ownsRow B e 1 old m ys) (hq : Blk wr q tq cs) {B2 e2 s2 n2 : Nat} {v2 : Value} {zs : List Value} (h2 : wr.ownsRow B2 e2 s2 v2 n2 zs) (he : e2 ≠ e) (htq : e2 ≠ tq) : wf.ownsRow B2 e2 s2 v2 n2 zs :=
  own_blocks h2 (fun k hk => by
    rcases h2.2 with ⟨rfl, _⟩ | ⟨g, cap, cur, rfl, _, hh, _⟩
    · simp [Value.ownBlock] at hk
    · have e0 : k = g := by simpa [Value.ownBlock] using hk
      subst e0
      exact h.kept k (heap_ltM hh) (fun e0 => by subst e0; exact htq (hq.uniq hh).symm) (own_ne ho (show Blk wr k e2 cur from hh) (fun x => he x.symm)))
theorem row_step (e t bytes : Nat) (z : Value) (ht : Try.prog.underlying t = some (.slice e)) (hinfo : (Try.prog.info? e).map (fun i => (i.zero, i.size, i.bytes)) = some (some z, 1, bytes)) (hz : z.cells.size = 1) (hby : bytes ≤ 16)
    {wr w3 : World} {B q tq j n cS : Nat} {As : Option Addr} {cs : Array Value} {xs : List Value} (u : Value) (hu : u.oneCell' = true) (hb : Below wr.heap.size wr w3) (hbox : Blk wr q tq cs) (htq : tq ≠ e) (hj : cs[j]? = some (.slice As n cS)) (hown : wr.ownsRow B e 1 (.slice As n cS) n xs) (hl : n ≤ 100000) (hB : B ≤ wr.heap.size) :
    ∃ q5 c5 w5, (Builtin.append_ #[t, t] t #[.slice As n cS, .slice (some ⟨w3.heap.size, 0, none⟩) 1 1]).run Try.prog (w3.alloc (.cells #[u] e)) = .ok (.slice (some ⟨q5, 0, none⟩) (n + 1) c5) w5 ∧ w3.cell? ⟨q, j, none⟩ = some (.slice As n cS) ∧ q < w3.heap.size ∧ w5.cell? ⟨q, j, none⟩ = some (.slice As n cS) ∧ w5.frozen? ⟨q, j, none⟩ = false ∧
      Hid (StepOut wr (w5.setCell ⟨q, j, none⟩ (.slice (some ⟨q5, 0, none⟩) (n + 1) c5)) B q tq j e cs (.slice As n cS) (.slice (some ⟨q5, 0, none⟩) (n + 1) c5) (n + 1) (xs ++ [u])) := by
  obtain ⟨i0, hi0, hz0, hz1, hz2⟩ := info_parts hinfo
  have hown3 := own_old hown hb
  have hc : ∀ k v, ([u] : List Value)[k]? = some v → (w3.alloc (.cells #[u] e)).cell? ((⟨w3.heap.size, 0, none⟩ : Addr).add k) = some v := by
    intro k v hk
    rw [Go.WideShapes.add_plain, cell_of_row _ w3.heap.size _ _ e (0, 0) (heap_alloc_new w3 _), Nat.zero_add]
    simpa using hk
  obtain ⟨v5, w5, hr5, hO5, hg5, _, hat⟩ := run_append_own_at (P := Try.prog) (w3.alloc (.cells #[u] e)) B t t e i0 z 1 bytes ht hi0 hz0 hz1 hz2 hz (by decide) (.slice As n cS) n xs (hown3.alloc _) ⟨w3.heap.size, 0, none⟩ 1 1 [u] rfl hc (by intro v hv; simp at hv; subst hv; exact hu) (by unfold maxLen; omega) (Nat.le_trans (Nat.mul_le_mul (show n + 1 ≤ 100001 by omega) hby) (by decide)) (by have := hb.size; simp; omega)
  obtain ⟨q5, c5, rfl⟩ : ∃ q5 c5, v5 = .slice (some ⟨q5, 0, none⟩) (n + 1) c5 := by
    rcases hO5.2 with ⟨_, h1⟩ | ⟨k, cap, cur, hv, _⟩
    · omega
    · exact ⟨k, cap, hv⟩
  have hbox3 := hbox.old hb
  have hbox5 : Blk w5 q tq cs := (hbox3.alloc _).grown hg5 (own_ne hown3 hbox3 (fun x => htq x.symm))
  have hsz := hb.size
  have hsz5 := hg5.size
  refine ⟨q5, c5, w5, hr5, (hbox3.cell j).trans hj, hbox3.lt, (hbox5.cell j).trans hj, hbox5.frozen j, hbox5.set_ j _, ?_, fun k hk hkq hko => ?_, fun k hk => ?_, ?_, fun B' a hBa hB1 hB2 hB3 => ?_⟩
  · refine own_blocks hO5 (fun k hk => Below.heap_setCell w5 ⟨q, j, none⟩ _ k (fun e0 => ?_))
    rcases hO5.2 with ⟨h0, _⟩ | ⟨g, cap, cur, hv, _, hh, _⟩
    · cases h0
    · have e1 : k = g := by rw [hv] at hk; simpa [Value.ownBlock] using hk
      have e2 : k = q := e0
      subst e1
      subst e2
      exact htq (hbox5.uniq hh)
  · rw [Below.heap_setCell w5 ⟨q, j, none⟩ _ k hkq, hg5.block k (by simp; omega) hko, heap_alloc_old _ _ (by omega), hb.block k hk]
  · rcases hat with h | h
    · exact .inl (by rw [← h]; exact hk)
    · refine .inr ?_
      rw [h] at hk
      injection hk with hk
      simp at hk
      omega
  · simp [World.setCell] at hsz5 ⊢; omega
  · exact Below.set1 (((hBa.trans (hb.mono hB3)).alloc (by omega) _).grown hg5 (by simp; omega) (fun k hk => by have := (hown3.lt k hk).1; omega)) hB2 _
end Go.Proofs.Ytpdebnecfknohaa
