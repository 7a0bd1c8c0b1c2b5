/-
  Parts: Xq Kfa Kh Kb.
-/
import Derived.Test.YtpdebnecfknohaaPr00
import Derived.Test.YtpdebnecfknohaaPr01
import Derived.Test.YtpdebnecfknohaaPr02
import Derived.Test.YtpdebnecfknohaaPr03
import Derived.Test.YtpdebnecfknohaaPr04
import Derived.Test.YtpdebnecfknohaaPr05
import Derived.Test.YtpdebnecfknohaaPr06
import Derived.Test.YtpdebnecfknohaaPr07
import Derived.Test.YtpdebnecfknohaaPr08
import Derived.Test.YtpdebnecfknohaaPr09
import Derived.Test.YtpdebnecfknohaaPr10
import Derived.Deep.RegionHeld
import Derived.Deep.RegionLaw
import Derived.Deep.DeepCutAuto
import Derived.Deep.CutBlock
namespace Go.Proofs.Ytpdebnecfknohaa
open Go.RowKit Go.Maps
set_option linter.unusedVariables false
set_option linter.unusedSimpArgs false
set_option maxRecDepth 20000
set_option maxHeartbeats 8000000 in
theorem of_fault (M : Md) (As Ag Af Ae : Option Addr) (cs cg cf ce : Nat) (w : World) (hW : M.Wf) (hT : (treeF M).1 ≠ 0) (h : MdR w As Ag Af Ae M) :
    Calls Try.prog 26 #[.agg #[.slice As M.strs.length cs, .slice Ag M.globs.length cg, .slice Af M.funcs.length cf, .slice Ae M.ents.length ce]] w fun e w' => e = .returned (.tuple #[.agg #[.slice none 0 0, .slice none 0 0, .slice none 0 0, .slice none 0 0], faultV (treeF M).1 (treeF M).2.1 (treeF M).2.2]) ∧ Below w.heap.size w w' := by
  have h19 := fun wx (hx : Below w.heap.size w wx) => tree_any M As Ag Af Ae cs cg cf ce wx hW (h.old hx)
  unfold FaB at h19
  obtain ⟨r, hr⟩ : ∃ r, r = (treeF M).1 := ⟨_, rfl⟩
  obtain ⟨a, ha⟩ : ∃ r, r = (treeF M).2.1 := ⟨_, rfl⟩
  obtain ⟨s, hs⟩ : ∃ r, r = (treeF M).2.2 := ⟨_, rfl⟩
  simp only [← hr, ← ha, ← hs] at h19 hT ⊢
  obtain ⟨fe, hfe⟩ : ∃ fe : Int, fe = 8 := ⟨_, rfl⟩
  have HFE : Hid (fe = 8 ∧ faultV r a s = .agg #[.int .i64 fe, .int .i64 0, .int .i64 0, .int .i64 0, .int .i64 r, .int .i64 a, .int .i64 s]) := ⟨hfe, by rw [hfe]; simp [faultV, hT]⟩
  have hfe0 : ¬ fe = 0 := by omega
  obtain ⟨ls, hls⟩ : ∃ n, n = M.strs.length := ⟨_, rfl⟩
  obtain ⟨lg, hlg⟩ : ∃ n, n = M.globs.length := ⟨_, rfl⟩
  obtain ⟨lf, hlfe⟩ : ∃ n, n = M.funcs.length := ⟨_, rfl⟩
  obtain ⟨le, hle⟩ : ∃ n, n = M.ents.length := ⟨_, rfl⟩
  simp only [← hls, ← hlg, ← hlfe, ← hle] at h19 ⊢
  clear hls hlg hlfe hle hr ha hs h hW hfe hT
  have H19 := Lib.hid h19
  clear h19
  obtain ⟨w1, hw1⟩ : ∃ w1, w1 = ((w.alloc (.cells #[.slice As ls cs, .slice Ag lg cg, .slice Af lf cf, .slice Ae le ce] 30)).alloc (.cells #[.slice none 0 0, .slice none 0 0, .slice none 0 0, .slice none 0 0] 30)).alloc (.cells #[.int .i64 0, .int .i64 0, .int .i64 0, .int .i64 0, .int .i64 0, .int .i64 0, .int .i64 0] 35) := ⟨_, rfl⟩
  have HB1 : Hid (Below w.heap.size w w1) := by rw [hw1]; exact (((Below.refl _ _).alloc (Nat.le_refl _) _).alloc (by simp) _).alloc (by simp; omega) _
  have KM : Hid (Blk w1 w.heap.size 30 #[.slice As ls cs, .slice Ag lg cg, .slice Af lf cf, .slice Ae le ce]) := by rw [hw1]; exact ((Blk.new w 30 _).alloc _).alloc _
  have KA : Hid (Blk w1 (w.heap.size + 1) 30 #[.slice none 0 0, .slice none 0 0, .slice none 0 0, .slice none 0 0]) := by rw [hw1]; exact (Blk.new' _ 30 _ _ (by simp)).alloc _
  have KF : Hid (Blk w1 (w.heap.size + 2) 35 #[.int .i64 0, .int .i64 0, .int .i64 0, .int .i64 0, .int .i64 0, .int .i64 0, .int .i64 0]) := by rw [hw1]; exact Blk.new' _ 35 _ _ (by simp)
  go_enter Try.func26, Try.ntmps26
  go_upto_region 1 with (fail)
  rw [← hw1]
  clear hw1
  obtain ⟨gm, hgm⟩ : ∃ g, g = w.heap.size := ⟨_, rfl⟩
  obtain ⟨ga, hga⟩ : ∃ g, g = gm + 1 := ⟨_, rfl⟩
  obtain ⟨gf, hgf⟩ : ∃ g, g = ga + 1 := ⟨_, rfl⟩
  have HGG : Hid (gm = w.heap.size ∧ ga = w.heap.size + 1 ∧ gf = w.heap.size + 2) := ⟨hgm, by omega, by omega⟩
  rw [← hgm] at KM
  rw [← hgm, ← hga] at KA
  rw [show w.heap.size + 2 = gf by omega] at KF
  simp only [← hgm, ← hga, ← hgf]
  clear hgm hga hgf
  obtain ⟨k0, k1, k2, k3⟩ := KM.out.c4
  have z1 : gm < w1.heap.size := KM.out.lt
  go_wp2_with fail
  refine (H19.out _ HB1.out).mono ?_
  rintro e w2 ⟨rfl, hb2⟩
  have HB2 := Lib.hid (HB1.out.trans (hb2.mono HB1.out.size))
  have KM2 := Lib.hid (KM.out.old hb2)
  have KA2 := Lib.hid (KA.out.old hb2)
  have KF2 := Lib.hid (KF.out.old hb2)
  clear hb2 HB1 KM KA KF k0 k1 k2 k3 z1
  dsimp only
  rw [HFE.out.2]
  obtain ⟨w3, hw3⟩ : ∃ w3, w3 = w2.alloc (.cells #[.int .i64 fe, .int .i64 0, .int .i64 0, .int .i64 0, .int .i64 r, .int .i64 a, .int .i64 s] 35) := ⟨_, rfl⟩
  have HB3 : Hid (Below w.heap.size w w3) := by rw [hw3]; exact HB2.out.alloc HB2.out.size _
  have KM3 : Hid (Blk w3 gm 30 #[.slice As ls cs, .slice Ag lg cg, .slice Af lf cf, .slice Ae le ce]) := by rw [hw3]; exact KM2.out.alloc _
  have KA3 : Hid (Blk w3 ga 30 #[.slice none 0 0, .slice none 0 0, .slice none 0 0, .slice none 0 0]) := by rw [hw3]; exact KA2.out.alloc _
  have KF3 : Hid (Blk w3 gf 35 #[.int .i64 0, .int .i64 0, .int .i64 0, .int .i64 0, .int .i64 0, .int .i64 0, .int .i64 0]) := by rw [hw3]; exact KF2.out.alloc _
  have KX3 : Hid (Blk w3 w2.heap.size 35 #[.int .i64 fe, .int .i64 0, .int .i64 0, .int .i64 0, .int .i64 r, .int .i64 a, .int .i64 s]) := by rw [hw3]; exact Blk.new w2 35 _
  go_upto_region 2 with (fail)
  rw [← hw3]
  clear hw3
  obtain ⟨gx, hgx⟩ : ∃ g, g = w2.heap.size := ⟨_, rfl⟩
  rw [← hgx] at KX3
  try simp only [← hgx]
  have HGX : Hid (gf < gx) := by rw [hgx]; exact KF2.out.lt
  clear hgx KM2 KA2 KF2 HB2
  obtain ⟨x0, x1, x2, x3, x4, x5, x6⟩ := KX3.out.c7
  have zx : gx < w3.heap.size := KX3.out.lt
  obtain ⟨k0, k1, k2, k3⟩ := KM3.out.c4
  have zm : gm < w3.heap.size := KM3.out.lt
  go_upto_region 3 with (fail)
  refine wp_region_held_drew (S := (fun W => Blk W gx 35 #[.int .i64 fe, .int .i64 0, .int .i64 0, .int .i64 0, .int .i64 r, .int .i64 a, .int .i64 s])) (by kernel_rfl) KX3.out (fun hHeld => ?_)
  try simp only [Act.put, List.setIfInBounds_toArray, List.set_cons_zero, List.set_cons_succ]
  refine wpAnyH_take (i := 0) (oi := ⟨_, _, _, _, _, _⟩) (v := ?_) rfl (by kernel_rfl) (by kernel_rfl) (by kernel_rfl) (fun _ _ _ h => h) (Or.inl ⟨by rfl, ?_⟩) (by assumption) ?_
  rotate_left
  · (intro W hSW; (try dsimp only at hSW); go_simp; first | done | with_reducible rfl)
  try simp only [Act.put, List.setIfInBounds_toArray, List.set_cons_zero, List.set_cons_succ]
  refine wpAnyH_take (i := 1) (oi := ⟨_, _, _, _, _, _⟩) (v := ?_) rfl (by kernel_rfl) (by kernel_rfl) (by kernel_rfl) (fun _ _ _ h => h) (Or.inl ⟨by rfl, ?_⟩) (by assumption) ?_
  rotate_left
  · (intro W hSW; (try dsimp only at hSW); (obtain ⟨x0, x1, x2, x3, x4, x5, x6⟩ := hSW.c7); (have zx := hSW.lt); go_simp; first | done | with_reducible rfl)
  try simp only [Act.put, List.setIfInBounds_toArray, List.set_cons_zero, List.set_cons_succ]
  have kA : Blk w3.drew ga 30 #[.slice none 0 0, .slice none 0 0, .slice none 0 0, .slice none 0 0] := KA3.out
  have kF : Blk w3.drew gf 35 #[.int .i64 0, .int .i64 0, .int .i64 0, .int .i64 0, .int .i64 0, .int .i64 0, .int .i64 0] := KF3.out
  have hBd : Below w.heap.size w w3.drew := HB3.out.drew
  have HN : Hid (gf ≠ ga ∧ gx ≠ ga ∧ gx ≠ gf ∧ w.heap.size ≤ ga ∧ w.heap.size ≤ gf) := by (have hgx := HGX.out; obtain ⟨g1, g2, g3⟩ := HGG.out; exact ⟨by omega, by omega, by omega, by omega, by omega⟩)
  generalize w3.drew = wd at *
  obtain ⟨a0, a1, a2, a3⟩ := kA.c4
  have f0 := kA.frozen 0
  have f1 := kA.frozen 1
  have f2 := kA.frozen 2
  have f3 := kA.frozen 3
  have za : ga < wd.heap.size := kA.lt
  refine wpAnyH_ready (rs := [2]) (by kernel_rfl) (by simp) ?_
  refine AllReadyH.cons (o := ⟨_, _, _, _, _, _⟩) rfl (fun KQ hKQ => ?_) AllReadyH.nil
  go_simp
  have kA4 : Blk ((((wd.setCell ⟨ga, 0, none⟩ (.slice none 0 0)).setCell ⟨ga, 1, none⟩ (.slice none 0 0)).setCell ⟨ga, 2, none⟩ (.slice none 0 0)).setCell ⟨ga, 3, none⟩ (.slice none 0 0)) ga 30 #[.slice none 0 0, .slice none 0 0, .slice none 0 0, .slice none 0 0] := ((((kA.set_ 0 (.slice none 0 0)).set_ 1 (.slice none 0 0)).set_ 2 (.slice none 0 0)).set_ 3 (.slice none 0 0))
  have hk4 : ∀ k, k ≠ ga → (((((wd.setCell ⟨ga, 0, none⟩ (.slice none 0 0)).setCell ⟨ga, 1, none⟩ (.slice none 0 0)).setCell ⟨ga, 2, none⟩ (.slice none 0 0)).setCell ⟨ga, 3, none⟩ (.slice none 0 0))).heap[k]? = wd.heap[k]? := fun k hk => set4_far _ _ _ _ hk
  have hB4 : Below w.heap.size w ((((wd.setCell ⟨ga, 0, none⟩ (.slice none 0 0)).setCell ⟨ga, 1, none⟩ (.slice none 0 0)).setCell ⟨ga, 2, none⟩ (.slice none 0 0)).setCell ⟨ga, 3, none⟩ (.slice none 0 0)) := set4 hBd HN.out.2.2.2.1 (.slice none 0 0) (.slice none 0 0) (.slice none 0 0) (.slice none 0 0)
  generalize ((((wd.setCell ⟨ga, 0, none⟩ (.slice none 0 0)).setCell ⟨ga, 1, none⟩ (.slice none 0 0)).setCell ⟨ga, 2, none⟩ (.slice none 0 0)).setCell ⟨ga, 3, none⟩ (.slice none 0 0)) = we at *
  have kF5 : Blk we gf 35 #[.int .i64 0, .int .i64 0, .int .i64 0, .int .i64 0, .int .i64 0, .int .i64 0, .int .i64 0] := (hk4 gf HN.out.1).trans kF
  have kX5 : Blk we gx 35 #[.int .i64 fe, .int .i64 0, .int .i64 0, .int .i64 0, .int .i64 r, .int .i64 a, .int .i64 s] := (hk4 gx HN.out.2.1).trans hHeld
  refine hKQ.out _ _ kX5 (fun _ => ?_)
  clear hKQ KQ a0 a1 a2 a3 f0 f1 f2 f3 za hk4
  try simp only [Act.put, List.setIfInBounds_toArray, List.set_cons_zero, List.set_cons_succ]
  obtain ⟨a0, a1, a2, a3, a4, a5, a6⟩ := kF5.c7
  have f0 := kF5.frozen 0
  have f1 := kF5.frozen 1
  have f2 := kF5.frozen 2
  have f3 := kF5.frozen 3
  have f4 := kF5.frozen 4
  have f5 := kF5.frozen 5
  have f6 := kF5.frozen 6
  have zf : gf < we.heap.size := kF5.lt
  refine wpAnyH_ready (rs := [3]) (by kernel_rfl) (by simp) ?_
  refine AllReadyH.cons (o := ⟨_, _, _, _, _, _⟩) rfl (fun KQ hKQ => ?_) AllReadyH.nil
  go_simp
  have kF6 : Blk (((((((we.setCell ⟨gf, 0, none⟩ (.int .i64 fe)).setCell ⟨gf, 1, none⟩ (.int .i64 0)).setCell ⟨gf, 2, none⟩ (.int .i64 0)).setCell ⟨gf, 3, none⟩ (.int .i64 0)).setCell ⟨gf, 4, none⟩ (.int .i64 r)).setCell ⟨gf, 5, none⟩ (.int .i64 a)).setCell ⟨gf, 6, none⟩ (.int .i64 s)) gf 35 #[.int .i64 fe, .int .i64 0, .int .i64 0, .int .i64 0, .int .i64 r, .int .i64 a, .int .i64 s] := (((((((kF5.set_ 0 (.int .i64 fe)).set_ 1 (.int .i64 0)).set_ 2 (.int .i64 0)).set_ 3 (.int .i64 0)).set_ 4 (.int .i64 r)).set_ 5 (.int .i64 a)).set_ 6 (.int .i64 s))
  have hk6 : ∀ k, k ≠ gf → ((((((((we.setCell ⟨gf, 0, none⟩ (.int .i64 fe)).setCell ⟨gf, 1, none⟩ (.int .i64 0)).setCell ⟨gf, 2, none⟩ (.int .i64 0)).setCell ⟨gf, 3, none⟩ (.int .i64 0)).setCell ⟨gf, 4, none⟩ (.int .i64 r)).setCell ⟨gf, 5, none⟩ (.int .i64 a)).setCell ⟨gf, 6, none⟩ (.int .i64 s))).heap[k]? = we.heap[k]? := fun k hk => set7_far _ _ _ _ _ _ _ hk
  have hB6 : Below w.heap.size w (((((((we.setCell ⟨gf, 0, none⟩ (.int .i64 fe)).setCell ⟨gf, 1, none⟩ (.int .i64 0)).setCell ⟨gf, 2, none⟩ (.int .i64 0)).setCell ⟨gf, 3, none⟩ (.int .i64 0)).setCell ⟨gf, 4, none⟩ (.int .i64 r)).setCell ⟨gf, 5, none⟩ (.int .i64 a)).setCell ⟨gf, 6, none⟩ (.int .i64 s)) := set7 hB4 HN.out.2.2.2.2 (.int .i64 fe) (.int .i64 0) (.int .i64 0) (.int .i64 0) (.int .i64 r) (.int .i64 a) (.int .i64 s)
  generalize (((((((we.setCell ⟨gf, 0, none⟩ (.int .i64 fe)).setCell ⟨gf, 1, none⟩ (.int .i64 0)).setCell ⟨gf, 2, none⟩ (.int .i64 0)).setCell ⟨gf, 3, none⟩ (.int .i64 0)).setCell ⟨gf, 4, none⟩ (.int .i64 r)).setCell ⟨gf, 5, none⟩ (.int .i64 a)).setCell ⟨gf, 6, none⟩ (.int .i64 s)) = wf at *
  have kA6 : Blk wf ga 30 #[.slice none 0 0, .slice none 0 0, .slice none 0 0, .slice none 0 0] := (hk6 ga (Ne.symm HN.out.1)).trans kA4
  have kX6 : Blk wf gx 35 #[.int .i64 fe, .int .i64 0, .int .i64 0, .int .i64 0, .int .i64 r, .int .i64 a, .int .i64 s] := (hk6 gx HN.out.2.2.1).trans kX5
  refine hKQ.out _ _ kX6 (fun _ => ?_)
  clear hKQ KQ a0 a1 a2 a3 a4 a5 a6 f0 f1 f2 f3 f4 f5 f6 zf hk6
  try simp only [Act.put, List.setIfInBounds_toArray, List.set_cons_zero, List.set_cons_succ]
  refine wpAnyH_done (by kernel_rfl) ?_ _
  have HEnd := Lib.hid (And.intro kA6 (And.intro kF6 hB6))
  clear kA6 kF6 hB6 kX6 kF5 kX5 hB4 kA4 kA kF hBd hHeld HN
  go_wp2
  obtain ⟨kA, kF, hB⟩ := HEnd.out
  obtain ⟨r0, r1, r2, r3⟩ := kA.c4
  obtain ⟨s0, s1, s2, s3, s4, s5, s6⟩ := kF.c7
  refine bodyPost_ret (v := .tuple #[.agg #[.slice none 0 0, .slice none 0 0, .slice none 0 0, .slice none 0 0], .agg #[.int .i64 fe, .int .i64 0, .int .i64 0, .int .i64 0, .int .i64 r, .int .i64 a, .int .i64 s]]) (by simp [results, Try.results26, go_sem, r0, r1, r2, r3, s0, s1, s2, s3, s4, s5, s6]) rfl ?_
  exact ⟨by rw [HFE.out.2], hB⟩
end Go.Proofs.Ytpdebnecfknohaa
namespace Go.Proofs.Ytpdebnecfknohaa
open Go.RowKit
set_option linter.unusedVariables false
set_option linter.unusedSimpArgs false
set_option maxRecDepth 20000
theorem var84_any (k i : Int) (w : World) : Calls Try.prog 84 #[.agg #[.int .u8 k, .int .i64 i]] w (BlB w (varB k)) := by
  obtain ⟨v, hv⟩ : ∃ v, v = varB k := ⟨_, rfl⟩
  rw [← hv]
  have HB : Hid (Below w.heap.size w (w.alloc (.cells #[.int .u8 k, .int .i64 i] 46))) := (Below.refl _ _).alloc (Nat.le_refl _) _
  by_cases h1 : k = 1
  · subst h1
    obtain rfl : v = true := by rw [hv]; rfl
    clear hv
    go_enter Try.func84, Try.ntmps84
    go_wp2
    go_ret
    exact ⟨by simp, HB.out⟩
  · by_cases h2 : k = 2
    · subst h2
      obtain rfl : v = true := by rw [hv]; rfl
      clear hv
      go_enter Try.func84, Try.ntmps84
      go_wp2
      go_ret
      exact ⟨by simp, HB.out⟩
    · have e1 : (k == 1) = false := by simpa using h1
      have e2 : (k == 2) = false := by simpa using h2
      obtain rfl : v = false := by rw [hv]; simp [varB, e1, e2]
      clear hv
      go_enter Try.func84, Try.ntmps84
      go_wp2
      go_ret
      exact ⟨by simp [e1, e2], HB.out⟩
set_option maxHeartbeats 4000000 in
theorem fits_early (Aa Asub : Option Addr) (ca lsub csub : Nat) (k a1 a2 b1 b2 : Int) (xs : List (Int × Int)) (w : World) (h : ArgsAt w (.slice Aa xs.length ca) xs) (hl : xs.length ≤ 1000000000) (hc : k < 1 ∨ 7 < k ∨ (k ≠ 7 ∧ 0 < lsub) ∨ (k ≠ 5 ∧ 0 < xs.length)) :
    Calls Try.prog 71 #[.agg #[.int .u8 k, .int .u8 a1, .int .i64 a2, .int .u8 b1, .int .i64 b2, .slice Aa xs.length ca, .slice Asub lsub csub]] w (BlB w (kindF k a1 a2 b1 b2 xs lsub)) := by
  obtain ⟨v, hv⟩ : ∃ v, v = kindF k a1 a2 b1 b2 xs lsub := ⟨_, rfl⟩
  rw [← hv]
  have hal := h
  obtain ⟨na, hn⟩ : ∃ n, n = xs.length := ⟨_, rfl⟩
  unfold kindF at hv
  rw [← hn] at hv hal ⊢
  have HV := Lib.hid (fun k i wx => var84_any k i wx)
  rw [← hn] at hc
  have hF : v = false := by
    rw [hv]
    by_cases hc2 : (k ≠ 5 ∧ 0 < na) ∨ (k ≠ 7 ∧ 0 < lsub)
    · rw [if_pos hc2]
    · rw [if_neg hc2, if_neg (by omega), if_neg (by omega), if_neg (by omega), if_neg (by omega), if_neg (by omega)]
  clear h hl hn hal hv
  subst hF
  obtain ⟨w1, hw1⟩ : ∃ w1, w1 = (w.alloc (.cells #[.int .u8 k, .int .u8 a1, .int .i64 a2, .int .u8 b1, .int .i64 b2, .slice Aa na ca, .slice Asub lsub csub] 50)).alloc (.cells #[.int .u8 0, .int .i64 0] 46) := ⟨_, rfl⟩
  have HB1 : Hid (Below w.heap.size w w1) := by rw [hw1]; exact ((Below.refl _ _).alloc (Nat.le_refl _) _).alloc (by simp) _
  have K1 : Hid (Blk w1 w.heap.size 50 #[.int .u8 k, .int .u8 a1, .int .i64 a2, .int .u8 b1, .int .i64 b2, .slice Aa na ca, .slice Asub lsub csub]) := by rw [hw1]; exact (Blk.new w 50 _).alloc _
  have K2 : Hid (Blk w1 (w.heap.size + 1) 46 #[.int .u8 0, .int .i64 0]) := by rw [hw1]; exact Blk.new' _ 46 _ _ (by simp)
  by_cases e1 : k < 1
  · clear hc
    go_enter Try.func71, Try.ntmps71
    go_upto_region 2 with (fail)
    rw [← hw1]
    clear hw1
    obtain ⟨s0, s1, s2, s3, s4, s5, s6⟩ := K1.out.c7
    obtain ⟨o0, o1⟩ := K2.out.c2
    have z1 : w.heap.size < w1.heap.size := K1.out.lt
    have z2 : w.heap.size + 1 < w1.heap.size := K2.out.lt
    have Hw1 := HB1
    have K1w1 := K1
    have K2w1 := K2
    go_wp2
    go_ret
    exact ⟨rfl, Hw1.out⟩
  by_cases e2 : 7 < k
  · clear hc
    go_enter Try.func71, Try.ntmps71
    go_upto_region 2 with (fail)
    rw [← hw1]
    clear hw1
    obtain ⟨s0, s1, s2, s3, s4, s5, s6⟩ := K1.out.c7
    obtain ⟨o0, o1⟩ := K2.out.c2
    have z1 : w.heap.size < w1.heap.size := K1.out.lt
    have z2 : w.heap.size + 1 < w1.heap.size := K2.out.lt
    have Hw1 := HB1
    have K1w1 := K1
    have K2w1 := K2
    go_wp2
    go_ret
    exact ⟨rfl, Hw1.out⟩
  by_cases e3 : k ≠ 7 ∧ 0 < lsub
  · obtain ⟨e31, e32⟩ := e3
    have g1 : (k != 7) = true := by simpa using e31
    have g2 : (k == 7) = false := by simpa using e31
    have g3 : (0 : Int) < (lsub : Int) := by omega
    clear hc
    go_enter Try.func71, Try.ntmps71
    go_upto_region 2 with (fail)
    rw [← hw1]
    clear hw1
    obtain ⟨s0, s1, s2, s3, s4, s5, s6⟩ := K1.out.c7
    obtain ⟨o0, o1⟩ := K2.out.c2
    have z1 : w.heap.size < w1.heap.size := K1.out.lt
    have z2 : w.heap.size + 1 < w1.heap.size := K2.out.lt
    have Hw1 := HB1
    have K1w1 := K1
    have K2w1 := K2
    go_wp2
    go_ret
    exact ⟨rfl, Hw1.out⟩
  have e4 : k ≠ 5 ∧ 0 < na := by omega
  obtain ⟨e41, e42⟩ := e4
  have g1 : (k != 5) = true := by simpa using e41
  have g2 : (k == 5) = false := by simpa using e41
  have g3 : (0 : Int) < (na : Int) := by omega
  by_cases e7 : k = 7
  · subst e7
    clear hc e1 e2 e3 e41 g1 g2
    go_enter Try.func71, Try.ntmps71
    go_upto_region 2 with (fail)
    rw [← hw1]
    clear hw1
    obtain ⟨s0, s1, s2, s3, s4, s5, s6⟩ := K1.out.c7
    obtain ⟨o0, o1⟩ := K2.out.c2
    have z1 : w.heap.size < w1.heap.size := K1.out.lt
    have z2 : w.heap.size + 1 < w1.heap.size := K2.out.lt
    have Hw1 := HB1
    have K1w1 := K1
    have K2w1 := K2
    go_wp2
    go_ret
    exact ⟨rfl, Hw1.out⟩
  · have e70 : lsub = 0 := by omega
    subst e70
    have g4 : (k != 7) = true := by simpa using e7
    have g5 : (k == 7) = false := by simpa using e7
    clear hc e3 e7
    go_enter Try.func71, Try.ntmps71
    go_upto_region 2 with (fail)
    rw [← hw1]
    clear hw1
    obtain ⟨s0, s1, s2, s3, s4, s5, s6⟩ := K1.out.c7
    obtain ⟨o0, o1⟩ := K2.out.c2
    have z1 : w.heap.size < w1.heap.size := K1.out.lt
    have z2 : w.heap.size + 1 < w1.heap.size := K2.out.lt
    have Hw1 := HB1
    have K1w1 := K1
    have K2w1 := K2
    go_wp2
    go_ret
    exact ⟨rfl, Hw1.out⟩
end Go.Proofs.Ytpdebnecfknohaa
namespace Go.Proofs.Ytpdebnecfknohaa
open Go.RowKit
set_option linter.unusedVariables false
set_option linter.unusedSimpArgs false
set_option maxRecDepth 20000
set_option maxHeartbeats 4000000 in
theorem fits_1 (Aa Asub : Option Addr) (ca lsub csub : Nat) (a1 a2 b1 b2 : Int) (xs : List (Int × Int)) (w : World) (h : ArgsAt w (.slice Aa xs.length ca) xs) (hl : xs.length ≤ 1000000000) (hx : xs.length = 0) (hs : lsub = 0):
    Calls Try.prog 71 #[.agg #[.int .u8 1, .int .u8 a1, .int .i64 a2, .int .u8 b1, .int .i64 b2, .slice Aa xs.length ca, .slice Asub lsub csub]] w (BlB w (kindF 1 a1 a2 b1 b2 xs lsub)) := by
  obtain ⟨v, hv⟩ : ∃ v, v = kindF 1 a1 a2 b1 b2 xs lsub := ⟨_, rfl⟩
  rw [← hv]
  have hal := h
  obtain ⟨na, hn⟩ : ∃ n, n = xs.length := ⟨_, rfl⟩
  unfold kindF at hv
  rw [← hn] at hv hal ⊢
  have HV := Lib.hid (fun k i wx => var84_any k i wx)
  rw [if_neg (by omega)] at hv
  obtain rfl : na = 0 := by omega
  subst hs
  rw [if_pos (by omega)] at hv
  clear h hl hn hal
  obtain ⟨w1, hw1⟩ : ∃ w1, w1 = (w.alloc (.cells #[.int .u8 1, .int .u8 a1, .int .i64 a2, .int .u8 b1, .int .i64 b2, .slice Aa 0 ca, .slice Asub 0 csub] 50)).alloc (.cells #[.int .u8 0, .int .i64 0] 46) := ⟨_, rfl⟩
  have HB1 : Hid (Below w.heap.size w w1) := by rw [hw1]; exact ((Below.refl _ _).alloc (Nat.le_refl _) _).alloc (by simp) _
  have K1 : Hid (Blk w1 w.heap.size 50 #[.int .u8 1, .int .u8 a1, .int .i64 a2, .int .u8 b1, .int .i64 b2, .slice Aa 0 ca, .slice Asub 0 csub]) := by rw [hw1]; exact (Blk.new w 50 _).alloc _
  have K2 : Hid (Blk w1 (w.heap.size + 1) 46 #[.int .u8 0, .int .i64 0]) := by rw [hw1]; exact Blk.new' _ 46 _ _ (by simp)
  go_enter Try.func71, Try.ntmps71
  go_upto_region 2 with (fail)
  rw [← hw1]
  clear hw1
  obtain ⟨s0, s1, s2, s3, s4, s5, s6⟩ := K1.out.c7
  obtain ⟨o0, o1⟩ := K2.out.c2
  have z1 : w.heap.size < w1.heap.size := K1.out.lt
  have z2 : w.heap.size + 1 < w1.heap.size := K2.out.lt
  have Hw1 := HB1
  have K1w1 := K1
  have K2w1 := K2
  go_wp2_with fail
  refine (HV.out a1 a2 _).mono ?_
  rintro e w2 ⟨rfl, hb2⟩
  have Hw2 := Lib.hid (Hw1.out.trans (hb2.mono Hw1.out.size))
  have K1w2 := Lib.hid (K1w1.out.old hb2)
  have K2w2 := Lib.hid (K2w1.out.old hb2)
  clear hb2 s0 s1 s2 s3 s4 s5 s6 o0 o1 z1 z2
  obtain ⟨s0, s1, s2, s3, s4, s5, s6⟩ := K1w2.out.c7
  obtain ⟨o0, o1⟩ := K2w2.out.c2
  have z1 : w.heap.size < w2.heap.size := K1w2.out.lt
  have z2 : w.heap.size + 1 < w2.heap.size := K2w2.out.lt
  obtain ⟨bv, hbv⟩ : ∃ b, b = varB a1 := ⟨_, rfl⟩
  rw [← hbv] at hv ⊢
  clear hbv
  cases bv with
  | false =>
    obtain rfl : v = false := by rw [hv]; simp
    clear hv
    go_wp2
    go_ret
    exact ⟨by simp, Hw2.out⟩
  | true =>
    by_cases q1 : 1 ≤ b1
    · by_cases q4 : b1 ≤ 4
      · have ho : objB b1 = true := by rcases (show b1 = 1 ∨ b1 = 2 ∨ b1 = 3 ∨ b1 = 4 by omega) with rfl | rfl | rfl | rfl <;> rfl
        rw [ho] at hv
        obtain rfl : v = true := by rw [hv]; simp
        clear hv
        go_wp2
        go_ret
        exact ⟨by simp, Hw2.out⟩
      · have ho : objB b1 = false := by simp [objB, varB]; omega
        rw [ho] at hv
        obtain rfl : v = false := by rw [hv]; simp
        clear hv
        go_wp2
        go_ret
        exact ⟨by simp; omega, Hw2.out⟩
    · have ho : objB b1 = false := by simp [objB, varB]; omega
      rw [ho] at hv
      obtain rfl : v = false := by rw [hv]; simp
      clear hv
      go_wp2
      go_ret
      exact ⟨by simp, Hw2.out⟩
set_option maxHeartbeats 4000000 in
theorem fits_2 (Aa Asub : Option Addr) (ca lsub csub : Nat) (a1 a2 b1 b2 : Int) (xs : List (Int × Int)) (w : World) (h : ArgsAt w (.slice Aa xs.length ca) xs) (hl : xs.length ≤ 1000000000) (hx : xs.length = 0) (hs : lsub = 0):
    Calls Try.prog 71 #[.agg #[.int .u8 2, .int .u8 a1, .int .i64 a2, .int .u8 b1, .int .i64 b2, .slice Aa xs.length ca, .slice Asub lsub csub]] w (BlB w (kindF 2 a1 a2 b1 b2 xs lsub)) := by
  obtain ⟨v, hv⟩ : ∃ v, v = kindF 2 a1 a2 b1 b2 xs lsub := ⟨_, rfl⟩
  rw [← hv]
  have hal := h
  obtain ⟨na, hn⟩ : ∃ n, n = xs.length := ⟨_, rfl⟩
  unfold kindF at hv
  rw [← hn] at hv hal ⊢
  have HV := Lib.hid (fun k i wx => var84_any k i wx)
  rw [if_neg (by omega)] at hv
  obtain rfl : na = 0 := by omega
  subst hs
  rw [if_neg (by omega)] at hv
  rw [if_pos (by omega)] at hv
  clear h hl hn hal
  obtain ⟨w1, hw1⟩ : ∃ w1, w1 = (w.alloc (.cells #[.int .u8 2, .int .u8 a1, .int .i64 a2, .int .u8 b1, .int .i64 b2, .slice Aa 0 ca, .slice Asub 0 csub] 50)).alloc (.cells #[.int .u8 0, .int .i64 0] 46) := ⟨_, rfl⟩
  have HB1 : Hid (Below w.heap.size w w1) := by rw [hw1]; exact ((Below.refl _ _).alloc (Nat.le_refl _) _).alloc (by simp) _
  have K1 : Hid (Blk w1 w.heap.size 50 #[.int .u8 2, .int .u8 a1, .int .i64 a2, .int .u8 b1, .int .i64 b2, .slice Aa 0 ca, .slice Asub 0 csub]) := by rw [hw1]; exact (Blk.new w 50 _).alloc _
  have K2 : Hid (Blk w1 (w.heap.size + 1) 46 #[.int .u8 0, .int .i64 0]) := by rw [hw1]; exact Blk.new' _ 46 _ _ (by simp)
  go_enter Try.func71, Try.ntmps71
  go_upto_region 2 with (fail)
  rw [← hw1]
  clear hw1
  obtain ⟨s0, s1, s2, s3, s4, s5, s6⟩ := K1.out.c7
  obtain ⟨o0, o1⟩ := K2.out.c2
  have z1 : w.heap.size < w1.heap.size := K1.out.lt
  have z2 : w.heap.size + 1 < w1.heap.size := K2.out.lt
  have Hw1 := HB1
  have K1w1 := K1
  have K2w1 := K2
  go_wp2_with fail
  refine (HV.out a1 a2 _).mono ?_
  rintro e w2 ⟨rfl, hb2⟩
  have Hw2 := Lib.hid (Hw1.out.trans (hb2.mono Hw1.out.size))
  have K1w2 := Lib.hid (K1w1.out.old hb2)
  have K2w2 := Lib.hid (K2w1.out.old hb2)
  clear hb2 s0 s1 s2 s3 s4 s5 s6 o0 o1 z1 z2
  obtain ⟨s0, s1, s2, s3, s4, s5, s6⟩ := K1w2.out.c7
  obtain ⟨o0, o1⟩ := K2w2.out.c2
  have z1 : w.heap.size < w2.heap.size := K1w2.out.lt
  have z2 : w.heap.size + 1 < w2.heap.size := K2w2.out.lt
  obtain ⟨bv, hbv⟩ : ∃ b, b = varB a1 := ⟨_, rfl⟩
  rw [← hbv] at hv ⊢
  clear hbv
  cases bv with
  | false =>
    obtain rfl : v = false := by rw [hv]; simp
    clear hv
    go_wp2
    go_ret
    exact ⟨by simp, Hw2.out⟩
  | true =>
    go_wp2_with fail
    refine (HV.out b1 b2 _).mono ?_
    rintro e w3 ⟨rfl, hb2⟩
    have Hw3 := Lib.hid (Hw2.out.trans (hb2.mono Hw2.out.size))
    have K1w3 := Lib.hid (K1w2.out.old hb2)
    have K2w3 := Lib.hid (K2w2.out.old hb2)
    clear hb2 s0 s1 s2 s3 s4 s5 s6 o0 o1 z1 z2
    obtain ⟨s0, s1, s2, s3, s4, s5, s6⟩ := K1w3.out.c7
    obtain ⟨o0, o1⟩ := K2w3.out.c2
    have z1 : w.heap.size < w3.heap.size := K1w3.out.lt
    have z2 : w.heap.size + 1 < w3.heap.size := K2w3.out.lt
    obtain ⟨bu, hbu⟩ : ∃ b, b = varB b1 := ⟨_, rfl⟩
    rw [← hbu] at hv ⊢
    clear hbu
    cases bu with
    | false =>
      obtain rfl : v = false := by rw [hv]; simp
      clear hv
      go_wp2
      go_ret
      exact ⟨by simp, Hw3.out⟩
    | true =>
      obtain rfl : v = true := by rw [hv]; simp
      clear hv
      go_wp2
      go_ret
      exact ⟨by simp, Hw3.out⟩
set_option maxHeartbeats 4000000 in
theorem fits_3 (Aa Asub : Option Addr) (ca lsub csub : Nat) (a1 a2 b1 b2 : Int) (xs : List (Int × Int)) (w : World) (h : ArgsAt w (.slice Aa xs.length ca) xs) (hl : xs.length ≤ 1000000000) (hx : xs.length = 0) (hs : lsub = 0):
    Calls Try.prog 71 #[.agg #[.int .u8 3, .int .u8 a1, .int .i64 a2, .int .u8 b1, .int .i64 b2, .slice Aa xs.length ca, .slice Asub lsub csub]] w (BlB w (kindF 3 a1 a2 b1 b2 xs lsub)) := by
  obtain ⟨v, hv⟩ : ∃ v, v = kindF 3 a1 a2 b1 b2 xs lsub := ⟨_, rfl⟩
  rw [← hv]
  have hal := h
  obtain ⟨na, hn⟩ : ∃ n, n = xs.length := ⟨_, rfl⟩
  unfold kindF at hv
  rw [← hn] at hv hal ⊢
  have HV := Lib.hid (fun k i wx => var84_any k i wx)
  rw [if_neg (by omega)] at hv
  obtain rfl : na = 0 := by omega
  subst hs
  rw [if_neg (by omega)] at hv
  rw [if_pos (by omega)] at hv
  clear h hl hn hal
  obtain ⟨w1, hw1⟩ : ∃ w1, w1 = (w.alloc (.cells #[.int .u8 3, .int .u8 a1, .int .i64 a2, .int .u8 b1, .int .i64 b2, .slice Aa 0 ca, .slice Asub 0 csub] 50)).alloc (.cells #[.int .u8 0, .int .i64 0] 46) := ⟨_, rfl⟩
  have HB1 : Hid (Below w.heap.size w w1) := by rw [hw1]; exact ((Below.refl _ _).alloc (Nat.le_refl _) _).alloc (by simp) _
  have K1 : Hid (Blk w1 w.heap.size 50 #[.int .u8 3, .int .u8 a1, .int .i64 a2, .int .u8 b1, .int .i64 b2, .slice Aa 0 ca, .slice Asub 0 csub]) := by rw [hw1]; exact (Blk.new w 50 _).alloc _
  have K2 : Hid (Blk w1 (w.heap.size + 1) 46 #[.int .u8 0, .int .i64 0]) := by rw [hw1]; exact Blk.new' _ 46 _ _ (by simp)
  go_enter Try.func71, Try.ntmps71
  go_upto_region 2 with (fail)
  rw [← hw1]
  clear hw1
  obtain ⟨s0, s1, s2, s3, s4, s5, s6⟩ := K1.out.c7
  obtain ⟨o0, o1⟩ := K2.out.c2
  have z1 : w.heap.size < w1.heap.size := K1.out.lt
  have z2 : w.heap.size + 1 < w1.heap.size := K2.out.lt
  have Hw1 := HB1
  have K1w1 := K1
  have K2w1 := K2
  go_wp2_with fail
  refine (HV.out a1 a2 _).mono ?_
  rintro e w2 ⟨rfl, hb2⟩
  have Hw2 := Lib.hid (Hw1.out.trans (hb2.mono Hw1.out.size))
  have K1w2 := Lib.hid (K1w1.out.old hb2)
  have K2w2 := Lib.hid (K2w1.out.old hb2)
  clear hb2 s0 s1 s2 s3 s4 s5 s6 o0 o1 z1 z2
  obtain ⟨s0, s1, s2, s3, s4, s5, s6⟩ := K1w2.out.c7
  obtain ⟨o0, o1⟩ := K2w2.out.c2
  have z1 : w.heap.size < w2.heap.size := K1w2.out.lt
  have z2 : w.heap.size + 1 < w2.heap.size := K2w2.out.lt
  obtain ⟨bv, hbv⟩ : ∃ b, b = varB a1 := ⟨_, rfl⟩
  rw [← hbv] at hv ⊢
  clear hbv
  cases bv with
  | false =>
    obtain rfl : v = false := by rw [hv]; simp
    clear hv
    go_wp2
    go_ret
    exact ⟨by simp, Hw2.out⟩
  | true =>
    go_wp2_with fail
    refine (HV.out b1 b2 _).mono ?_
    rintro e w3 ⟨rfl, hb2⟩
    have Hw3 := Lib.hid (Hw2.out.trans (hb2.mono Hw2.out.size))
    have K1w3 := Lib.hid (K1w2.out.old hb2)
    have K2w3 := Lib.hid (K2w2.out.old hb2)
    clear hb2 s0 s1 s2 s3 s4 s5 s6 o0 o1 z1 z2
    obtain ⟨s0, s1, s2, s3, s4, s5, s6⟩ := K1w3.out.c7
    obtain ⟨o0, o1⟩ := K2w3.out.c2
    have z1 : w.heap.size < w3.heap.size := K1w3.out.lt
    have z2 : w.heap.size + 1 < w3.heap.size := K2w3.out.lt
    obtain ⟨bu, hbu⟩ : ∃ b, b = varB b1 := ⟨_, rfl⟩
    rw [← hbu] at hv ⊢
    clear hbu
    cases bu with
    | false =>
      obtain rfl : v = false := by rw [hv]; simp
      clear hv
      go_wp2
      go_ret
      exact ⟨by simp, Hw3.out⟩
    | true =>
      obtain rfl : v = true := by rw [hv]; simp
      clear hv
      go_wp2
      go_ret
      exact ⟨by simp, Hw3.out⟩
set_option maxHeartbeats 4000000 in
theorem fits_4 (Aa Asub : Option Addr) (ca lsub csub : Nat) (a1 a2 b1 b2 : Int) (xs : List (Int × Int)) (w : World) (h : ArgsAt w (.slice Aa xs.length ca) xs) (hl : xs.length ≤ 1000000000) (hx : xs.length = 0) (hs : lsub = 0):
    Calls Try.prog 71 #[.agg #[.int .u8 4, .int .u8 a1, .int .i64 a2, .int .u8 b1, .int .i64 b2, .slice Aa xs.length ca, .slice Asub lsub csub]] w (BlB w (kindF 4 a1 a2 b1 b2 xs lsub)) := by
  obtain ⟨v, hv⟩ : ∃ v, v = kindF 4 a1 a2 b1 b2 xs lsub := ⟨_, rfl⟩
  rw [← hv]
  have hal := h
  obtain ⟨na, hn⟩ : ∃ n, n = xs.length := ⟨_, rfl⟩
  unfold kindF at hv
  rw [← hn] at hv hal ⊢
  have HV := Lib.hid (fun k i wx => var84_any k i wx)
  rw [if_neg (by omega)] at hv
  obtain rfl : na = 0 := by omega
  subst hs
  rw [if_neg (by omega)] at hv
  rw [if_pos (by omega)] at hv
  clear h hl hn hal
  obtain ⟨w1, hw1⟩ : ∃ w1, w1 = (w.alloc (.cells #[.int .u8 4, .int .u8 a1, .int .i64 a2, .int .u8 b1, .int .i64 b2, .slice Aa 0 ca, .slice Asub 0 csub] 50)).alloc (.cells #[.int .u8 0, .int .i64 0] 46) := ⟨_, rfl⟩
  have HB1 : Hid (Below w.heap.size w w1) := by rw [hw1]; exact ((Below.refl _ _).alloc (Nat.le_refl _) _).alloc (by simp) _
  have K1 : Hid (Blk w1 w.heap.size 50 #[.int .u8 4, .int .u8 a1, .int .i64 a2, .int .u8 b1, .int .i64 b2, .slice Aa 0 ca, .slice Asub 0 csub]) := by rw [hw1]; exact (Blk.new w 50 _).alloc _
  have K2 : Hid (Blk w1 (w.heap.size + 1) 46 #[.int .u8 0, .int .i64 0]) := by rw [hw1]; exact Blk.new' _ 46 _ _ (by simp)
  go_enter Try.func71, Try.ntmps71
  go_upto_region 2 with (fail)
  rw [← hw1]
  clear hw1
  obtain ⟨s0, s1, s2, s3, s4, s5, s6⟩ := K1.out.c7
  obtain ⟨o0, o1⟩ := K2.out.c2
  have z1 : w.heap.size < w1.heap.size := K1.out.lt
  have z2 : w.heap.size + 1 < w1.heap.size := K2.out.lt
  have Hw1 := HB1
  have K1w1 := K1
  have K2w1 := K2
  go_wp2_with fail
  refine (HV.out a1 a2 _).mono ?_
  rintro e w2 ⟨rfl, hb2⟩
  have Hw2 := Lib.hid (Hw1.out.trans (hb2.mono Hw1.out.size))
  have K1w2 := Lib.hid (K1w1.out.old hb2)
  have K2w2 := Lib.hid (K2w1.out.old hb2)
  clear hb2 s0 s1 s2 s3 s4 s5 s6 o0 o1 z1 z2
  obtain ⟨s0, s1, s2, s3, s4, s5, s6⟩ := K1w2.out.c7
  obtain ⟨o0, o1⟩ := K2w2.out.c2
  have z1 : w.heap.size < w2.heap.size := K1w2.out.lt
  have z2 : w.heap.size + 1 < w2.heap.size := K2w2.out.lt
  obtain ⟨bv, hbv⟩ : ∃ b, b = varB a1 := ⟨_, rfl⟩
  rw [← hbv] at hv ⊢
  clear hbv
  cases bv with
  | false =>
    obtain rfl : v = false := by rw [hv]; simp
    clear hv
    go_wp2
    go_ret
    exact ⟨by simp, Hw2.out⟩
  | true =>
    go_wp2_with fail
    refine (HV.out b1 b2 _).mono ?_
    rintro e w3 ⟨rfl, hb2⟩
    have Hw3 := Lib.hid (Hw2.out.trans (hb2.mono Hw2.out.size))
    have K1w3 := Lib.hid (K1w2.out.old hb2)
    have K2w3 := Lib.hid (K2w2.out.old hb2)
    clear hb2 s0 s1 s2 s3 s4 s5 s6 o0 o1 z1 z2
    obtain ⟨s0, s1, s2, s3, s4, s5, s6⟩ := K1w3.out.c7
    obtain ⟨o0, o1⟩ := K2w3.out.c2
    have z1 : w.heap.size < w3.heap.size := K1w3.out.lt
    have z2 : w.heap.size + 1 < w3.heap.size := K2w3.out.lt
    obtain ⟨bu, hbu⟩ : ∃ b, b = varB b1 := ⟨_, rfl⟩
    rw [← hbu] at hv ⊢
    clear hbu
    cases bu with
    | false =>
      obtain rfl : v = false := by rw [hv]; simp
      clear hv
      go_wp2
      go_ret
      exact ⟨by simp, Hw3.out⟩
    | true =>
      obtain rfl : v = true := by rw [hv]; simp
      clear hv
      go_wp2
      go_ret
      exact ⟨by simp, Hw3.out⟩
end Go.Proofs.Ytpdebnecfknohaa
namespace Go.Proofs.Ytpdebnecfknohaa
open Go.RowKit
set_option linter.unusedVariables false
set_option linter.unusedSimpArgs false
set_option maxRecDepth 20000
set_option maxHeartbeats 4000000 in
theorem fits_5a (Aa Asub : Option Addr) (ca lsub csub : Nat) (a1 a2 b1 b2 : Int) (xs : List (Int × Int)) (w : World) (h : ArgsAt w (.slice Aa xs.length ca) xs) (hl : xs.length ≤ 1000000000) (hs : lsub = 0) (zz : a1 = 0 ∧ a2 = 0):
    Calls Try.prog 71 #[.agg #[.int .u8 5, .int .u8 a1, .int .i64 a2, .int .u8 b1, .int .i64 b2, .slice Aa xs.length ca, .slice Asub lsub csub]] w (BlB w (kindF 5 a1 a2 b1 b2 xs lsub)) := by
  obtain ⟨v, hv⟩ : ∃ v, v = kindF 5 a1 a2 b1 b2 xs lsub := ⟨_, rfl⟩
  rw [← hv]
  have hal := h
  obtain ⟨na, hn⟩ : ∃ n, n = xs.length := ⟨_, rfl⟩
  unfold kindF at hv
  rw [← hn] at hv hal ⊢
  have HV := Lib.hid (fun k i wx => var84_any k i wx)
  rw [if_neg (by omega)] at hv
  rw [if_neg (by omega)] at hv
  rw [if_neg (by omega)] at hv
  rw [if_pos rfl] at hv
  subst hs
  obtain ⟨A', c', hA1, hA2⟩ := hal
  injection hA1 with hA11 hA12 hA13
  subst hA11 hA13
  have HAr := Lib.hid hA2
  have HN := Lib.hid hn
  rw [← hn] at hl
  have hv1 : v = (allVar (xs.drop 0) && ((zeroB a1 a2 || varB a1) && (b1 == 3 || varB b1))) := by rw [hv, Bool.and_comm]; rfl
  have HV0 := Lib.hid hv1
  clear hv hv1 hA2 hA12
  obtain ⟨rfl, rfl⟩ := zz
  clear h hn
  obtain ⟨w1, hw1⟩ : ∃ w1, w1 = (w.alloc (.cells #[.int .u8 5, .int .u8 0, .int .i64 0, .int .u8 b1, .int .i64 b2, .slice Aa na ca, .slice Asub 0 csub] 50)).alloc (.cells #[.int .u8 0, .int .i64 0] 46) := ⟨_, rfl⟩
  have HB1 : Hid (Below w.heap.size w w1) := by rw [hw1]; exact ((Below.refl _ _).alloc (Nat.le_refl _) _).alloc (by simp) _
  have K1 : Hid (Blk w1 w.heap.size 50 #[.int .u8 5, .int .u8 0, .int .i64 0, .int .u8 b1, .int .i64 b2, .slice Aa na ca, .slice Asub 0 csub]) := by rw [hw1]; exact (Blk.new w 50 _).alloc _
  have K2 : Hid (Blk w1 (w.heap.size + 1) 46 #[.int .u8 0, .int .i64 0]) := by rw [hw1]; exact Blk.new' _ 46 _ _ (by simp)
  go_enter Try.func71, Try.ntmps71
  go_upto_region 2 with (fail)
  rw [← hw1]
  clear hw1
  obtain ⟨s0, s1, s2, s3, s4, s5, s6⟩ := K1.out.c7
  obtain ⟨o0, o1⟩ := K2.out.c2
  have z1 : w.heap.size < w1.heap.size := K1.out.lt
  have z2 : w.heap.size + 1 < w1.heap.size := K2.out.lt
  have Hw1 := HB1
  have K1w1 := K1
  have K2w1 := K2
  go_wp2_with fail
  go_loopw [4] (fun s wr => ∃ (i : Nat), i ≤ na ∧ s = .int .i64 (i : Int) ∧ Hid (v = (allVar (xs.drop i) && ((zeroB 0 0 || varB 0) && (b1 == 3 || varB b1)))) ∧ Hid (Below w.heap.size w wr) ∧ Hid (Blk wr w.heap.size 50 #[.int .u8 5, .int .u8 0, .int .i64 0, .int .u8 b1, .int .i64 b2, .slice Aa na ca, .slice Asub 0 csub]) ∧ Hid (Blk wr (w.heap.size + 1) 46 #[.int .u8 0, .int .i64 0])) (fun s _ => na - (intOf s).toNat)
  case atStart => exact ⟨0, Nat.zero_le _, rfl, HV0, HB1, K1, K2⟩
  case round =>
    clear HV0 K1w1 K2w1 Hw1 K1 K2 HB1 s0 s1 s2 s3 s4 s5 s6 o0 o1 z1 z2
    obtain ⟨i, hi, rfl, hE, hB, hK1, hK2⟩ := hrel
    obtain ⟨s0, s1, s2, s3, s4, s5, s6⟩ := hK1.out.c7
    have z1 : w.heap.size < wr.heap.size := hK1.out.lt
    by_cases hlt : i < na
    · have hkl : i < xs.length := by rw [← HN.out]; exact hlt
      have hli : (i : Int) < (na : Int) := by omega
      obtain ⟨b, o, rfl, hc⟩ := HAr.out (by omega)
      obtain ⟨d0, d1⟩ := hc i hkl
      have hbl : b < w.heap.size := World.block_lt_of_cell? w ⟨b, o + i * 2, none⟩ d0
      have e0 := cell_old hB.out hbl d0
      have e1 := cell_old hB.out hbl d1
      rw [show xs.getD i (0, 0) = xs[i] from by simp [List.getD, hkl]] at e0 e1
      have hE2 := hE.out
      rw [List.drop_eq_getElem_cons hkl] at hE2
      simp only [allVar, List.all_cons] at hE2
      generalize xs[i] = x at *
      obtain ⟨xk, xi⟩ := x
      dsimp only at e0 e1 hE2
      have hz : b < wr.heap.size := by have := hB.out.size; omega
      have HE2 := Lib.hid hE2
      clear hE2 hc d0 d1 hbl hE
      go_wp2_with fail
      refine (HV.out xk xi _).mono ?_
      rintro e w2 ⟨rfl, hb2⟩
      have HB3 := Lib.hid (hB.out.trans (hb2.mono hB.out.size))
      have K13 := Lib.hid (hK1.out.old hb2)
      have K23 := Lib.hid (hK2.out.old hb2)
      clear hb2 e0 e1 hz s0 s1 s2 s3 s4 s5 s6 z1
      obtain ⟨bv, hbv⟩ : ∃ b, b = varB xk := ⟨_, rfl⟩
      have hE3 := HE2.out
      rw [← hbv] at hE3 ⊢
      have HE3 := Lib.hid hE3
      clear HE2 hE3 hbv
      cases bv with
      | false =>
        obtain rfl : v = false := by rw [HE3.out]; rfl
        go_wp2
        go_ret
        exact ⟨rfl, HB3.out⟩
      | true =>
        have HE4 : Hid (v = (allVar (xs.drop (i + 1)) && ((zeroB 0 0 || varB 0) && (b1 == 3 || varB b1)))) := by show _ = _; rw [HE3.out]; simp [allVar]
        go_wp2
        go_roundw
        case rel => exact ⟨i + 1, by omega, by go_num, HE4, HB3, K13, K23⟩
        case measure => simp [intOf]; omega
    · obtain rfl : i = na := by omega
      have hv := hE.out
      rw [List.drop_of_length_le (by rw [← HN.out]; omega)] at hv
      have hn1 : allVar [] = true := rfl
      rw [hn1] at hv
      clear hn1 hE hlt
      have Hw1 := hB
      have K1w1 := hK1
      have K2w1 := hK2
      obtain ⟨w1, hw1⟩ : ∃ w1, w1 = wr := ⟨_, rfl⟩
      subst hw1
      obtain ⟨o0, o1⟩ := K2w1.out.c2
      have z2 : w.heap.size + 1 < w1.heap.size := K2w1.out.lt
      have hz : zeroB 0 0 = true := rfl
      rw [hz] at hv
      clear hz
      go_wp2_with fail
      refine (HV.out b1 b2 _).mono ?_
      rintro e w4 ⟨rfl, hb2⟩
      have Hw4 := Lib.hid (Hw1.out.trans (hb2.mono Hw1.out.size))
      have K1w4 := Lib.hid (K1w1.out.old hb2)
      have K2w4 := Lib.hid (K2w1.out.old hb2)
      clear hb2 s0 s1 s2 s3 s4 s5 s6 o0 o1 z1 z2
      obtain ⟨s0, s1, s2, s3, s4, s5, s6⟩ := K1w4.out.c7
      obtain ⟨o0, o1⟩ := K2w4.out.c2
      have z1 : w.heap.size < w4.heap.size := K1w4.out.lt
      have z2 : w.heap.size + 1 < w4.heap.size := K2w4.out.lt
      obtain ⟨bu, hbu⟩ : ∃ b, b = varB b1 := ⟨_, rfl⟩
      rw [← hbu] at hv ⊢
      clear hbu
      cases bu with
      | true =>
        obtain rfl : v = true := by rw [hv]; simp
        clear hv
        go_wp2
        go_ret
        exact ⟨by simp, Hw4.out⟩
      | false =>
        by_cases q3 : b1 = 3
        · subst q3
          obtain rfl : v = true := by rw [hv]; simp
          clear hv
          go_wp2
          go_ret
          exact ⟨by simp, Hw4.out⟩
        · have g3 : (b1 == 3) = false := by simpa using q3
          rw [g3] at hv
          obtain rfl : v = false := by rw [hv]; simp
          clear hv
          go_wp2
          go_ret
          exact ⟨by simp, Hw4.out⟩
end Go.Proofs.Ytpdebnecfknohaa
namespace Go.Proofs.Ytpdebnecfknohaa
open Go.RowKit
set_option linter.unusedVariables false
set_option linter.unusedSimpArgs false
set_option maxRecDepth 20000
set_option maxHeartbeats 4000000 in
theorem fits_5b (Aa Asub : Option Addr) (ca lsub csub : Nat) (a1 a2 b1 b2 : Int) (xs : List (Int × Int)) (w : World) (h : ArgsAt w (.slice Aa xs.length ca) xs) (hl : xs.length ≤ 1000000000) (hs : lsub = 0) (zz : ¬ (a1 = 0 ∧ a2 = 0)):
    Calls Try.prog 71 #[.agg #[.int .u8 5, .int .u8 a1, .int .i64 a2, .int .u8 b1, .int .i64 b2, .slice Aa xs.length ca, .slice Asub lsub csub]] w (BlB w (kindF 5 a1 a2 b1 b2 xs lsub)) := by
  obtain ⟨v, hv⟩ : ∃ v, v = kindF 5 a1 a2 b1 b2 xs lsub := ⟨_, rfl⟩
  rw [← hv]
  have hal := h
  obtain ⟨na, hn⟩ : ∃ n, n = xs.length := ⟨_, rfl⟩
  unfold kindF at hv
  rw [← hn] at hv hal ⊢
  have HV := Lib.hid (fun k i wx => var84_any k i wx)
  rw [if_neg (by omega)] at hv
  rw [if_neg (by omega)] at hv
  rw [if_neg (by omega)] at hv
  rw [if_pos rfl] at hv
  subst hs
  obtain ⟨A', c', hA1, hA2⟩ := hal
  injection hA1 with hA11 hA12 hA13
  subst hA11 hA13
  have HAr := Lib.hid hA2
  have HN := Lib.hid hn
  rw [← hn] at hl
  have hv1 : v = (allVar (xs.drop 0) && ((zeroB a1 a2 || varB a1) && (b1 == 3 || varB b1))) := by rw [hv, Bool.and_comm]; rfl
  have HV0 := Lib.hid hv1
  clear hv hv1 hA2 hA12
  clear h hn
  obtain ⟨w1, hw1⟩ : ∃ w1, w1 = (w.alloc (.cells #[.int .u8 5, .int .u8 a1, .int .i64 a2, .int .u8 b1, .int .i64 b2, .slice Aa na ca, .slice Asub 0 csub] 50)).alloc (.cells #[.int .u8 0, .int .i64 0] 46) := ⟨_, rfl⟩
  have HB1 : Hid (Below w.heap.size w w1) := by rw [hw1]; exact ((Below.refl _ _).alloc (Nat.le_refl _) _).alloc (by simp) _
  have K1 : Hid (Blk w1 w.heap.size 50 #[.int .u8 5, .int .u8 a1, .int .i64 a2, .int .u8 b1, .int .i64 b2, .slice Aa na ca, .slice Asub 0 csub]) := by rw [hw1]; exact (Blk.new w 50 _).alloc _
  have K2 : Hid (Blk w1 (w.heap.size + 1) 46 #[.int .u8 0, .int .i64 0]) := by rw [hw1]; exact Blk.new' _ 46 _ _ (by simp)
  go_enter Try.func71, Try.ntmps71
  go_upto_region 2 with (fail)
  rw [← hw1]
  clear hw1
  obtain ⟨s0, s1, s2, s3, s4, s5, s6⟩ := K1.out.c7
  obtain ⟨o0, o1⟩ := K2.out.c2
  have z1 : w.heap.size < w1.heap.size := K1.out.lt
  have z2 : w.heap.size + 1 < w1.heap.size := K2.out.lt
  have Hw1 := HB1
  have K1w1 := K1
  have K2w1 := K2
  go_wp2_with fail
  go_loopw [4] (fun s wr => ∃ (i : Nat), i ≤ na ∧ s = .int .i64 (i : Int) ∧ Hid (v = (allVar (xs.drop i) && ((zeroB a1 a2 || varB a1) && (b1 == 3 || varB b1)))) ∧ Hid (Below w.heap.size w wr) ∧ Hid (Blk wr w.heap.size 50 #[.int .u8 5, .int .u8 a1, .int .i64 a2, .int .u8 b1, .int .i64 b2, .slice Aa na ca, .slice Asub 0 csub]) ∧ Hid (Blk wr (w.heap.size + 1) 46 #[.int .u8 0, .int .i64 0])) (fun s _ => na - (intOf s).toNat)
  case atStart => exact ⟨0, Nat.zero_le _, rfl, HV0, HB1, K1, K2⟩
  case round =>
    clear HV0 K1w1 K2w1 Hw1 K1 K2 HB1 s0 s1 s2 s3 s4 s5 s6 o0 o1 z1 z2
    obtain ⟨i, hi, rfl, hE, hB, hK1, hK2⟩ := hrel
    obtain ⟨s0, s1, s2, s3, s4, s5, s6⟩ := hK1.out.c7
    have z1 : w.heap.size < wr.heap.size := hK1.out.lt
    by_cases hlt : i < na
    · have hkl : i < xs.length := by rw [← HN.out]; exact hlt
      have hli : (i : Int) < (na : Int) := by omega
      obtain ⟨b, o, rfl, hc⟩ := HAr.out (by omega)
      obtain ⟨d0, d1⟩ := hc i hkl
      have hbl : b < w.heap.size := World.block_lt_of_cell? w ⟨b, o + i * 2, none⟩ d0
      have e0 := cell_old hB.out hbl d0
      have e1 := cell_old hB.out hbl d1
      rw [show xs.getD i (0, 0) = xs[i] from by simp [List.getD, hkl]] at e0 e1
      have hE2 := hE.out
      rw [List.drop_eq_getElem_cons hkl] at hE2
      simp only [allVar, List.all_cons] at hE2
      generalize xs[i] = x at *
      obtain ⟨xk, xi⟩ := x
      dsimp only at e0 e1 hE2
      have hz : b < wr.heap.size := by have := hB.out.size; omega
      have HE2 := Lib.hid hE2
      clear hE2 hc d0 d1 hbl hE
      go_wp2_with fail
      refine (HV.out xk xi _).mono ?_
      rintro e w2 ⟨rfl, hb2⟩
      have HB3 := Lib.hid (hB.out.trans (hb2.mono hB.out.size))
      have K13 := Lib.hid (hK1.out.old hb2)
      have K23 := Lib.hid (hK2.out.old hb2)
      clear hb2 e0 e1 hz s0 s1 s2 s3 s4 s5 s6 z1
      obtain ⟨bv, hbv⟩ : ∃ b, b = varB xk := ⟨_, rfl⟩
      have hE3 := HE2.out
      rw [← hbv] at hE3 ⊢
      have HE3 := Lib.hid hE3
      clear HE2 hE3 hbv
      cases bv with
      | false =>
        obtain rfl : v = false := by rw [HE3.out]; rfl
        go_wp2
        go_ret
        exact ⟨rfl, HB3.out⟩
      | true =>
        have HE4 : Hid (v = (allVar (xs.drop (i + 1)) && ((zeroB a1 a2 || varB a1) && (b1 == 3 || varB b1)))) := by show _ = _; rw [HE3.out]; simp [allVar]
        go_wp2
        go_roundw
        case rel => exact ⟨i + 1, by omega, by go_num, HE4, HB3, K13, K23⟩
        case measure => simp [intOf]; omega
    · obtain rfl : i = na := by omega
      have hv := hE.out
      rw [List.drop_of_length_le (by rw [← HN.out]; omega)] at hv
      have hn1 : allVar [] = true := rfl
      rw [hn1] at hv
      clear hn1 hE hlt
      have Hw1 := hB
      have K1w1 := hK1
      have K2w1 := hK2
      obtain ⟨w1, hw1⟩ : ∃ w1, w1 = wr := ⟨_, rfl⟩
      subst hw1
      obtain ⟨o0, o1⟩ := K2w1.out.c2
      have z2 : w.heap.size + 1 < w1.heap.size := K2w1.out.lt
      have hz : zeroB a1 a2 = false := by simp only [zeroB, Bool.and_eq_false_iff, beq_eq_false_iff_ne]; omega
      rw [hz] at hv
      clear hz
      by_cases za : a1 = 0
      · have zb : (a2 == 0) = false := by simp only [beq_eq_false_iff_ne]; omega
        subst za
        clear zz
        go_wp2_with fail
        refine (HV.out 0 a2 _).mono ?_
        rintro e w2 ⟨rfl, hb2⟩
        have Hw2 := Lib.hid (Hw1.out.trans (hb2.mono Hw1.out.size))
        have K1w2 := Lib.hid (K1w1.out.old hb2)
        have K2w2 := Lib.hid (K2w1.out.old hb2)
        clear hb2 s0 s1 s2 s3 s4 s5 s6 o0 o1 z1 z2
        obtain ⟨s0, s1, s2, s3, s4, s5, s6⟩ := K1w2.out.c7
        obtain ⟨o0, o1⟩ := K2w2.out.c2
        have z1 : w.heap.size < w2.heap.size := K1w2.out.lt
        have z2 : w.heap.size + 1 < w2.heap.size := K2w2.out.lt
        obtain ⟨bv, hbv⟩ : ∃ b, b = varB 0 := ⟨_, rfl⟩
        rw [← hbv] at hv ⊢
        clear hbv
        cases bv with
        | false =>
          obtain rfl : v = false := by rw [hv]; simp
          clear hv
          go_wp2
          go_ret
          exact ⟨by simp, Hw2.out⟩
        | true =>
          go_wp2_with fail
          refine (HV.out b1 b2 _).mono ?_
          rintro e w4 ⟨rfl, hb2⟩
          have Hw4 := Lib.hid (Hw2.out.trans (hb2.mono Hw2.out.size))
          have K1w4 := Lib.hid (K1w2.out.old hb2)
          have K2w4 := Lib.hid (K2w2.out.old hb2)
          clear hb2 s0 s1 s2 s3 s4 s5 s6 o0 o1 z1 z2
          obtain ⟨s0, s1, s2, s3, s4, s5, s6⟩ := K1w4.out.c7
          obtain ⟨o0, o1⟩ := K2w4.out.c2
          have z1 : w.heap.size < w4.heap.size := K1w4.out.lt
          have z2 : w.heap.size + 1 < w4.heap.size := K2w4.out.lt
          obtain ⟨bu, hbu⟩ : ∃ b, b = varB b1 := ⟨_, rfl⟩
          rw [← hbu] at hv ⊢
          clear hbu
          cases bu with
          | true =>
            obtain rfl : v = true := by rw [hv]; simp
            clear hv
            go_wp2
            go_ret
            exact ⟨by simp, Hw4.out⟩
          | false =>
            by_cases q3 : b1 = 3
            · subst q3
              obtain rfl : v = true := by rw [hv]; simp
              clear hv
              go_wp2
              go_ret
              exact ⟨by simp, Hw4.out⟩
            · have g3 : (b1 == 3) = false := by simpa using q3
              rw [g3] at hv
              obtain rfl : v = false := by rw [hv]; simp
              clear hv
              go_wp2
              go_ret
              exact ⟨by simp, Hw4.out⟩
      · have zb : (a1 == 0) = false := by simp only [beq_eq_false_iff_ne]; omega
        clear zz za
        go_wp2_with fail
        refine (HV.out a1 a2 _).mono ?_
        rintro e w2 ⟨rfl, hb2⟩
        have Hw2 := Lib.hid (Hw1.out.trans (hb2.mono Hw1.out.size))
        have K1w2 := Lib.hid (K1w1.out.old hb2)
        have K2w2 := Lib.hid (K2w1.out.old hb2)
        clear hb2 s0 s1 s2 s3 s4 s5 s6 o0 o1 z1 z2
        obtain ⟨s0, s1, s2, s3, s4, s5, s6⟩ := K1w2.out.c7
        obtain ⟨o0, o1⟩ := K2w2.out.c2
        have z1 : w.heap.size < w2.heap.size := K1w2.out.lt
        have z2 : w.heap.size + 1 < w2.heap.size := K2w2.out.lt
        obtain ⟨bv, hbv⟩ : ∃ b, b = varB a1 := ⟨_, rfl⟩
        rw [← hbv] at hv ⊢
        clear hbv
        cases bv with
        | false =>
          obtain rfl : v = false := by rw [hv]; simp
          clear hv
          go_wp2
          go_ret
          exact ⟨by simp, Hw2.out⟩
        | true =>
          go_wp2_with fail
          refine (HV.out b1 b2 _).mono ?_
          rintro e w4 ⟨rfl, hb2⟩
          have Hw4 := Lib.hid (Hw2.out.trans (hb2.mono Hw2.out.size))
          have K1w4 := Lib.hid (K1w2.out.old hb2)
          have K2w4 := Lib.hid (K2w2.out.old hb2)
          clear hb2 s0 s1 s2 s3 s4 s5 s6 o0 o1 z1 z2
          obtain ⟨s0, s1, s2, s3, s4, s5, s6⟩ := K1w4.out.c7
          obtain ⟨o0, o1⟩ := K2w4.out.c2
          have z1 : w.heap.size < w4.heap.size := K1w4.out.lt
          have z2 : w.heap.size + 1 < w4.heap.size := K2w4.out.lt
          obtain ⟨bu, hbu⟩ : ∃ b, b = varB b1 := ⟨_, rfl⟩
          rw [← hbu] at hv ⊢
          clear hbu
          cases bu with
          | true =>
            obtain rfl : v = true := by rw [hv]; simp
            clear hv
            go_wp2
            go_ret
            exact ⟨by simp, Hw4.out⟩
          | false =>
            by_cases q3 : b1 = 3
            · subst q3
              obtain rfl : v = true := by rw [hv]; simp
              clear hv
              go_wp2
              go_ret
              exact ⟨by simp, Hw4.out⟩
            · have g3 : (b1 == 3) = false := by simpa using q3
              rw [g3] at hv
              obtain rfl : v = false := by rw [hv]; simp
              clear hv
              go_wp2
              go_ret
              exact ⟨by simp, Hw4.out⟩
end Go.Proofs.Ytpdebnecfknohaa
namespace Go.Proofs.Ytpdebnecfknohaa
open Go.RowKit
set_option linter.unusedVariables false
set_option linter.unusedSimpArgs false
set_option maxRecDepth 20000
set_option maxHeartbeats 4000000 in
theorem fits_6 (Aa Asub : Option Addr) (ca lsub csub : Nat) (a1 a2 b1 b2 : Int) (xs : List (Int × Int)) (w : World) (h : ArgsAt w (.slice Aa xs.length ca) xs) (hl : xs.length ≤ 1000000000) (hx : xs.length = 0) (hs : lsub = 0):
    Calls Try.prog 71 #[.agg #[.int .u8 6, .int .u8 a1, .int .i64 a2, .int .u8 b1, .int .i64 b2, .slice Aa xs.length ca, .slice Asub lsub csub]] w (BlB w (kindF 6 a1 a2 b1 b2 xs lsub)) := by
  obtain ⟨v, hv⟩ : ∃ v, v = kindF 6 a1 a2 b1 b2 xs lsub := ⟨_, rfl⟩
  rw [← hv]
  have hal := h
  obtain ⟨na, hn⟩ : ∃ n, n = xs.length := ⟨_, rfl⟩
  unfold kindF at hv
  rw [← hn] at hv hal ⊢
  have HV := Lib.hid (fun k i wx => var84_any k i wx)
  rw [if_neg (by omega)] at hv
  obtain rfl : na = 0 := by omega
  subst hs
  rw [if_neg (by omega)] at hv
  rw [if_neg (by omega)] at hv
  rw [if_neg (by omega)] at hv
  rw [if_pos (by omega)] at hv
  clear h hl hn hal
  obtain ⟨w1, hw1⟩ : ∃ w1, w1 = (w.alloc (.cells #[.int .u8 6, .int .u8 a1, .int .i64 a2, .int .u8 b1, .int .i64 b2, .slice Aa 0 ca, .slice Asub 0 csub] 50)).alloc (.cells #[.int .u8 0, .int .i64 0] 46) := ⟨_, rfl⟩
  have HB1 : Hid (Below w.heap.size w w1) := by rw [hw1]; exact ((Below.refl _ _).alloc (Nat.le_refl _) _).alloc (by simp) _
  have K1 : Hid (Blk w1 w.heap.size 50 #[.int .u8 6, .int .u8 a1, .int .i64 a2, .int .u8 b1, .int .i64 b2, .slice Aa 0 ca, .slice Asub 0 csub]) := by rw [hw1]; exact (Blk.new w 50 _).alloc _
  have K2 : Hid (Blk w1 (w.heap.size + 1) 46 #[.int .u8 0, .int .i64 0]) := by rw [hw1]; exact Blk.new' _ 46 _ _ (by simp)
  go_enter Try.func71, Try.ntmps71
  go_upto_region 2 with (fail)
  rw [← hw1]
  clear hw1
  obtain ⟨s0, s1, s2, s3, s4, s5, s6⟩ := K1.out.c7
  obtain ⟨o0, o1⟩ := K2.out.c2
  have z1 : w.heap.size < w1.heap.size := K1.out.lt
  have z2 : w.heap.size + 1 < w1.heap.size := K2.out.lt
  have Hw1 := HB1
  have K1w1 := K1
  have K2w1 := K2
  by_cases zz : a1 = 0 ∧ a2 = 0
  · obtain ⟨rfl, rfl⟩ := zz
    have hz : zeroB 0 0 = true := rfl
    rw [hz] at hv
    clear hz
    go_wp2_with fail
    refine (HV.out b1 b2 _).mono ?_
    rintro e w2 ⟨rfl, hb2⟩
    have Hw2 := Lib.hid (Hw1.out.trans (hb2.mono Hw1.out.size))
    have K1w2 := Lib.hid (K1w1.out.old hb2)
    have K2w2 := Lib.hid (K2w1.out.old hb2)
    clear hb2 s0 s1 s2 s3 s4 s5 s6 o0 o1 z1 z2
    obtain ⟨s0, s1, s2, s3, s4, s5, s6⟩ := K1w2.out.c7
    obtain ⟨o0, o1⟩ := K2w2.out.c2
    have z1 : w.heap.size < w2.heap.size := K1w2.out.lt
    have z2 : w.heap.size + 1 < w2.heap.size := K2w2.out.lt
    obtain ⟨bv, hbv⟩ : ∃ b, b = varB b1 := ⟨_, rfl⟩
    rw [← hbv] at hv ⊢
    clear hbv
    cases bv with
    | false =>
      obtain rfl : v = false := by rw [hv]; simp
      clear hv
      go_wp2
      go_ret
      exact ⟨by simp, Hw2.out⟩
    | true =>
      obtain rfl : v = true := by rw [hv]; simp
      clear hv
      go_wp2
      go_ret
      exact ⟨by simp, Hw2.out⟩
  · have hz : zeroB a1 a2 = false := by simp only [zeroB, Bool.and_eq_false_iff, beq_eq_false_iff_ne]; omega
    rw [hz] at hv
    clear hz
    by_cases za : a1 = 0
    · have zb : (a2 == 0) = false := by simp only [beq_eq_false_iff_ne]; omega
      subst za
      clear zz
      obtain rfl : v = false := by rw [hv]; simp
      clear hv
      go_wp2
      go_ret
      exact ⟨by simp, Hw1.out⟩
    · have zb : (a1 == 0) = false := by simp only [beq_eq_false_iff_ne]; omega
      clear zz za
      obtain rfl : v = false := by rw [hv]; simp
      clear hv
      go_wp2
      go_ret
      exact ⟨by simp, Hw1.out⟩
set_option maxHeartbeats 4000000 in
theorem fits_7 (Aa Asub : Option Addr) (ca lsub csub : Nat) (a1 a2 b1 b2 : Int) (xs : List (Int × Int)) (w : World) (h : ArgsAt w (.slice Aa xs.length ca) xs) (hl : xs.length ≤ 1000000000) (hx : xs.length = 0):
    Calls Try.prog 71 #[.agg #[.int .u8 7, .int .u8 a1, .int .i64 a2, .int .u8 b1, .int .i64 b2, .slice Aa xs.length ca, .slice Asub lsub csub]] w (BlB w (kindF 7 a1 a2 b1 b2 xs lsub)) := by
  obtain ⟨v, hv⟩ : ∃ v, v = kindF 7 a1 a2 b1 b2 xs lsub := ⟨_, rfl⟩
  rw [← hv]
  have hal := h
  obtain ⟨na, hn⟩ : ∃ n, n = xs.length := ⟨_, rfl⟩
  unfold kindF at hv
  rw [← hn] at hv hal ⊢
  have HV := Lib.hid (fun k i wx => var84_any k i wx)
  rw [if_neg (by omega)] at hv
  obtain rfl : na = 0 := by omega
  rw [if_neg (by omega)] at hv
  rw [if_neg (by omega)] at hv
  rw [if_neg (by omega)] at hv
  rw [if_neg (by omega)] at hv
  rw [if_pos rfl] at hv
  clear h hl hn hal
  obtain ⟨w1, hw1⟩ : ∃ w1, w1 = (w.alloc (.cells #[.int .u8 7, .int .u8 a1, .int .i64 a2, .int .u8 b1, .int .i64 b2, .slice Aa 0 ca, .slice Asub lsub csub] 50)).alloc (.cells #[.int .u8 0, .int .i64 0] 46) := ⟨_, rfl⟩
  have HB1 : Hid (Below w.heap.size w w1) := by rw [hw1]; exact ((Below.refl _ _).alloc (Nat.le_refl _) _).alloc (by simp) _
  have K1 : Hid (Blk w1 w.heap.size 50 #[.int .u8 7, .int .u8 a1, .int .i64 a2, .int .u8 b1, .int .i64 b2, .slice Aa 0 ca, .slice Asub lsub csub]) := by rw [hw1]; exact (Blk.new w 50 _).alloc _
  have K2 : Hid (Blk w1 (w.heap.size + 1) 46 #[.int .u8 0, .int .i64 0]) := by rw [hw1]; exact Blk.new' _ 46 _ _ (by simp)
  go_enter Try.func71, Try.ntmps71
  go_upto_region 2 with (fail)
  rw [← hw1]
  clear hw1
  obtain ⟨s0, s1, s2, s3, s4, s5, s6⟩ := K1.out.c7
  obtain ⟨o0, o1⟩ := K2.out.c2
  have z1 : w.heap.size < w1.heap.size := K1.out.lt
  have z2 : w.heap.size + 1 < w1.heap.size := K2.out.lt
  have Hw1 := HB1
  have K1w1 := K1
  have K2w1 := K2
  by_cases zz : a1 = 0 ∧ a2 = 0
  · obtain ⟨rfl, rfl⟩ := zz
    have hz : zeroB 0 0 = true := rfl
    rw [hz] at hv
    clear hz
    by_cases zz : b1 = 0 ∧ b2 = 0
    · obtain ⟨rfl, rfl⟩ := zz
      have hz : zeroB 0 0 = true := rfl
      rw [hz] at hv
      clear hz
      obtain rfl : v = true := by rw [hv]; simp
      clear hv
      go_wp2
      go_ret
      exact ⟨by simp, Hw1.out⟩
    · have hz : zeroB b1 b2 = false := by simp only [zeroB, Bool.and_eq_false_iff, beq_eq_false_iff_ne]; omega
      rw [hz] at hv
      clear hz
      by_cases za : b1 = 0
      · have zb : (b2 == 0) = false := by simp only [beq_eq_false_iff_ne]; omega
        subst za
        clear zz
        obtain rfl : v = false := by rw [hv]; simp
        clear hv
        go_wp2
        go_ret
        exact ⟨by simp, Hw1.out⟩
      · have zb : (b1 == 0) = false := by simp only [beq_eq_false_iff_ne]; omega
        clear zz za
        obtain rfl : v = false := by rw [hv]; simp
        clear hv
        go_wp2
        go_ret
        exact ⟨by simp, Hw1.out⟩
  · have hz : zeroB a1 a2 = false := by simp only [zeroB, Bool.and_eq_false_iff, beq_eq_false_iff_ne]; omega
    rw [hz] at hv
    clear hz
    by_cases za : a1 = 0
    · have zb : (a2 == 0) = false := by simp only [beq_eq_false_iff_ne]; omega
      subst za
      clear zz
      obtain rfl : v = false := by rw [hv]; simp
      clear hv
      go_wp2
      go_ret
      exact ⟨by simp, Hw1.out⟩
    · have zb : (a1 == 0) = false := by simp only [beq_eq_false_iff_ne]; omega
      clear zz za
      obtain rfl : v = false := by rw [hv]; simp
      clear hv
      go_wp2
      go_ret
      exact ⟨by simp, Hw1.out⟩
end Go.Proofs.Ytpdebnecfknohaa
namespace Go.Proofs.Ytpdebnecfknohaa
open Go.RowKit
set_option linter.unusedVariables false
set_option linter.unusedSimpArgs false
set_option maxRecDepth 20000
theorem fits_any (Aa Asub : Option Addr) (ca lsub csub : Nat) (k a1 a2 b1 b2 : Int) (xs : List (Int × Int)) (w : World) (h : ArgsAt w (.slice Aa xs.length ca) xs) (hl : xs.length ≤ 1000000000) :
    Calls Try.prog 71 #[.agg #[.int .u8 k, .int .u8 a1, .int .i64 a2, .int .u8 b1, .int .i64 b2, .slice Aa xs.length ca, .slice Asub lsub csub]] w (BlB w (kindF k a1 a2 b1 b2 xs lsub)) := by
  by_cases hc : k < 1 ∨ 7 < k ∨ (k ≠ 7 ∧ 0 < lsub) ∨ (k ≠ 5 ∧ 0 < xs.length)
  · exact fits_early Aa Asub ca lsub csub k a1 a2 b1 b2 xs w h hl hc
  rcases (show k = 1 ∨ k = 2 ∨ k = 3 ∨ k = 4 ∨ k = 5 ∨ k = 6 ∨ k = 7 by omega) with rfl | rfl | rfl | rfl | rfl | rfl | rfl
  · exact fits_1 Aa Asub ca lsub csub a1 a2 b1 b2 xs w h hl (by omega) (by omega)
  · exact fits_2 Aa Asub ca lsub csub a1 a2 b1 b2 xs w h hl (by omega) (by omega)
  · exact fits_3 Aa Asub ca lsub csub a1 a2 b1 b2 xs w h hl (by omega) (by omega)
  · exact fits_4 Aa Asub ca lsub csub a1 a2 b1 b2 xs w h hl (by omega) (by omega)
  · by_cases zz : a1 = 0 ∧ a2 = 0
    · exact fits_5a Aa Asub ca lsub csub a1 a2 b1 b2 xs w h hl (by omega) zz
    · exact fits_5b Aa Asub ca lsub csub a1 a2 b1 b2 xs w h hl (by omega) zz
  · exact fits_6 Aa Asub ca lsub csub a1 a2 b1 b2 xs w h hl (by omega) (by omega)
  · exact fits_7 Aa Asub ca lsub csub a1 a2 b1 b2 xs w h hl (by omega)
end Go.Proofs.Ytpdebnecfknohaa
namespace Go.Proofs.Ytpdebnecfknohaa
open Go.RowKit
set_option linter.unusedVariables false
set_option linter.unusedSimpArgs false
set_option maxRecDepth 20000
def hereF (nl ng nf ns : Nat) (k i : Int) : Bool := if k = 0 then withF i 1 else thereF nl ng nf ns k i
set_option maxHeartbeats 4000000 in
theorem here_any (As Ag Af Ae Al At Ab : Option Addr) (ls cs ng cg nf cf ne ce nl cl ns ct lb cb : Nat) (fn fp k i : Int) (w : World) (h0 : 0 ≤ k) (h4 : k ≤ 4) :
    Calls Try.prog 72 #[.agg #[.slice As ls cs, .slice Ag ng cg, .slice Af nf cf, .slice Ae ne ce], .agg #[.int .i64 fn, .int .i64 fp, .slice Al nl cl, .slice At ns ct, .slice Ab lb cb], .agg #[.int .u8 k, .int .i64 i]] w (BlB w (hereF nl ng nf ns k i)) := by
  obtain ⟨m, hm⟩ : ∃ m : Nat, m = if k = 0 then 1 else if k = 1 then nl else if k = 2 then ng else if k = 3 then nf else ns := ⟨_, rfl⟩
  have hv : hereF nl ng nf ns k i = withF i m := by
    unfold hereF thereF
    rw [hm]
    rcases (show k = 0 ∨ k = 1 ∨ k = 2 ∨ k = 3 ∨ k = 4 by omega) with rfl | rfl | rfl | rfl | rfl <;> rfl
  rw [hv]
  clear hv
  obtain ⟨w1, hw1⟩ : ∃ w1, w1 = ((w.alloc (.cells #[.slice As ls cs, .slice Ag ng cg, .slice Af nf cf, .slice Ae ne ce] 30)).alloc (.cells #[.int .i64 fn, .int .i64 fp, .slice Al nl cl, .slice At ns ct, .slice Ab lb cb] 40)).alloc (.cells #[.int .u8 k, .int .i64 i] 46) := ⟨_, rfl⟩
  have HB1 : Hid (Below w.heap.size w w1) := by rw [hw1]; exact (((Below.refl _ _).alloc (Nat.le_refl _) _).alloc (by simp) _).alloc (by simp; omega) _
  have K1 : Hid (Blk w1 w.heap.size 30 #[.slice As ls cs, .slice Ag ng cg, .slice Af nf cf, .slice Ae ne ce]) := by rw [hw1]; exact ((Blk.new w 30 _).alloc _).alloc _
  have K2 : Hid (Blk w1 (w.heap.size + 1) 40 #[.int .i64 fn, .int .i64 fp, .slice Al nl cl, .slice At ns ct, .slice Ab lb cb]) := by rw [hw1]; exact (Blk.new' _ 40 _ _ (by simp)).alloc _
  have K3 : Hid (Blk w1 (w.heap.size + 1 + 1) 46 #[.int .u8 k, .int .i64 i]) := by rw [hw1]; exact Blk.new' _ 46 _ _ (by simp)
  go_enter Try.func72, Try.ntmps72
  go_upto_region 1 with (fail)
  rw [← hw1]
  clear hw1
  obtain ⟨m0, m1, m2, m3⟩ := K1.out.c4
  obtain ⟨f0, f1, f2, f3, f4⟩ := K2.out.c5
  obtain ⟨r0, r1⟩ := K3.out.c2
  have z1 : w.heap.size < w1.heap.size := K1.out.lt
  have z2 : w.heap.size + 1 < w1.heap.size := K2.out.lt
  have z3 : w.heap.size + 1 + 1 < w1.heap.size := K3.out.lt
  have HB2 : Hid (Below w.heap.size w (w1.alloc (.cells #[.int .i64 1, .int .i64 (nl : Int), .int .i64 (ng : Int), .int .i64 (nf : Int), .int .i64 (ns : Int)] 3))) := HB1.out.alloc HB1.out.size _
  by_cases q0 : 0 ≤ i
  · by_cases q1 : i < (m : Int)
    · have e : withF i m = true := by simp [withF, q0, q1]
      clear e
      rcases (show k = 0 ∨ k = 1 ∨ k = 2 ∨ k = 3 ∨ k = 4 by omega) with rfl | rfl | rfl | rfl | rfl
      all_goals simp at hm
      all_goals subst hm
      all_goals go_wp2
      all_goals go_ret
      all_goals exact ⟨by first | (simp [withF, q0, q1]; done) | (simp [withF, q0, q1] at *; omega), HB2.out⟩
    · have e : withF i m = false := by simp [withF, q1]
      clear e
      rcases (show k = 0 ∨ k = 1 ∨ k = 2 ∨ k = 3 ∨ k = 4 by omega) with rfl | rfl | rfl | rfl | rfl
      all_goals simp at hm
      all_goals subst hm
      all_goals go_wp2
      all_goals go_ret
      all_goals exact ⟨by first | (simp [withF, q0, q1]; done) | (simp [withF, q0, q1] at *; omega), HB2.out⟩
  · have e : withF i m = false := by simp [withF, q0]
    clear e
    rcases (show k = 0 ∨ k = 1 ∨ k = 2 ∨ k = 3 ∨ k = 4 by omega) with rfl | rfl | rfl | rfl | rfl
    all_goals simp at hm
    all_goals subst hm
    all_goals go_wp2
    all_goals go_ret
    all_goals exact ⟨by first | (simp [withF, q0]; done) | (simp [withF]; omega), HB2.out⟩
end Go.Proofs.Ytpdebnecfknohaa
namespace Go.Proofs.Ytpdebnecfknohaa
open Go.RowKit
set_option linter.unusedVariables false
set_option linter.unusedSimpArgs false
set_option maxRecDepth 20000
/-- Of no kind greater than 4. -/
def It.Low (x : It) : Prop := 0 ≤ x.a1 ∧ x.a1 ≤ 4 ∧ 0 ≤ x.b1 ∧ x.b1 ≤ 4 ∧ ∀ p ∈ x.xs, 0 ≤ p.1 ∧ p.1 ≤ 4
def brkF (L : List Fn) (nl ng ns : Nat) (x : It) : Int :=
  if 8 < x.deep then 6 else if kindF x.k x.a1 x.a2 x.b1 x.b2 x.xs x.sub.len = false then 7
  else if hereF nl ng L.length ns x.a1 x.a2 = false then 8
  else if hereF nl ng L.length ns x.b1 x.b2 = false then 8
  else if (x.xs.all fun p => hereF nl ng L.length ns p.1 p.2) = false then 8
  else if x.k = 5 then (if 6 < x.xs.length then 9 else if x.b1 = 3 ∧ (x.xs.length : Int) ≠ ((L[x.b2.toNat]?).map Fn.params).getD 0 then 9 else 0) else 0
theorem there_here (nl ng nf ns : Nat) (k i : Int) (h : k = 0 → i = 0) : hereF nl ng nf ns k i = thereF nl ng nf ns k i := by
  unfold hereF
  split
  · rename_i h0
    rw [h h0, h0]; rfl
  · rfl
theorem all_congr' {α : Type} {l : List α} {f g : α → Bool} (h : ∀ x ∈ l, f x = g x) : l.all f = l.all g := by
  induction l with
  | nil => rfl
  | cons a l ih => rw [List.all_cons, List.all_cons, h a List.mem_cons_self, ih fun x hx => h x (List.mem_cons_of_mem _ hx)]
theorem brk_stmt (L : List Fn) (nl ng ns : Nat) (x : It) : brkF L nl ng ns x = stmtF L nl ng ns x := by
  obtain ⟨deep, k, a1, a2, b1, b2, xs, sub⟩ := x
  unfold brkF stmtF
  dsimp only
  by_cases h8 : 8 < deep
  · rw [if_pos h8, if_pos h8]
  rw [if_neg h8, if_neg h8]
  by_cases hk : kindF k a1 a2 b1 b2 xs sub.len = false
  · rw [if_pos hk, if_pos hk]
  rw [if_neg hk, if_neg hk]
  have hk' : kindF k a1 a2 b1 b2 xs sub.len = true := by simpa using hk
  have hx : (k = 5 ∧ allVar xs = true) ∨ xs = [] := by
    unfold kindF at hk'
    split at hk'
    · cases hk'
    · rename_i hc
      by_cases h5 : k = 5
      · subst h5
        left
        simp at hk'
        exact ⟨rfl, hk'.2⟩
      · right
        have : xs.length = 0 := by omega
        exact List.eq_nil_of_length_eq_zero this
  have hab : (a1 = 0 → a2 = 0) ∧ (b1 = 0 → b2 = 0) := by
    unfold kindF at hk'
    split at hk'
    · cases hk'
    · generalize allVar xs = av at hk'
      clear hx hk
      by_cases q1 : k = 1
      · subst q1; simp [varB, objB] at hk'; omega
      by_cases q2 : k = 2 ∨ k = 3 ∨ k = 4
      · rw [if_neg q1, if_pos q2] at hk'; simp [varB] at hk'; omega
      by_cases q5 : k = 5
      · rw [if_neg q1, if_neg q2, if_pos q5] at hk'; simp [varB, zeroB] at hk'; omega
      by_cases q6 : k = 6
      · rw [if_neg q1, if_neg q2, if_neg q5, if_pos q6] at hk'; simp [varB, zeroB] at hk'; omega
      by_cases q7 : k = 7
      · rw [if_neg q1, if_neg q2, if_neg q5, if_neg q6, if_pos q7] at hk'; simp [zeroB] at hk'; omega
      rw [if_neg q1, if_neg q2, if_neg q5, if_neg q6, if_neg q7] at hk'; cases hk'
  obtain ⟨ha, hb⟩ := hab
  have hxs : (xs.all fun p => hereF nl ng L.length ns p.1 p.2) = (xs.all fun p => thereF nl ng L.length ns p.1 p.2) := by
    rcases hx with ⟨_, hx⟩ | rfl
    · refine all_congr' fun p hp => there_here _ _ _ _ _ _ fun h0 => ?_
      have := (List.all_eq_true.1 hx) p hp
      rw [h0] at this
      simp [varB] at this
    · rfl
  rw [hxs, there_here _ _ _ _ _ _ ha, there_here _ _ _ _ _ _ hb]
  unfold refsF arityF
  generalize thereF nl ng L.length ns a1 a2 = A
  generalize thereF nl ng L.length ns b1 b2 = B
  generalize (xs.all fun p => thereF nl ng L.length ns p.1 p.2) = C
  cases A <;> cases B <;> cases C <;> simp
  rcases hx with ⟨h5, _⟩ | h0
  · subst h5
    by_cases h6 : 6 < xs.length
    · have h6' : ¬ xs.length ≤ 6 := by omega
      simp [h6, h6']
    · have h6' : xs.length ≤ 6 := by omega
      simp only [h6, h6', if_false]
      by_cases h3 : b1 = 3
      · by_cases hq : (xs.length : Int) = ((L[b2.toNat]?).map Fn.params).getD 0 <;> simp [h3, hq]
      · simp [h3]
  · subst h0
    by_cases h5 : k = 5
    · subst h5
      by_cases h3 : b1 = 3
      · simp [h3]
      · simp [h3]
    · simp [h5]
set_option maxHeartbeats 8000000 in
theorem broken_any (As Ag Af Ae Al At Ab Aa Asub : Option Addr) (ls cs ng cg cf ne ce nl cl ns ct lb cb ca csub : Nat) (fn fp N : Int) (L : List Fn) (x : It) (w : World) (h : ArgsAt w (.slice Aa x.xs.length ca) x.xs) (hl : x.xs.length ≤ 1000000000) (hd : x.deep ≤ 1000000000) (hF : FnsS (fun _ => True) w Af L) (hlow : x.Low) :
    Calls Try.prog 43 #[.agg #[.slice As ls cs, .slice Ag ng cg, .slice Af L.length cf, .slice Ae ne ce], .agg #[.int .i64 fn, .int .i64 fp, .slice Al nl cl, .slice At ns ct, .slice Ab lb cb], .agg #[.int .i64 N, .int .i64 (x.deep : Int), .int .u8 x.k, .int .u8 x.a1, .int .i64 x.a2, .int .u8 x.b1, .int .i64 x.b2, .slice Aa x.xs.length ca, .slice Asub x.sub.len csub]] w (InB w (stmtF L nl ng ns x)) := by
  rw [← brk_stmt]
  obtain ⟨v, hv⟩ : ∃ v, v = brkF L nl ng ns x := ⟨_, rfl⟩
  rw [← hv]
  unfold brkF at hv
  obtain ⟨deep, k, a1, a2, b1, b2, xs, sub⟩ := x
  obtain ⟨ha0, ha4, hb0, hb4, hxl⟩ := hlow
  dsimp only at *
  have hK := fun wx (hx : Below w.heap.size w wx) => fits_any Aa Asub ca sub.len csub k a1 a2 b1 b2 xs wx (h.old hx) hl
  have hHe := fun k i wx (h0 : 0 ≤ k) (h4 : k ≤ 4) => here_any As Ag Af Ae Al At Ab ls cs ng cg L.length cf ne ce nl cl ns ct lb cb fn fp k i wx h0 h4
  have hth : hereF nl ng L.length ns b1 b2 = true → b1 = 3 → 0 ≤ b2 ∧ b2 < L.length := fun h1 h3 => by
    subst h3
    have : withF b2 L.length = true := h1
    simpa [withF] using this
  obtain ⟨A', c', hA1, hA2⟩ := h
  injection hA1 with hA11 hA12 hA13
  subst hA11 hA13
  clear hA12
  have HAr := Lib.hid hA2
  have HF := Lib.hid hF
  obtain ⟨na, hn⟩ : ∃ n, n = xs.length := ⟨_, rfl⟩
  obtain ⟨nf, hnf⟩ : ∃ n, n = L.length := ⟨_, rfl⟩
  obtain ⟨lsub, hls⟩ : ∃ n, n = sub.len := ⟨_, rfl⟩
  rw [← hn] at hK hv hl ⊢
  rw [← hnf] at hHe hv hth ⊢
  rw [← hls] at hK hv ⊢
  have HNF := Lib.hid hnf
  have HNA := Lib.hid hn
  obtain ⟨bk, hbk⟩ : ∃ b, b = kindF k a1 a2 b1 b2 xs lsub := ⟨_, rfl⟩
  obtain ⟨bA, hbA⟩ : ∃ b, b = hereF nl ng nf ns a1 a2 := ⟨_, rfl⟩
  obtain ⟨bB, hbB⟩ : ∃ b, b = hereF nl ng nf ns b1 b2 := ⟨_, rfl⟩
  rw [← hbk] at hK hv
  have hHA := fun wx => hHe a1 a2 wx ha0 ha4
  have hHB := fun wx => hHe b1 b2 wx hb0 hb4
  rw [← hbA] at hHA hv
  rw [← hbB] at hHB hv hth
  have HK := Lib.hid hK
  have HA := Lib.hid hHA
  have HB := Lib.hid hHB
  have HE := Lib.hid hHe
  have HV := Lib.hid hv
  have HTh := Lib.hid hth
  have HXL := Lib.hid hxl
  have HV0 : Hid ((xs.all fun p => hereF nl ng nf ns p.1 p.2) = (xs.drop 0).all fun p => hereF nl ng nf ns p.1 p.2) := rfl
  clear hK hHA hHB hHe hv hth hF hbk hbA hbB hn hnf hls hA2 hxl ha0 ha4 hb0 hb4
  obtain ⟨w1, hw1⟩ : ∃ w1, w1 = (((w.alloc (.cells #[.slice As ls cs, .slice Ag ng cg, .slice Af nf cf, .slice Ae ne ce] 30)).alloc (.cells #[.int .i64 fn, .int .i64 fp, .slice Al nl cl, .slice At ns ct, .slice Ab lb cb] 40)).alloc (.cells #[.int .i64 N, .int .i64 (deep : Int), .int .u8 k, .int .u8 a1, .int .i64 a2, .int .u8 b1, .int .i64 b2, .slice Aa na ca, .slice Asub lsub csub] 90)).alloc (.cells #[.int .u8 k, .int .u8 a1, .int .i64 a2, .int .u8 b1, .int .i64 b2, .slice Aa na ca, .slice Asub lsub csub] 50) := ⟨_, rfl⟩
  have HB1 : Hid (Below w.heap.size w w1) := by rw [hw1]; exact ((((Below.refl _ _).alloc (Nat.le_refl _) _).alloc (by simp) _).alloc (by simp; omega) _).alloc (by simp; omega) _
  have K1 : Hid (Blk w1 w.heap.size 30 #[.slice As ls cs, .slice Ag ng cg, .slice Af nf cf, .slice Ae ne ce]) := by rw [hw1]; exact (((Blk.new w 30 _).alloc _).alloc _).alloc _
  have K2 : Hid (Blk w1 (w.heap.size + 1) 40 #[.int .i64 fn, .int .i64 fp, .slice Al nl cl, .slice At ns ct, .slice Ab lb cb]) := by rw [hw1]; exact ((Blk.new' _ 40 _ _ (by simp)).alloc _).alloc _
  have K3 : Hid (Blk w1 (w.heap.size + 1 + 1) 90 #[.int .i64 N, .int .i64 (deep : Int), .int .u8 k, .int .u8 a1, .int .i64 a2, .int .u8 b1, .int .i64 b2, .slice Aa na ca, .slice Asub lsub csub]) := by rw [hw1]; exact (Blk.new' _ 90 _ _ (by simp)).alloc _
  have K4 : Hid (Blk w1 (w.heap.size + 1 + 1 + 1) 50 #[.int .u8 k, .int .u8 a1, .int .i64 a2, .int .u8 b1, .int .i64 b2, .slice Aa na ca, .slice Asub lsub csub]) := by rw [hw1]; exact Blk.new' _ 50 _ _ (by simp)
  go_enter Try.func43, Try.ntmps43
  go_upto_region 2 with (fail)
  rw [← hw1]
  clear hw1
  obtain ⟨s0, s1, s2, s3, s4, s5, s6, s7, s8⟩ := K3.out.c9
  have z3 : w.heap.size + 1 + 1 < w1.heap.size := K3.out.lt
  by_cases h8 : 8 < deep
  · have h8i : (8 : Int) < (deep : Int) := by omega
    obtain rfl : v = 6 := by rw [HV.out, if_pos h8]
    clear HV
    go_wp2
    go_ret
    exact ⟨rfl, HB1.out⟩
  have h8i : ¬ (8 : Int) < (deep : Int) := by omega
  have hv := HV.out
  rw [if_neg h8] at hv
  have HV2 := Lib.hid hv
  clear HV hv
  go_upto_region 4 with (fail)
  clear s0 s1 s2 s3 s4 s5 s6 s7 s8 z3 K3
  obtain ⟨t0, t1, t2, t3, t4, t5, t6⟩ := K4.out.c7
  have z4 : w.heap.size + 1 + 1 + 1 < w1.heap.size := K4.out.lt
  go_wp2_with fail
  refine (HK.out _ HB1.out).mono ?_
  rintro e w2 ⟨rfl, hb2⟩
  have HB2 := Lib.hid (HB1.out.trans (hb2.mono HB1.out.size))
  have L1 := Lib.hid (K1.out.old hb2)
  have L2 := Lib.hid (K2.out.old hb2)
  have L4 := Lib.hid (K4.out.old hb2)
  clear hb2 t0 t1 t2 t3 t4 t5 t6 z4 K1 K2 K4
  cases bk with
  | false =>
    obtain rfl : v = 7 := by simpa using HV2.out
    clear HV2
    go_wp2
    go_ret
    exact ⟨rfl, HB2.out⟩
  | true =>
    have hv := HV2.out
    rw [if_neg (by simp)] at hv
    have HV3 := Lib.hid hv
    clear HV2 hv
    obtain ⟨m0, m1, m2, m3⟩ := L1.out.c4
    obtain ⟨f0, f1, f2, f3, f4⟩ := L2.out.c5
    obtain ⟨t0, t1, t2, t3, t4, t5, t6⟩ := L4.out.c7
    have z1 : w.heap.size < w2.heap.size := L1.out.lt
    have z2 : w.heap.size + 1 < w2.heap.size := L2.out.lt
    have z4 : w.heap.size + 1 + 1 + 1 < w2.heap.size := L4.out.lt
    go_wp2_with fail
    refine (HA.out _).mono ?_
    rintro e w3 ⟨rfl, hb3⟩
    have HB3 := Lib.hid (HB2.out.trans (hb3.mono HB2.out.size))
    have M1 := Lib.hid (L1.out.old hb3)
    have M2 := Lib.hid (L2.out.old hb3)
    have M4 := Lib.hid (L4.out.old hb3)
    clear hb3 m0 m1 m2 m3 f0 f1 f2 f3 f4 t0 t1 t2 t3 t4 t5 t6 z1 z2 z4 L1 L2 L4
    cases bA with
    | false =>
      obtain rfl : v = 8 := by simpa using HV3.out
      clear HV3
      go_wp2
      go_ret
      exact ⟨rfl, HB3.out⟩
    | true =>
      have hv := HV3.out
      rw [if_neg (by simp)] at hv
      have HV4 := Lib.hid hv
      clear HV3 hv
      obtain ⟨m0, m1, m2, m3⟩ := M1.out.c4
      obtain ⟨f0, f1, f2, f3, f4⟩ := M2.out.c5
      obtain ⟨t0, t1, t2, t3, t4, t5, t6⟩ := M4.out.c7
      have z1 : w.heap.size < w3.heap.size := M1.out.lt
      have z2 : w.heap.size + 1 < w3.heap.size := M2.out.lt
      have z4 : w.heap.size + 1 + 1 + 1 < w3.heap.size := M4.out.lt
      go_wp2_with fail
      refine (HB.out _).mono ?_
      rintro e w4 ⟨rfl, hb4⟩
      have HB4 := Lib.hid (HB3.out.trans (hb4.mono HB3.out.size))
      have N1 := Lib.hid (M1.out.old hb4)
      have N2 := Lib.hid (M2.out.old hb4)
      have N4 := Lib.hid (M4.out.old hb4)
      clear hb4 m0 m1 m2 m3 f0 f1 f2 f3 f4 t0 t1 t2 t3 t4 t5 t6 z1 z2 z4 M1 M2 M4
      cases bB with
      | false =>
        obtain rfl : v = 8 := by simpa using HV4.out
        clear HV4
        go_wp2
        go_ret
        exact ⟨rfl, HB4.out⟩
      | true =>
        have hv := HV4.out
        rw [if_neg (by simp)] at hv
        rw [HV0.out] at hv
        obtain ⟨G, hG⟩ : ∃ G : Bool → Int, G = fun c => if c = false then 8 else if k = 5 then (if 6 < na then 9 else if b1 = 3 ∧ (na : Int) ≠ ((L[b2.toNat]?).map Fn.params).getD 0 then 9 else 0) else 0 := ⟨_, rfl⟩
        have HV5 : Hid (v = G ((xs.drop 0).all fun p => hereF nl ng nf ns p.1 p.2)) := by show _ = _; rw [hG]; exact hv
        have HG0 : Hid (G false = 8) := by show _ = _; rw [hG]; rfl
        have HG1 : Hid (G true = if k = 5 then (if 6 < na then 9 else if b1 = 3 ∧ (na : Int) ≠ ((L[b2.toNat]?).map Fn.params).getD 0 then 9 else 0) else 0) := by show _ = _; rw [hG]; rfl
        clear HV4 hv HV0 hG
        go_upto_region 8 with (fail)
        go_wp2_with fail
        go_loopw [8] (fun s wr => ∃ (i : Nat), i ≤ na ∧ s = .int .i64 (i : Int) ∧ Hid (v = G ((xs.drop i).all fun p => hereF nl ng nf ns p.1 p.2)) ∧ Hid (Below w.heap.size w wr) ∧ Hid (Blk wr w.heap.size 30 #[.slice As ls cs, .slice Ag ng cg, .slice Af nf cf, .slice Ae ne ce]) ∧ Hid (Blk wr (w.heap.size + 1) 40 #[.int .i64 fn, .int .i64 fp, .slice Al nl cl, .slice At ns ct, .slice Ab lb cb]) ∧ Hid (Blk wr (w.heap.size + 1 + 1 + 1) 50 #[.int .u8 k, .int .u8 a1, .int .i64 a2, .int .u8 b1, .int .i64 b2, .slice Aa na ca, .slice Asub lsub csub])) (fun s _ => na - (intOf s).toNat)
        case atStart => exact ⟨0, Nat.zero_le _, rfl, HV5, HB4, N1, N2, N4⟩
        case round =>
          clear HV5 HB4 N1 N2 N4 HB3 HB2 HB1 HK HA HB
          obtain ⟨i, hi, rfl, hE, hB, P1, P2, P4⟩ := hrel
          obtain ⟨m0, m1, m2, m3⟩ := P1.out.c4
          obtain ⟨f0, f1, f2, f3, f4⟩ := P2.out.c5
          obtain ⟨t0, t1, t2, t3, t4, t5, t6⟩ := P4.out.c7
          have z1 : w.heap.size < wr.heap.size := P1.out.lt
          have z2 : w.heap.size + 1 < wr.heap.size := P2.out.lt
          have z4 : w.heap.size + 1 + 1 + 1 < wr.heap.size := P4.out.lt
          by_cases hlt : i < na
          · have hkl : i < xs.length := by rw [← HNA.out]; exact hlt
            have hli : (i : Int) < (na : Int) := by omega
            obtain ⟨b, o, rfl, hc⟩ := HAr.out (by omega)
            obtain ⟨d0, d1⟩ := hc i hkl
            have hbl : b < w.heap.size := World.block_lt_of_cell? w ⟨b, o + i * 2, none⟩ d0
            have e0 := cell_old hB.out hbl d0
            have e1 := cell_old hB.out hbl d1
            rw [show xs.getD i (0, 0) = xs[i] from by simp [List.getD, hkl]] at e0 e1
            have hE2 := hE.out
            rw [List.drop_eq_getElem_cons hkl] at hE2
            simp only [List.all_cons] at hE2
            have hlo := HXL.out _ (List.getElem_mem hkl)
            generalize xs[i] = x at *
            obtain ⟨xk, xi⟩ := x
            dsimp only at e0 e1 hE2 hlo
            have hz : b < wr.heap.size := by have := hB.out.size; omega
            obtain ⟨bv, hbv⟩ : ∃ b, b = hereF nl ng nf ns xk xi := ⟨_, rfl⟩
            have hH := fun wx => HE.out xk xi wx hlo.1 hlo.2
            rw [← hbv] at hE2 hH
            have HH := Lib.hid hH
            have HE2 := Lib.hid hE2
            clear hE2 hc d0 d1 hbl hE hbv hH hlo
            go_upto_region 11 with (fail)
            go_cut [46] (fun s46 wx => s46 = .bool (!bv) ∧ Hid (Below wr.heap.size wr wx))
            case first =>
              go_region_law (first | (go_simp; go_at_call 72; refine (HH.out _).mono ?_; rintro e w5 ⟨rfl, hb5⟩))
              all_goals
                have HB5 : Hid (Below wr.heap.size wr w5) := ((Below.refl wr.heap.size wr).drew).trans hb5
                clear hb5
                go_wp2_with fail
                go_meet
                case rel => exact ⟨rfl, HB5⟩
            case rest =>
              obtain ⟨rfl, hB5⟩ := hcut
              have HB5 := Lib.hid (hB.out.trans (hB5.out.mono hB.out.size))
              have R1 := Lib.hid (P1.out.old hB5.out)
              have R2 := Lib.hid (P2.out.old hB5.out)
              have R4 := Lib.hid (P4.out.old hB5.out)
              clear e0 e1 hz hB5 P1 P2 P4 m0 m1 m2 m3 f0 f1 f2 f3 f4 t0 t1 t2 t3 t4 t5 t6 z1 z2 z4
              cases bv with
              | false =>
                obtain rfl : v = 8 := by rw [HE2.out, ← HG0.out]; rfl
                go_wp2
                go_ret
                exact ⟨rfl, HB5.out⟩
              | true =>
                have HE4 : Hid (v = G ((xs.drop (i + 1)).all fun p => hereF nl ng nf ns p.1 p.2)) := by show _ = _; rw [HE2.out]; rfl
                go_wp2
                go_roundw
                case rel => exact ⟨i + 1, by omega, by go_num, HE4, HB5, R1, R2, R4⟩
                case measure => simp [intOf]; omega
          · obtain rfl : i = na := by omega
            have hv := hE.out
            rw [List.drop_of_length_le (by rw [← HNA.out]; omega)] at hv
            have hv := hv.trans HG1.out
            clear hE hlt P1 P2 P4 f0 f1 f2 f3 f4 z2
            by_cases h5 : k = 5
            · subst h5
              rw [if_pos rfl] at hv
              by_cases h6 : 6 < i
              · have h6i : (6 : Int) < (i : Int) := by omega
                rw [if_pos h6] at hv
                subst hv
                go_upto_region 13 with (fail)
                go_quiet ((fail))
                go_wp2
                go_ret
                exact ⟨rfl, hB.out.trans ((below_dN _ _ _).mono hB.out.size)⟩
              · have h6i : ¬ (6 : Int) < (i : Int) := by omega
                rw [if_neg h6] at hv
                by_cases h3 : b1 = 3
                · subst h3
                  obtain ⟨hb0, hb1⟩ := HTh.out trivial rfl
                  obtain ⟨j, rfl⟩ : ∃ j : Nat, b2 = j := ⟨b2.toNat, by omega⟩
                  have hjL : j < L.length := by rw [← HNF.out]; omega
                  obtain ⟨b, o, rfl, _, hc⟩ := HF.out (by omega)
                  obtain ⟨fs, ⟨Al, cl, At, ct, Ab, cb, rfl, _⟩, hcc⟩ := hc j hjL
                  have d1 := hcc 1 _ rfl
                  have hbl : b < w.heap.size := World.block_lt_of_cell? w _ d1
                  have e1 := cell_old hB.out hbl d1
                  have hz : b < wr.heap.size := by have := hB.out.size; omega
                  have hv2 : v = if (i : Int) ≠ L[j].params then 9 else 0 := by rw [hv]; simp [hjL]
                  generalize L[j].params = ps at *
                  have HV2 := Lib.hid hv2
                  clear hv hc hcc d1 hv2
                  by_cases hp : (i : Int) = ps
                  · obtain rfl : v = 0 := by rw [HV2.out]; simp [hp]
                    have hp1 : ((i : Int) != ps) = false := by simpa using hp
                    have hp2 : ((i : Int) == ps) = true := by simpa using hp
                    clear hp HV2
                    go_upto_region 13 with (fail)
                    go_quiet ((fail))
                    go_wp2
                    go_ret
                    exact ⟨rfl, hB.out.trans ((below_dN _ _ _).mono hB.out.size)⟩
                  · obtain rfl : v = 9 := by rw [HV2.out]; simp [hp]
                    have hp1 : ((i : Int) != ps) = true := by simpa using hp
                    have hp2 : ((i : Int) == ps) = false := by simpa using hp
                    clear hp HV2
                    go_upto_region 13 with (fail)
                    go_quiet ((fail))
                    go_wp2
                    go_ret
                    exact ⟨rfl, hB.out.trans ((below_dN _ _ _).mono hB.out.size)⟩
                · have g3 : (b1 == 3) = false := by simpa using h3
                  rw [if_neg (by simp [h3])] at hv
                  subst hv
                  go_upto_region 13 with (fail)
                  go_quiet ((fail))
                  go_wp2
                  go_ret
                  exact ⟨rfl, hB.out.trans ((below_dN _ _ _).mono hB.out.size)⟩
            · have g5 : (k == 5) = false := by simpa using h5
              rw [if_neg h5] at hv
              subst hv
              go_upto_region 13 with (fail)
              go_quiet ((fail))
              go_wp2
              go_ret
              exact ⟨rfl, hB.out.trans ((below_dN _ _ _).mono hB.out.size)⟩
end Go.Proofs.Ytpdebnecfknohaa
