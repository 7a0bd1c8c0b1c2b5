/-
  What told leaves.
-/
import Derived.Test.YtpdebnecfknohaaTz
namespace Go.Proofs.Ytpdebnecfknohaa
open Go.RowKit
set_option linter.unusedVariables false
set_option linter.unusedSimpArgs false
set_option maxRecDepth 20000
/-- A fault's seven numbers, those of a rule, a function, a statement, against three numbers. -/
def toldF (t : Int × Int × Int) (n f s : Int) : Bool := if n = 0 then t.1 == 0 && t.2.1 == -1 && t.2.2 == -1 else t.1 == n && t.2.1 == f && t.2.2 == s
set_option maxHeartbeats 4000000 in
theorem told_any (r a b n f s : Int) (w : World) : Calls Try.prog 17 #[faultV r a b, .int .i64 n, .int .i64 f, .int .i64 s] w (BlB w (toldF (r, a, b) n f s)) := by
  obtain ⟨v, hv⟩ : ∃ v, v = toldF (r, a, b) n f s := ⟨_, rfl⟩
  rw [← hv]
  have HV := Lib.hid hv
  clear hv
  unfold faultV
  obtain ⟨fe, hfe⟩ : ∃ fe : Int, fe = if r = 0 then 0 else 8 := ⟨_, rfl⟩
  rw [← hfe]
  have HFE := Lib.hid hfe
  clear hfe
  obtain ⟨w1, hw1⟩ : ∃ w1, w1 = w.alloc (.cells #[.int .i64 fe, .int .i64 0, .int .i64 0, .int .i64 0, .int .i64 r, .int .i64 a, .int .i64 b] 35) := ⟨_, rfl⟩
  have HB1 : Hid (Below w.heap.size w w1) := by rw [hw1]; exact (Below.refl _ _).alloc (Nat.le_refl _) _
  have K1 : Hid (Blk w1 w.heap.size 35 #[.int .i64 fe, .int .i64 0, .int .i64 0, .int .i64 0, .int .i64 r, .int .i64 a, .int .i64 b]) := by rw [hw1]; exact Blk.new w 35 _
  go_enter Try.func17, Try.ntmps17
  go_upto_region 1 with (fail)
  rw [← hw1]
  clear hw1
  obtain ⟨k0, k1, k2, k3, k4, k5, k6⟩ := K1.out.c7
  have z1 : w.heap.size < w1.heap.size := K1.out.lt
  by_cases hn : n = 0
  · subst hn
    go_wp2
    all_goals go_ret
    all_goals refine ⟨?_, HB1.out⟩
    all_goals rw [HV.out]
    all_goals have hf := HFE.out
    all_goals clear HV HFE
    all_goals (by_cases hr0 : r = 0 <;> simp_all [toldF])
  · go_wp2
    all_goals go_ret
    all_goals refine ⟨?_, HB1.out⟩
    all_goals rw [HV.out]
    all_goals have hf := HFE.out
    all_goals clear HV HFE
    all_goals (by_cases hr0 : r = 0 <;> simp_all [toldF] <;> omega)
/-- The empty module; one with a global that has no name. -/
def Md0 : Md := ⟨[], [], [], []⟩
def Md1 : Md := ⟨[], [3], [], []⟩
theorem check0 : checkF Md0 = (0, -1, -1) := by decide
theorem check1 : checkF Md1 = (1, -1, -1) := by decide
set_option maxHeartbeats 4000000 in
theorem awake6_any (w : World) : Calls Try.prog 15 #[] w (BlB w true) := by
  have hr0 : ∀ wx, RdS (fun _ => True) wx none 0 1 [] := fun wx => ⟨rfl, fun h => absurd h (by omega)⟩
  have hf0 : ∀ wx, FnsS (fun _ => True) wx none [] := fun wx h => absurd h (by simp)
  have hW : ∀ g : List Int, g.length ≤ 1 → WfI g → (Md.mk [] g [] []).Wf := fun g hg h => ⟨by simp, ⟨by simp; omega, h⟩, ⟨by simp, by intro n hn; simp at hn⟩, by simp, by intro f hf; simp at hf, by intro n hn; simp [namesL] at hn⟩
  have h0 := fun wx => check_any Md0 none none none none 0 0 0 0 wx (hW [] (by simp) (by intro n hn; simp at hn)) ⟨hr0 wx, hr0 wx, hf0 wx, hr0 wx⟩
  have h1 := fun g wx (hx : wx.cell? ⟨g, 0, none⟩ = some (.int .i64 3)) => check_any Md1 none (some ⟨g, 0, none⟩) none none 0 1 0 0 wx (hW [3] (by simp) (by intro n hn; simp at hn; omega)) ⟨hr0 wx, ⟨rfl, fun _ => ⟨g, 0, rfl, trivial, fun j u hj => by
    match j with
    | 0 => simp [Md1, intV] at hj; subst hj; exact hx
    | j + 1 => simp [Md1, intV] at hj⟩⟩, hf0 wx, hr0 wx⟩
  rw [check0] at h0
  rw [check1] at h1
  have H0 := Lib.hid h0
  have H1 := Lib.hid h1
  clear h0 h1 hr0 hf0 hW
  go_enter Try.func15, Try.ntmps15
  go_wp2_with fail
  refine (H0.out _).mono ?_
  rintro e w1 ⟨rfl, hb1⟩
  have HB1 := Lib.hid hb1
  clear hb1
  dsimp only
  rw [fault0]
  have z0 := HB1.out.size
  obtain ⟨w2, hw2⟩ : ∃ w2, w2 = w1.alloc (.cells #[.int .i64 0, .int .i64 0, .int .i64 0, .int .i64 0, .int .i64 0, .int .i64 (-1), .int .i64 (-1)] 35) := ⟨_, rfl⟩
  have HB2 : Hid (Below w.heap.size w w2) := by rw [hw2]; exact HB1.out.alloc z0 _
  have K2 : Hid (Blk w2 w1.heap.size 35 #[.int .i64 0, .int .i64 0, .int .i64 0, .int .i64 0, .int .i64 0, .int .i64 (-1), .int .i64 (-1)]) := by rw [hw2]; exact Blk.new w1 35 _
  go_upto_region 2 with (fail)
  rw [← hw2]
  clear hw2
  go_wp2_with fail
  refine (H1.out w2.heap.size _ ?_).mono ?_
  · go_simp
  rintro e w3 ⟨rfl, hb3⟩
  have hb4 := HB2.out.trans ((Below.alloc (Below.refl w2.heap.size w2) (Nat.le_refl _) _ |>.trans (hb3.mono (by simp))).mono HB2.out.size)
  have hb5 := (Below.alloc (Below.refl w2.heap.size w2) (Nat.le_refl _) _ |>.trans (hb3.mono (by simp)))
  have HB4 := Lib.hid hb4
  have K4 := Lib.hid (K2.out.old hb5)
  clear hb3 hb4 hb5
  dsimp only
  rw [fault8 1 (-1) (-1) (by decide)]
  obtain ⟨w4, hw4⟩ : ∃ w4, w4 = w3.alloc (.cells #[.int .i64 8, .int .i64 0, .int .i64 0, .int .i64 0, .int .i64 1, .int .i64 (-1), .int .i64 (-1)] 35) := ⟨_, rfl⟩
  have HB5 : Hid (Below w.heap.size w w4) := by rw [hw4]; exact HB4.out.alloc HB4.out.size _
  have K5 : Hid (Blk w4 w1.heap.size 35 #[.int .i64 0, .int .i64 0, .int .i64 0, .int .i64 0, .int .i64 0, .int .i64 (-1), .int .i64 (-1)]) := by rw [hw4]; exact K4.out.alloc _
  have K6 : Hid (Blk w4 w3.heap.size 35 #[.int .i64 8, .int .i64 0, .int .i64 0, .int .i64 0, .int .i64 1, .int .i64 (-1), .int .i64 (-1)]) := by rw [hw4]; exact Blk.new w3 35 _
  go_upto_region 3 with (fail)
  rw [← hw4]
  clear hw4
  obtain ⟨g1, hg1⟩ : ∃ g, g = w1.heap.size := ⟨_, rfl⟩
  obtain ⟨g2, hg2⟩ : ∃ g, g = w3.heap.size := ⟨_, rfl⟩
  rw [← hg1] at K5 ⊢
  rw [← hg2] at K6 ⊢
  clear hg1 hg2 K4 K2 HB4 HB2 H1 H0 HB1 z0
  obtain ⟨k0, k1, k2, k3, k4, k5, k6⟩ := K5.out.c7
  obtain ⟨m0, m1, m2, m3, m4, m5, m6⟩ := K6.out.c7
  have z1 : g1 < w4.heap.size := K5.out.lt
  have z2 : g2 < w4.heap.size := K6.out.lt
  go_wp2
  go_ret
  exact ⟨rfl, HB5.out⟩
end Go.Proofs.Ytpdebnecfknohaa
