/-
  What the module's own rules leave.
-/
import Derived.Test.YtpdebnecfknohaaTs
import Derived.Test.YtpdebnecfknohaaQe
import Derived.Deep.RegionHeld
namespace Go.Proofs.Ytpdebnecfknohaa
open Go.RowKit
set_option linter.unusedVariables false
set_option linter.unusedSimpArgs false
set_option maxRecDepth 20000

/-- The rule that a module's own lists break; 0: none. -/
def modF (M : Md) : Int :=
  if 40 < M.globs.length ∨ 40 < M.funcs.length ∨ 40 < M.ents.length then 2
  else if nmF M.strs [] M.globs ≠ 0 then nmF M.strs [] M.globs
  else if nmF M.strs [] (namesL M.funcs) ≠ 0 then nmF M.strs [] (namesL M.funcs)
  else entF M.funcs.length [] M.ents
/-- What is asked of a module that is read: its numbers are ints, its lists no longer than memory. -/
structure Md.Wf (M : Md) : Prop where
  strs : M.strs.length ≤ 1000000
  globs : M.globs.length ≤ 1000000 ∧ WfI M.globs
  ents : M.ents.length ≤ 1000000 ∧ WfI M.ents
  funcs : M.funcs.length ≤ 1000000
  fns : ∀ f ∈ M.funcs, WfI f.locals ∧ WfI f.sites ∧ f.locals.length ≤ 1000000 ∧ f.sites.length ≤ 1000000 ∧ f.body.size ≤ 1000000 ∧ f.body.wide ≤ 1000000
  names : WfI (namesL M.funcs)
set_option maxHeartbeats 4000000 in
theorem mod_any (M : Md) (As Ag Af Ae : Option Addr) (cs cg cf ce : Nat) (w : World) (hM : M.Wf) (h : MdR w As Ag Af Ae M) :
    Calls Try.prog 37 #[.agg #[.slice As M.strs.length cs, .slice Ag M.globs.length cg, .slice Af M.funcs.length cf, .slice Ae M.ents.length ce]] w (InB w (modF M)) := by
  obtain ⟨v, hv⟩ : ∃ v, v = modF M := ⟨_, rfl⟩
  rw [← hv]
  unfold modF at hv
  obtain ⟨S, Gl, L, E⟩ := M
  obtain ⟨w1', ⟨w2', w2i⟩, ⟨w3', w3i⟩, w4', _, w5'⟩ := hM
  dsimp only at *
  have hN1 := fun wx (hx : Below w.heap.size w wx) => names_any S As Ag Af Ae Ag cs Gl.length cg L.length cf E.length ce cg Gl wx ((h.strs).old hx (by omega)) w1' ((h.globs).old hx (by omega)) w2' w2i
  have hFn := fun wx (hx : Below w.heap.size w wx) => fnames_any As Ag Af Ae S.length cs Gl.length cg cf E.length ce L wx (h.funcs.old hx) w4'
  have hN2 := fun wx (hx : Below w.heap.size w wx) (A : Option Addr) (c : Nat) (hr : RdS (fun _ => True) wx A (namesL L).length 1 (intV (namesL L))) => names_any S As Ag Af Ae A cs Gl.length cg L.length cf E.length ce c (namesL L) wx ((h.strs).old hx (by omega)) w1' hr (by simp [namesL]; exact w4') w5'
  have hEn := fun wx (hx : Below w.heap.size w wx) => ents_any As Ag Af Ae S.length cs Gl.length cg L.length cf ce E wx ((h.ents).old hx (by omega)) w3' w3i
  obtain ⟨ls, hls⟩ : ∃ n, n = S.length := ⟨_, rfl⟩
  obtain ⟨ng, hng⟩ : ∃ n, n = Gl.length := ⟨_, rfl⟩
  obtain ⟨nf, hnf⟩ : ∃ n, n = L.length := ⟨_, rfl⟩
  obtain ⟨ne, hne⟩ : ∃ n, n = E.length := ⟨_, rfl⟩
  have hln : nf = (namesL L).length := by rw [hnf]; simp [namesL]
  have HLn := Lib.hid hln
  obtain ⟨r1, hr1⟩ : ∃ r, r = nmF S [] Gl := ⟨_, rfl⟩
  obtain ⟨r2, hr2⟩ : ∃ r, r = nmF S [] (namesL L) := ⟨_, rfl⟩
  obtain ⟨r3, hr3⟩ : ∃ r, r = entF nf [] E := ⟨_, rfl⟩
  rw [← hls, ← hng, ← hnf, ← hne] at hN1 hFn hN2 hEn
  rw [← hr1] at hN1
  rw [← hr2, ← hln] at hN2
  rw [← hr3] at hEn
  rw [← hng, ← hnf, ← hne, ← hr1, ← hr2, ← hr3] at hv
  rw [← hls, ← hng, ← hnf, ← hne]
  have HN1 := Lib.hid hN1
  have HFn := Lib.hid hFn
  have HN2 := Lib.hid hN2
  have HEn := Lib.hid hEn
  have HV := Lib.hid hv
  clear hN1 hFn hN2 hEn hv h w1' w2' w2i w3' w3i w4' w5' hls hng hnf hne hln hr1 hr2 hr3
  obtain ⟨w1, hw1⟩ : ∃ w1, w1 = w.alloc (.cells #[.slice As ls cs, .slice Ag ng cg, .slice Af nf cf, .slice Ae ne ce] 30) := ⟨_, rfl⟩
  have HB1 : Hid (Below w.heap.size w w1) := by rw [hw1]; exact (Below.refl _ _).alloc (Nat.le_refl _) _
  have K1 : Hid (Blk w1 w.heap.size 30 #[.slice As ls cs, .slice Ag ng cg, .slice Af nf cf, .slice Ae ne ce]) := by rw [hw1]; exact Blk.new w 30 _
  go_enter Try.func37, Try.ntmps37
  go_upto_region 1 with (fail)
  rw [← hw1]
  clear hw1
  obtain ⟨m0, m1, m2, m3⟩ := K1.out.c4
  have z1 : w.heap.size < w1.heap.size := K1.out.lt
  by_cases hg : 40 < ng
  · have hgi : (40 : Int) < (ng : Int) := by omega
    obtain rfl : v = 2 := by rw [HV.out, if_pos (.inl hg)]
    clear HV
    go_wp2
    go_ret
    exact ⟨rfl, HB1.out⟩
  have hgi : ¬ (40 : Int) < (ng : Int) := by omega
  by_cases hf : 40 < nf
  · have hfi : (40 : Int) < (nf : Int) := by omega
    obtain rfl : v = 2 := by rw [HV.out, if_pos (.inr (.inl hf))]
    clear HV
    go_wp2
    go_ret
    exact ⟨rfl, HB1.out⟩
  have hfi : ¬ (40 : Int) < (nf : Int) := by omega
  by_cases he : 40 < ne
  · have hei : (40 : Int) < (ne : Int) := by omega
    obtain rfl : v = 2 := by rw [HV.out, if_pos (.inr (.inr he))]
    clear HV
    go_wp2
    go_ret
    exact ⟨rfl, HB1.out⟩
  have hei : ¬ (40 : Int) < (ne : Int) := by omega
  have HV2 : Hid (v = if r1 ≠ 0 then r1 else if r2 ≠ 0 then r2 else r3) := by
    show _ = _
    rw [HV.out, if_neg (by omega)]
  clear HV
  go_wp2_with fail
  refine (HN1.out _ HB1.out).mono ?_
  rintro e w2 ⟨rfl, hb2⟩
  have HB2 := Lib.hid (HB1.out.trans (hb2.mono HB1.out.size))
  have L1 := Lib.hid (K1.out.old hb2)
  clear hb2 m0 m1 m2 m3 z1 K1
  by_cases h1 : r1 = 0
  · subst h1
    have HV3 : Hid (v = if r2 ≠ 0 then r2 else r3) := by
      show _ = _
      rw [HV2.out]; simp
    clear HV2
    obtain ⟨m0, m1, m2, m3⟩ := L1.out.c4
    have z1 : w.heap.size < w2.heap.size := L1.out.lt
    go_upto_region 6 with (fail)
    refine wp_region_held_drew (S := (fun W => Below w2.heap.size w2 W)) (by kernel_rfl) (Below.refl _ _).drew (fun hHeld => ?_)
    refine wpAnyH_take (i := 0) (oi := { dst := some 28, op := Op.load 30 (Operand.tmp 1), type := 30, pos := "rule.go:92", after := #[], guard := none }) (v := ?_) rfl (by kernel_rfl) (by kernel_rfl) (by kernel_rfl) (fun _ _ _ h => h) (Or.inl ⟨by rfl, ?_⟩) (by assumption) ?_
    rotate_left
    · (intro W hSW; (try dsimp only at hSW); have q0 := cell_old hSW z1 m0; have q1 := cell_old hSW z1 m1; have q2 := cell_old hSW z1 m2; have q3 := cell_old hSW z1 m3; go_simp; first | done | with_reducible rfl)
    try simp only [Act.put, List.setIfInBounds_toArray, List.set_cons_zero, List.set_cons_succ]
    refine wpAnyH_take (i := 1) (oi := { dst := some 29, op := Op.load 30 (Operand.tmp 1), type := 30, pos := "rule.go:92", after := #[], guard := none }) (v := ?_) rfl (by kernel_rfl) (by kernel_rfl) (by kernel_rfl) (fun _ _ _ h => h) (Or.inl ⟨by rfl, ?_⟩) (by assumption) ?_
    rotate_left
    · (intro W hSW; (try dsimp only at hSW); have q0 := cell_old hSW z1 m0; have q1 := cell_old hSW z1 m1; have q2 := cell_old hSW z1 m2; have q3 := cell_old hSW z1 m3; go_simp; first | done | with_reducible rfl)
    try simp only [Act.put, List.setIfInBounds_toArray, List.set_cons_zero, List.set_cons_succ]
    refine wpAnyH_ready (rs := [2]) (by kernel_rfl) (by simp) ?_
    refine AllReadyH.cons (o := { dst := some 30, op := Op.call { callee := Callee.value (Operand.func 60), args := #[Operand.tmp 29], argTypes := #[30] }, type := 27, pos := "rule.go:92", after := #[{ on := 1, ground := Ground.data }], guard := none }) rfl (fun KQ hKQ => ?_) AllReadyH.nil
    go_simp
    refine (HFn.out _ (HB2.out.trans (hHeld.mono HB2.out.size))).mono ?_
    rintro e w3 ⟨A3, c3, rfl, hO3, hb3⟩
    rw [← HLn.out] at hO3 ⊢
    have hS3 : Below w2.heap.size w2 w3 := hHeld.trans (hb3.mono hHeld.size)
    refine hKQ.out _ _ hS3 (fun _ => ?_)
    clear hKQ KQ
    try simp only [Act.put, List.setIfInBounds_toArray, List.set_cons_zero, List.set_cons_succ]
    have hN := HN2.out w3 (HB2.out.trans (hS3.mono HB2.out.size)) A3 c3 ((RdS.own hO3).below (fun _ _ => trivial))
    refine wpAnyH_ready (rs := [3]) (by kernel_rfl) (by simp) ?_
    refine AllReadyH.cons (o := { dst := some 31, op := Op.call { callee := Callee.value (Operand.func 59), args := #[Operand.tmp 28, Operand.tmp 30], argTypes := #[30, 27] }, type := 3, pos := "rule.go:92", after := #[{ on := 0, ground := Ground.data }, { on := 2, ground := Ground.data }, { on := 2, ground := Ground.chain }], guard := none }) rfl (fun KQ hKQ => ?_) AllReadyH.nil
    go_simp
    refine hN.mono ?_
    rintro e w4 ⟨rfl, hb4⟩
    have hS4 : Below w2.heap.size w2 w4 := hS3.trans (hb4.mono hS3.size)
    refine hKQ.out _ _ hS4 (fun _ => ?_)
    clear hKQ KQ hN
    try simp only [Act.put, List.setIfInBounds_toArray, List.set_cons_zero, List.set_cons_succ]
    refine wpAnyH_take (i := 4) (oi := { dst := some 4, op := Op.assign (Operand.tmp 31), type := 3, pos := "rule.go:92", after := #[{ on := 3, ground := Ground.data }, { on := 3, ground := Ground.chain }, { on := 0, ground := Ground.phase }, { on := 1, ground := Ground.phase }, { on := 2, ground := Ground.phase }, { on := 3, ground := Ground.phase }], guard := none }) (v := ?_) rfl (by kernel_rfl) (by kernel_rfl) (by kernel_rfl) (fun _ _ _ h => h) (Or.inl ⟨by rfl, ?_⟩) (by assumption) ?_
    rotate_left
    · (intro W hSW; (try dsimp only at hSW); go_simp; first | done | with_reducible rfl)
    try simp only [Act.put, List.setIfInBounds_toArray, List.set_cons_zero, List.set_cons_succ]
    refine wpAnyH_done (by kernel_rfl) ?_ _
    have HS4 := Lib.hid hS4
    clear hHeld hS3 hS4 hO3 hb3 hb4 m0 m1 m2 m3 z1
    have HB4 := Lib.hid (HB2.out.trans (HS4.out.mono HB2.out.size))
    have M1 := Lib.hid (L1.out.old HS4.out)
    by_cases h2 : r2 = 0
    · subst h2
      obtain rfl : v = r3 := by rw [HV3.out]; simp
      clear HV3
      obtain ⟨m0, m1, m2, m3⟩ := M1.out.c4
      have z1 : w.heap.size < w4.heap.size := M1.out.lt
      go_wp2_with fail
      refine (HEn.out _ HB4.out).mono ?_
      rintro e w5 ⟨rfl, hb5⟩
      have HB5 := Lib.hid (HB4.out.trans (hb5.mono HB4.out.size))
      clear hb5 m0 m1 m2 m3 z1
      go_wp2
      go_ret
      exact ⟨rfl, HB5.out⟩
    · obtain rfl : v = r2 := by rw [HV3.out, if_pos h2]
      have g0 : (v == 0) = false := by simpa using h2
      have g1 : (v != 0) = true := by simpa using h2
      clear HV3
      go_wp2
      go_ret
      exact ⟨rfl, HB4.out⟩
  · obtain rfl : v = r1 := by rw [HV2.out, if_pos h1]
    have g0 : (v == 0) = false := by simpa using h1
    have g1 : (v != 0) = true := by simpa using h1
    clear HV2
    go_wp2
    go_ret
    exact ⟨rfl, HB2.out⟩
end Go.Proofs.Ytpdebnecfknohaa
