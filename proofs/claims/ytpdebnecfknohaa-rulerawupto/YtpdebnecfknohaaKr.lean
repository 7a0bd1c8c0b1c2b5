/-
  What RuleRaw leaves.
-/
import Derived.Test.YtpdebnecfknohaaKs
import Derived.Test.YtpdebnecfknohaaKca
namespace Go.Proofs.Ytpdebnecfknohaa
open Go.RowKit
set_option linter.unusedVariables false
set_option linter.unusedSimpArgs false
set_option maxRecDepth 20000

theorem check_zero9 (M : Md) (h : (checkF M).1 = 0) : checkF M = (0, -1, -1) := by
  unfold checkF at h ⊢
  split at h
  · rename_i h1; exact absurd h h1
  · rename_i h1
    rw [if_neg h1]
    split at h
    · rename_i h2; rw [if_pos h2]
    · simp at h
theorem tree_zero9 (M : Md) (h : (treeF M).1 = 0) : treeF M = (0, -1, -1) := (treeF_in M h).1
theorem told_self9 (v : Int × Int × Int) (h : v.1 = 0 → v = (0, -1, -1)) : toldF (v.1, v.2.1, v.2.2) v.1 v.2.1 v.2.2 = true := by
  by_cases h0 : v.1 = 0
  · rw [h h0]; rfl
  · simp [toldF, h0]
/-- What is asked of a module that is handed in. -/
structure Md.In (M : Md) : Prop where
  globs : WfI M.globs
  ents : WfI M.ents
  names : WfI (namesL M.funcs)
  fns : ∀ f ∈ M.funcs, WfI f.locals ∧ WfI f.sites ∧ f.body.size ≤ 1000000 ∧ f.body.wide ≤ 1000000 ∧ f.body.fit
def goodF (f : Fn) : Prop := f.locals.length ≤ 60 ∧ f.sites.length ≤ 60 ∧ shF f.body 0 = true
theorem Md.In.wf {M : Md} (h : M.In) (h1 : M.strs.length ≤ 60) (h2 : M.globs.length ≤ 60) (h3 : M.funcs.length ≤ 50) (h4 : M.ents.length ≤ 50) (hg : ∀ f ∈ M.funcs, goodF f) : M.Wf :=
  ⟨by omega, ⟨by omega, h.globs⟩, ⟨by omega, h.ents⟩, by omega, fun f hf => by
    obtain ⟨a, b, c, d, _⟩ := h.fns f hf
    obtain ⟨g1, g2, _⟩ := hg f hf
    exact ⟨a, b, by omega, by omega, c, d⟩, h.names⟩
theorem Md.In.low {M : Md} (h : M.In) (hg : ∀ f ∈ M.funcs, goodF f) : ∀ f ∈ M.funcs, ∀ x ∈ f.body.flat 0, x.Low := fun f hf => shF_low _ (h.fns f hf).2.2.2.2 (hg f hf).2.2
theorem told_all (v : Int × Int × Int) (hv : v.1 = 0 → v = (0, -1, -1)) (wx : World) : Calls Try.prog 17 #[faultV v.1 v.2.1 v.2.2, .int .i64 v.1, .int .i64 v.2.1, .int .i64 v.2.2] wx (BlB wx true) := by
  have := told_any v.1 v.2.1 v.2.2 v.1 v.2.1 v.2.2 wx
  rwa [told_self9 v hv] at this
set_option maxHeartbeats 4000000 in
theorem raw_walk (M : Md) (As Ag Af Ae : Option Addr) (cs cg cf ce : Nat) (w : World) (hM : M.In) (h : MdR w As Ag Af Ae M) :
    Calls Try.prog 4 #[.agg #[.slice As M.strs.length cs, .slice Ag M.globs.length cg, .slice Af M.funcs.length cf, .slice Ae M.ents.length ce]] w fun e w' => e = .returned (.bool true) ∧ Below w.heap.size w w' := by
  have HM := Lib.hid h
  have HI := Lib.hid hM
  have HF0 := Lib.hid h.funcs
  obtain ⟨ns, hns⟩ : ∃ n, n = M.strs.length := ⟨_, rfl⟩
  obtain ⟨ng, hng⟩ : ∃ n, n = M.globs.length := ⟨_, rfl⟩
  obtain ⟨nf, hnf⟩ : ∃ n, n = M.funcs.length := ⟨_, rfl⟩
  obtain ⟨ne, hne⟩ : ∃ n, n = M.ents.length := ⟨_, rfl⟩
  have HNs := Lib.hid hns
  have HNg := Lib.hid hng
  have HNf := Lib.hid hnf
  have HNe := Lib.hid hne
  rw [← hns, ← hng, ← hnf, ← hne]
  clear hns hng hnf hne h hM
  have HB0 : Hid (Below w.heap.size w (w.alloc (.cells #[.slice As ns cs, .slice Ag ng cg, .slice Af nf cf, .slice Ae ne ce] 30))) := (Below.refl _ _).alloc (Nat.le_refl _) _
  have KM : Hid (Blk (w.alloc (.cells #[.slice As ns cs, .slice Ag ng cg, .slice Af nf cf, .slice Ae ne ce] 30)) w.heap.size 30 #[.slice As ns cs, .slice Ag ng cg, .slice Af nf cf, .slice Ae ne ce]) := Blk.new w 30 _
  go_enter Try.func4, Try.ntmps4
  go_wp2_with fail
  generalize w.alloc (.cells #[.slice As ns cs, .slice Ag ng cg, .slice Af nf cf, .slice Ae ne ce] 30) = W0 at *
  refine (awake6_any _).mono ?_
  rintro e w1 ⟨rfl, hb1⟩
  have zz : w.heap.size < W0.heap.size := KM.out.lt
  have HB1 : Hid (Below w.heap.size w w1) := HB0.out.trans (hb1.mono (by omega))
  have K1 := Lib.hid (KM.out.old hb1)
  clear hb1 zz HB0 KM
  have HAw := fun wx => awake6_any wx
  by_cases c1 : ns ≤ 60
  rotate_left
  · obtain ⟨m0, m1, m2, m3⟩ := K1.out.c4
    have l1 : 60 < (ns : Int) := by omega
    go_wp2_with fail
    refine (HAw _).mono ?_
    rintro e w2 ⟨rfl, hb2⟩
    go_wp2
    go_ret
    exact ⟨rfl, HB1.out.trans (hb2.mono (by have := K1.out.lt; omega))⟩
  by_cases c2 : ng ≤ 60
  rotate_left
  · obtain ⟨m0, m1, m2, m3⟩ := K1.out.c4
    have l1 : ¬ 60 < (ns : Int) := by omega
    have l2 : 60 < (ng : Int) := by omega
    go_wp2_with fail
    refine (HAw _).mono ?_
    rintro e w2 ⟨rfl, hb2⟩
    go_wp2
    go_ret
    exact ⟨rfl, HB1.out.trans (hb2.mono (by have := K1.out.lt; omega))⟩
  by_cases c3 : nf ≤ 50
  rotate_left
  · obtain ⟨m0, m1, m2, m3⟩ := K1.out.c4
    have l1 : ¬ 60 < (ns : Int) := by omega
    have l2 : ¬ 60 < (ng : Int) := by omega
    have l3 : 50 < (nf : Int) := by omega
    go_wp2_with fail
    refine (HAw _).mono ?_
    rintro e w2 ⟨rfl, hb2⟩
    go_wp2
    go_ret
    exact ⟨rfl, HB1.out.trans (hb2.mono (by have := K1.out.lt; omega))⟩
  by_cases c4 : ne ≤ 50
  rotate_left
  · obtain ⟨m0, m1, m2, m3⟩ := K1.out.c4
    have l1 : ¬ 60 < (ns : Int) := by omega
    have l2 : ¬ 60 < (ng : Int) := by omega
    have l3 : ¬ 50 < (nf : Int) := by omega
    have l4 : 50 < (ne : Int) := by omega
    go_wp2_with fail
    refine (HAw _).mono ?_
    rintro e w2 ⟨rfl, hb2⟩
    go_wp2
    go_ret
    exact ⟨rfl, HB1.out.trans (hb2.mono (by have := K1.out.lt; omega))⟩
  have z1 := K1.out.lt
  have KB : Hid (Below w1.heap.size w1 w1) := Below.refl _ _
  have l1 : ¬ 60 < (ns : Int) := by omega
  have l2 : ¬ 60 < (ng : Int) := by omega
  have l3 : ¬ 50 < (nf : Int) := by omega
  have l4 : ¬ 50 < (ne : Int) := by omega
  obtain ⟨m0, m1, m2, m3⟩ := K1.out.c4
  go_wp2_with fail
  clear m0 m1 m2 m3 HAw l1 l2 l3 l4
  go_loopw [3] (fun s3 wr => ∃ (i : Nat), i ≤ nf ∧ s3 = .int .i64 (i : Int) ∧ w1 = wr ∧ Hid (∀ j (hj : j < i) (hl : j < M.funcs.length), goodF M.funcs[j])) (fun s3 _ => nf - (intOf s3).toNat)
  case atStart => exact ⟨0, Nat.zero_le _, rfl, rfl, fun j hj => by omega⟩
  case round =>
    obtain ⟨i, hi, rfl, rfl, hP⟩ := hrel
    by_cases hlt : i < nf
    · have hli : (i : Int) < (nf : Int) := by omega
      have hlm : i < M.funcs.length := by rw [← HNf.out]; exact hlt
      obtain ⟨b, o, A1, a1, A2, a2, A3, a3, rfl, hbl, ⟨f0, f1, f2, f3, f4⟩, _, _, hbody⟩ := HF0.out.at_ (HB1.out) i hlm
      have hfi := HI.out.fns _ (List.getElem_mem hlm)
      have HSh := Lib.hid (short_any M.funcs[i].body A3 a3 0 w1 (by omega) (by omega) (by omega) hbody)
      have HGd : Hid (goodF M.funcs[i] ↔ M.funcs[i].locals.length ≤ 60 ∧ M.funcs[i].sites.length ≤ 60 ∧ shF M.funcs[i].body 0 = true) := Iff.rfl
      generalize M.funcs[i].locals.length = nl at f2 HGd
      generalize M.funcs[i].sites.length = nt at f3 HGd
      generalize M.funcs[i].body.len = nb at f4 HSh
      generalize shF M.funcs[i].body 0 = sv at HSh HGd
      clear hbody hfi
      obtain ⟨m0, m1, m2, m3⟩ := K1.out.c4
      by_cases d1 : nl ≤ 60
      rotate_left
      · have e1 : 60 < (nl : Int) := by omega
        go_wp2
        go_ret
        exact ⟨rfl, HB1.out⟩
      by_cases d2 : nt ≤ 60
      rotate_left
      · have e1 : ¬ 60 < (nl : Int) := by omega
        have e2 : 60 < (nt : Int) := by omega
        go_wp2
        go_ret
        exact ⟨rfl, HB1.out⟩
      have e1 : ¬ 60 < (nl : Int) := by omega
      have e2 : ¬ 60 < (nt : Int) := by omega
      go_wp2_with fail
      refine HSh.out.mono ?_
      rintro e w2 ⟨rfl, rfl⟩
      cases sv with
      | false =>
        go_wp2
        go_ret
        exact ⟨rfl, HB1.out⟩
      | true =>
        have HP2 : Hid (∀ j (hj : j < i + 1) (hl : j < M.funcs.length), goodF M.funcs[j]) := fun j hj hl => by
          by_cases hji : j < i
          · exact hP.out j hji hl
          · obtain rfl : j = i := by omega
            exact HGd.out.2 ⟨d1, d2, rfl⟩
        clear HGd HSh hP
        go_wp2
        go_roundw
        case rel => exact ⟨i + 1, by omega, by go_num, by first | rfl | trivial, HP2⟩
        case measure => simp [intOf]; omega
    · obtain rfl : i = nf := by omega
      have hgood : ∀ f ∈ M.funcs, goodF f := fun f hf => by
        obtain ⟨j, hj, rfl⟩ := List.getElem_of_mem hf
        exact hP.out j (by have := HNf.out; omega) hj
      have hwf := HI.out.wf (by have := HNs.out; omega) (by have := HNg.out; omega) (by have := HNf.out; omega) (by have := HNe.out; omega) hgood
      have hlow := HI.out.low hgood
      have hMR := fun wx (hx : Below w.heap.size w wx) => HM.out.old hx
      have HRt : Hid (∀ wx, Below w.heap.size w wx → Calls Try.prog 21 #[.agg #[.slice As ns cs, .slice Ag ng cg, .slice Af i cf, .slice Ae ne ce]] wx (TriB wx (treeF M))) := fun wx hx => by
        rw [HNs.out, HNg.out, HNf.out, HNe.out]; exact rtree_any M As Ag Af Ae cs cg cf ce wx hwf (hMR wx hx) hlow
      have HRc : Hid (∀ wx, Below w.heap.size w wx → Calls Try.prog 22 #[.agg #[.slice As ns cs, .slice Ag ng cg, .slice Af i cf, .slice Ae ne ce]] wx (TriB wx (checkF M))) := fun wx hx => by
        rw [HNs.out, HNg.out, HNf.out, HNe.out]; exact rcheck_any M As Ag Af Ae cs cg cf ce wx hwf (hMR wx hx) hlow
      have HTr : Hid (∀ wx, Below w.heap.size w wx → Calls Try.prog 19 #[.agg #[.slice As ns cs, .slice Ag ng cg, .slice Af i cf, .slice Ae ne ce]] wx (FaB wx (treeF M))) := fun wx hx => by
        rw [HNs.out, HNg.out, HNf.out, HNe.out]; exact tree_any M As Ag Af Ae cs cg cf ce wx hwf (hMR wx hx)
      have HTc : Hid (∀ wx, Below w.heap.size w wx → Calls Try.prog 18 #[.agg #[.slice As ns cs, .slice Ag ng cg, .slice Af i cf, .slice Ae ne ce]] wx (FaB wx (checkF M))) := fun wx hx => by
        rw [HNs.out, HNg.out, HNf.out, HNe.out]; exact check_any M As Ag Af Ae cs cg cf ce wx hwf (hMR wx hx)
      have HT1 := Lib.hid (told_all (treeF M) (tree_zero9 M))
      have HT2 := Lib.hid (told_all (checkF M) (check_zero9 M))
      generalize treeF M = u at *
      generalize checkF M = v at *
      obtain ⟨u0, u1, u2⟩ := u
      obtain ⟨v0, v1, v2⟩ := v
      dsimp only at HT1 HT2
      clear hwf hlow hMR hgood hP HM HI HF0 HNs HNg HNf HNe
      obtain ⟨m0, m1, m2, m3⟩ := K1.out.c4
      go_wp2_with fail
      refine (HRt.out _ HB1.out).mono ?_
      rintro e w2 ⟨rfl, hb2⟩
      have HB2 := Lib.hid (HB1.out.trans (hb2.mono (by omega)))
      have K2 := Lib.hid (K1.out.old hb2)
      have z2 := K2.out.lt
      clear hb2 m0 m1 m2 m3 HB1 K1 z1 HRt KB
      dsimp only
      obtain ⟨m0, m1, m2, m3⟩ := K2.out.c4
      go_wp2_with fail
      refine (HRc.out _ HB2.out).mono ?_
      rintro e w3 ⟨rfl, hb3⟩
      have HB3 := Lib.hid (HB2.out.trans (hb3.mono (by omega)))
      have K3 := Lib.hid (K2.out.old hb3)
      have z3 := K3.out.lt
      clear hb3 m0 m1 m2 m3 HB2 K2 z2 HRc
      dsimp only
      obtain ⟨m0, m1, m2, m3⟩ := K3.out.c4
      go_wp2_with fail
      refine (HTr.out _ HB3.out).mono ?_
      rintro e w4 ⟨rfl, hb4⟩
      have HB4 := Lib.hid (HB3.out.trans (hb4.mono (by omega)))
      have K4 := Lib.hid (K3.out.old hb4)
      have z4 := K4.out.lt
      clear hb4 m0 m1 m2 m3 HB3 K3 z3 HTr
      dsimp only
      go_wp2_with fail
      refine (HT1.out _).mono ?_
      rintro e w5 ⟨rfl, hb5⟩
      have HB5 := Lib.hid (HB4.out.trans (hb5.mono (by omega)))
      have K5 := Lib.hid (K4.out.old hb5)
      have z5 := K5.out.lt
      clear hb5 HB4 K4 z4 HT1
      obtain ⟨m0, m1, m2, m3⟩ := K5.out.c4
      go_wp2_with fail
      refine (HTc.out _ HB5.out).mono ?_
      rintro e w6 ⟨rfl, hb6⟩
      have HB6 := Lib.hid (HB5.out.trans (hb6.mono (by omega)))
      have z6 : w.heap.size < w6.heap.size := Nat.lt_of_lt_of_le z5 hb6.size
      clear hb6 m0 m1 m2 m3 HB5 K5 z5 HTc
      dsimp only
      go_wp2_with fail
      refine (HT2.out _).mono ?_
      rintro e w7 ⟨rfl, hb7⟩
      have HB7 := HB6.out.trans (hb7.mono (by omega))
      go_wp2
      go_ret
      exact ⟨rfl, HB7⟩
end Go.Proofs.Ytpdebnecfknohaa
