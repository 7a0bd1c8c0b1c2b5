/-
  What RuleDrafts leaves.
-/
import Derived.Test.YtpdebnecfknohaaDp
import Derived.Test.YtpdebnecfknohaaTad
import Derived.Test.YtpdebnecfknohaaMk
import Derived.Test.YtpdebnecfknohaaQm
namespace Go.Proofs.Ytpdebnecfknohaa
open Go.RowKit
set_option linter.unusedVariables false
set_option linter.unusedSimpArgs false
set_option maxRecDepth 20000

theorem told_none (wx : World) : Calls Try.prog 17 #[.agg #[.int .i64 0, .int .i64 0, .int .i64 0, .int .i64 0, .int .i64 0, .int .i64 (-1), .int .i64 (-1)], .int .i64 0, .int .i64 0, .int .i64 0] wx (BlB wx true) := by
  have := told_any 0 (-1) (-1) 0 0 0 wx
  rwa [fault0, show toldF (0, -1, -1) 0 0 0 = true from by decide] at this
theorem numsF_wf (l fr : List (List UInt8)) (x : List Int) (hl : l.length ≤ 1000000) : WfI (numsF l fr x) := fun n hn => by
  simp only [numsF, List.mem_map] at hn
  obtain ⟨a, _, rfl⟩ := hn
  have := numF_bound l (fr.getD a.toNat []) 0
  omega
theorem entsF_wf (E : Nat) : ∀ n, n ≤ 4 → WfI (entsF E n) := by
  intro n hn
  induction n with
  | zero => intro x hx; simp [entsF] at hx
  | succ n ih =>
    intro x hx
    rw [entsF] at hx
    split at hx
    · rcases List.mem_append.1 hx with h | h
      · exact ih (by omega) x h
      · simp at h; omega
    · exact ih (by omega) x hx
theorem made_wf (G F E : Nat) (acts : List Ac) : (canM (mkM (gnames (1 + G / 4 % 3) (G % 4)) (ints (G % 4)) F E acts)).Wf := by
  have h := mk_made (gnames (1 + G / 4 % 3) (G % 4)) F E G acts (gnames_len _ _)
  have hs : (canl (mkM (gnames (1 + G / 4 % 3) (G % 4)) (ints (G % 4)) F E acts)).length ≤ 1000000 := h.fit.strs
  refine ⟨h.fit.strs, ⟨h.fit.globs, numsF_wf _ _ _ hs⟩, ⟨h.fit.ents, entsF_wf E _ (by omega)⟩, h.fit.funcs, fun f hf => ?_, fun n hn => ?_⟩
  · have h1 := h.fit.fns f hf
    have h2 := h.small.body f hf
    obtain ⟨f0, _, rfl⟩ := List.mem_map.1 hf
    exact ⟨numsF_wf _ _ _ hs, numsF_wf _ _ _ hs, h1.locals, h1.sites, by omega, by omega⟩
  · obtain ⟨f, hf, rfl⟩ := List.mem_map.1 hn
    have := h.nums f hf
    omega
theorem answered {i : Nat} {v : Value} {w : World} (h : Calls Try.prog i #[v] w (FaB w (0, -1, -1))) : Calls Try.prog i #[v] w fun e w' => e = .returned (.agg #[.int .i64 0, .int .i64 0, .int .i64 0, .int .i64 0, .int .i64 0, .int .i64 (-1), .int .i64 (-1)]) ∧ Below w.heap.size w w' :=
  h.mono fun e w' hp => ⟨hp.1.trans (by rw [show faultV (0, -1, -1).1 (0, -1, -1).2.1 (0, -1, -1).2.2 = faultV 0 (-1) (-1) from rfl, fault0]), hp.2⟩
set_option maxHeartbeats 4000000 in
theorem drafts_walk (G F E : Nat) (Aa : Option Addr) (na ca : Nat) (acts : List Ac) (w : World) (hG : G < 256) (hF : F < 256) (hE : E < 256) (hna : acts.length = na) (hnl : na ≤ 9223372036854775807) (hacts : AcsAt w Aa acts) (hac : ∀ x ∈ acts, x.k < 256 ∧ x.a < 256 ∧ x.b < 256 ∧ x.c < 256) :
    Calls Try.prog 3 #[.agg #[.int .u8 (G : Int), .int .u8 (F : Int), .int .u8 (E : Int), .slice Aa na ca]] w fun e w' => e = .returned (.bool true) ∧ Below w.heap.size w w' := by
  have old : ∀ {wx : World} {A : Option Addr} {l : List Ac}, Below w.heap.size w wx → AcsAt w A l → AcsAt wx A l := fun hx h hp => by
    obtain ⟨b, o, hA, hc⟩ := h hp
    refine ⟨b, o, hA, fun i hi => ?_⟩
    obtain ⟨x0, x1, x2, x3⟩ := hc i hi
    have hl := World.block_lt_of_cell? w ⟨b, o + i * 4, none⟩ x0
    exact ⟨cell_old hx hl x0, cell_old hx hl x1, cell_old hx hl x2, cell_old hx hl x3⟩
  have hMa := fun wx (hx : Below w.heap.size w wx) => make_any G F E Aa na ca acts wx hG hF hE hna (old hx hacts) hac
  have hTr := made_ok G F E acts
  have hwf := made_wf G F E acts
  generalize canM (mkM (gnames (1 + G / 4 % 3) (G % 4)) (ints (G % 4)) F E acts) = M at hMa hTr hwf
  have HMa := Lib.hid hMa
  have HTr := Lib.hid hTr
  have HWf := Lib.hid hwf
  have HT := Lib.hid told_none
  obtain ⟨w1, hw1⟩ : ∃ w1, w1 = w.alloc (.cells #[.int .u8 (G : Int), .int .u8 (F : Int), .int .u8 (E : Int), .slice Aa na ca] 24) := ⟨_, rfl⟩
  have HB : Hid (Below w.heap.size w w1) := by rw [hw1]; exact (Below.refl _ _).alloc (Nat.le_refl _) _
  have K1 : Hid (Blk w1 w.heap.size 24 #[.int .u8 (G : Int), .int .u8 (F : Int), .int .u8 (E : Int), .slice Aa na ca]) := by rw [hw1]; exact Blk.new w 24 _
  clear hMa hTr hwf old hna hacts hac
  go_enter Try.func3, Try.ntmps3
  go_upto_region 1 with (fail)
  rw [← hw1]
  clear hw1
  go_wp2_with fail
  refine (awake6_any _).mono ?_
  rintro e w2 ⟨rfl, hb2⟩
  have HB2 := Lib.hid (HB.out.trans (hb2.mono HB.out.size))
  have K12 := Lib.hid (K1.out.old hb2)
  clear hb2 K1 HB
  obtain ⟨c0, c1, c2, c3⟩ := K12.out.c4
  have z1 : w.heap.size < w2.heap.size := K12.out.lt
  by_cases h60 : 60 < na
  · have h60i : (60 : Int) < (na : Int) := by omega
    go_wp2_with fail
    refine (awake6_any _).mono ?_
    rintro e w3 ⟨rfl, hb3⟩
    have HB3 := Lib.hid (HB2.out.trans (hb3.mono HB2.out.size))
    clear hb3
    go_wp2
    go_ret
    exact ⟨rfl, HB3.out⟩
  · have h60i : ¬ (60 : Int) < (na : Int) := by omega
    go_wp2_with fail
    refine (HMa.out w2 HB2.out).mono ?_
    intro e w3 hP
    obtain ⟨As, cs, Ag, cg, Af, cf, Ae, ce, rfl, hRx, hb3⟩ := hP.read
    have HB3 := Lib.hid (HB2.out.trans (hb3.mono HB2.out.size))
    have hTree := fun wx (hx : Below w3.heap.size w3 wx) => tree_any M As Ag Af Ae cs cg cf ce wx HWf.out (hRx.old hx)
    have hCheck := fun wx (hx : Below w3.heap.size w3 wx) => check_any M As Ag Af Ae cs cg cf ce wx HWf.out (hRx.old hx)
    rw [HTr.out.1] at hTree
    rw [HTr.out.2] at hCheck
    have hTree := fun wx hx => answered (hTree wx hx)
    have hCheck := fun wx hx => answered (hCheck wx hx)
    obtain ⟨ls, hls⟩ : ∃ n, n = M.strs.length := ⟨_, rfl⟩
    obtain ⟨ne, hne⟩ : ∃ n, n = M.ents.length := ⟨_, rfl⟩
    obtain ⟨nf, hnf⟩ : ∃ n, n = M.funcs.length := ⟨_, rfl⟩
    obtain ⟨ng, hng⟩ : ∃ n, n = M.globs.length := ⟨_, rfl⟩
    rw [← hls, ← hng, ← hnf, ← hne] at hTree hCheck ⊢
    have HTree := Lib.hid hTree
    have HCheck := Lib.hid hCheck
    clear hls hne hnf hng hTree hCheck hP hRx hb3 c0 c1 c2 c3 z1 K12 HMa HTr HWf HB2
    obtain ⟨w4, hw4⟩ : ∃ w4, w4 = w3.alloc (.cells #[.slice As ls cs, .slice Ag ng cg, .slice Af nf cf, .slice Ae ne ce] 30) := ⟨_, rfl⟩
    have HB4 : Hid (Below w3.heap.size w3 w4) := by rw [hw4]; exact (Below.refl _ _).alloc (Nat.le_refl _) _
    have K4 : Hid (Blk w4 w3.heap.size 30 #[.slice As ls cs, .slice Ag ng cg, .slice Af nf cf, .slice Ae ne ce]) := by rw [hw4]; exact Blk.new w3 30 _
    go_upto_region 4 with (fail)
    rw [← hw4]
    clear hw4
    obtain ⟨m0, m1, m2, m3⟩ := K4.out.c4
    have z1 : w3.heap.size < w4.heap.size := K4.out.lt
    go_wp2_with fail
    refine (HCheck.out w4 HB4.out).mono ?_
    rintro e w5 ⟨rfl, hb5⟩
    have HB5 := Lib.hid (HB4.out.trans (hb5.mono HB4.out.size))
    have K5 := Lib.hid (K4.out.old hb5)
    clear hb5 K4 HB4 m0 m1 m2 m3 z1
    go_wp2_with fail
    refine (HT.out _).mono ?_
    rintro e w6 ⟨rfl, hb6⟩
    have HB6 := Lib.hid (HB5.out.trans (hb6.mono HB5.out.size))
    have K6 := Lib.hid (K5.out.old hb6)
    clear hb6 K5 HB5
    obtain ⟨m0, m1, m2, m3⟩ := K6.out.c4
    have z1 : w3.heap.size < w6.heap.size := K6.out.lt
    go_wp2_with fail
    refine (HTree.out w6 HB6.out).mono ?_
    rintro e w7 ⟨rfl, hb7⟩
    have HB7 := Lib.hid (HB6.out.trans (hb7.mono HB6.out.size))
    clear hb7 K6 HB6 m0 m1 m2 m3 z1
    go_wp2_with fail
    refine (HT.out _).mono ?_
    rintro e w8 ⟨rfl, hb8⟩
    go_wp2
    go_ret
    exact ⟨rfl, HB3.out.trans ((HB7.out.trans (hb8.mono HB7.out.size)).mono HB3.out.size)⟩
end Go.Proofs.Ytpdebnecfknohaa
