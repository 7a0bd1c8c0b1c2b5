/-
  RuleNear: the walk, changes 7 to 9.
-/
import Derived.Deep.RegionLaw
import Derived.Test.YtpdebnecfknohaaRn00
import Derived.Test.YtpdebnecfknohaaRn01
import Derived.Test.YtpdebnecfknohaaRn02
import Derived.Test.YtpdebnecfknohaaRn03
import Derived.Test.YtpdebnecfknohaaRn04
import Derived.Test.YtpdebnecfknohaaRn05
import Derived.Test.YtpdebnecfknohaaRn06
import Derived.Test.YtpdebnecfknohaaRn07
import Derived.Test.YtpdebnecfknohaaRn08
import Derived.Test.YtpdebnecfknohaaRn09
import Derived.Test.YtpdebnecfknohaaRn10
import Derived.Test.YtpdebnecfknohaaRn11
import Derived.Test.YtpdebnecfknohaaRn12
import Derived.Test.YtpdebnecfknohaaRn13
import Derived.Test.YtpdebnecfknohaaRn14
namespace Go.Proofs.Ytpdebnecfknohaa
open Go.RowKit
set_option linter.unusedVariables false
set_option linter.unusedSimpArgs false
set_option maxRecDepth 20000
set_option maxHeartbeats 8000000 in
theorem near_walkB (G F E : Nat) (Aa : Option Addr) (na ca how at_ : Nat) (n rk rid : Int) (acts : List Ac) (w : World) (hG : G < 256) (hF : F < 256) (hE : E < 256) (hhow : how < 256) (hat : at_ < 256) (hn : -9223372036854775808 ≤ n ∧ n ≤ 9223372036854775807) (hrk : 0 ≤ rk ∧ rk ≤ 255) (hrid : -9223372036854775808 ≤ rid ∧ rid ≤ 9223372036854775807) (hna : acts.length = na) (hnl : na ≤ 9223372036854775807) (hacts : AcsAt w Aa acts) (hac : ∀ x ∈ acts, x.k < 256 ∧ x.a < 256 ∧ x.b < 256 ∧ x.c < 256) (hgrp : 7 ≤ how % 16 ∧ how % 16 < 10) :
    Calls Try.prog 5 #[.agg #[.int .u8 (G : Int), .int .u8 (F : Int), .int .u8 (E : Int), .slice Aa na ca], .int .u8 (how : Int), .int .u8 (at_ : Int), .int .i64 n, .agg #[.int .u8 rk, .int .i64 rid]] w fun e w' => e = .returned (.bool true) ∧ Below w.heap.size w w' := by
  have hmd := mk_made (gnames (1 + G / 4 % 3) (G % 4)) F E G acts (gnames_len _ _)
  have hMa := fun wx (hx : Below w.heap.size w wx) => (make_anyP G F E Aa na ca acts wx hG hF hE hna (acs_old9 hx hacts) hac).mono fun e w' h => h.near hmd.small.fns.1
  have hok := made_okM G F E acts
  have hsi := made_sits G F E acts
  have hfe := made_few G F E acts
  have hbo := hmd.small.body
  have hpos := hmd.strs
  have hfn := hmd.small.fns.1
  clear hmd
  generalize canM (mkM (gnames (1 + G / 4 % 3) (G % 4)) (ints (G % 4)) F E acts) = M at hMa hok hsi hfe hbo hpos hfn
  obtain ⟨ls, hls⟩ : ∃ n, n = M.strs.length := ⟨_, rfl⟩
  obtain ⟨ne, hne⟩ : ∃ n, n = M.ents.length := ⟨_, rfl⟩
  obtain ⟨nf, hnf⟩ : ∃ n, n = M.funcs.length := ⟨_, rfl⟩
  obtain ⟨ng, hng⟩ : ∃ n, n = M.globs.length := ⟨_, rfl⟩
  simp only [← hls, ← hng, ← hnf, ← hne] at hMa hfn hpos
  have hlim := hok.strs
  have hlim2 := hok.globs.1
  have hlim3 := hok.ents.1
  have hlim4 := hok.funcs
  simp only [← hls, ← hng, ← hnf, ← hne] at hlim hlim2 hlim3 hlim4
  have HLs := Lib.hid hls
  have HNg := Lib.hid hng
  have HNf := Lib.hid hnf
  have HNe := Lib.hid hne
  have HMa := Lib.hid hMa
  have HOk := Lib.hid hok
  have HSi := Lib.hid hsi
  have HFe := Lib.hid hfe
  have HBo := Lib.hid hbo
  obtain ⟨w1, hw1⟩ : ∃ w1, w1 = (w.alloc (.cells #[.int .u8 (G : Int), .int .u8 (F : Int), .int .u8 (E : Int), .slice Aa na ca] 24)).alloc (.cells #[.int .u8 rk, .int .i64 rid] 46) := ⟨_, rfl⟩
  have HB : Hid (Below w.heap.size w w1) := by rw [hw1]; exact ((Below.refl _ _).alloc (Nat.le_refl _) _).alloc (by simp) _
  have K1 : Hid (Blk w1 w.heap.size 24 #[.int .u8 (G : Int), .int .u8 (F : Int), .int .u8 (E : Int), .slice Aa na ca]) := by rw [hw1]; exact (Blk.new w 24 _).alloc _
  have KR : Hid (Blk w1 (w.heap.size + 1) 46 #[.int .u8 rk, .int .i64 rid]) := by rw [hw1]; exact Blk.new' _ 46 _ _ (by simp)
  clear hMa hok hsi hfe hbo hls hng hnf hne hna hacts hac
  go_enter Try.func5, Try.ntmps5
  go_upto_region 1 with (fail)
  rw [← hw1]
  clear hw1
  go_wp2_with fail
  refine (awake6_any _).mono ?_
  rintro e w2 ⟨rfl, hb2⟩
  have HB2 := Lib.hid (HB.out.trans (hb2.mono HB.out.size))
  have K12 := Lib.hid (K1.out.old hb2)
  have KR2 := Lib.hid (KR.out.old hb2)
  clear hb2 K1 KR HB
  obtain ⟨c0, c1, c2, c3⟩ := K12.out.c4
  have z1 : w.heap.size < w2.heap.size := K12.out.lt
  have r0 := KR2.out.cell 0
  have r1 := KR2.out.cell 1
  simp at r0 r1
  have z2 : w.heap.size + 1 < w2.heap.size := KR2.out.lt
  by_cases h60 : 60 < na
  · have h60i : (60 : Int) < (na : Int) := by omega
    go_wp2_with fail
    refine (awake6_any _).mono ?_
    rintro e w3 ⟨rfl, hb3⟩
    have HB3 := Lib.hid (HB2.out.trans (hb3.mono HB2.out.size))
    clear hb3
    go_wp2
    go_ret
    exact ⟨rfl, HB3.out⟩
  · have h60i : ¬ (60 : Int) < (na : Int) := by omega
    by_cases h4 : 4 < rk
    · go_wp2_with fail
      refine (awake6_any _).mono ?_
      rintro e w3 ⟨rfl, hb3⟩
      have HB3 := Lib.hid (HB2.out.trans (hb3.mono HB2.out.size))
      clear hb3
      go_wp2
      go_ret
      exact ⟨rfl, HB3.out⟩
    · go_wp2_with fail
      refine (HMa.out w2 HB2.out).mono ?_
      rintro e w3 ⟨As, cs, Ag, cg, q, cf, Ae, ce, Vs, Ts, rfl, hb3, hN⟩
      obtain ⟨w4, hw4⟩ : ∃ w4, w4 = w3.alloc (.cells #[.slice As ls cs, .slice Ag ng cg, .slice (some ⟨q, 0, none⟩) nf cf, .slice Ae ne ce] 30) := ⟨_, rfl⟩
      rw [← hw4] at hN
      have hb4 : Below w3.heap.size w3 w4 := by rw [hw4]; exact (Below.refl _ _).alloc (Nat.le_refl _) _
      have HB4 := Lib.hid (HB2.out.trans ((hb3.trans (hb4.mono hb3.size)).mono HB2.out.size))
      have KR4 := Lib.hid (KR2.out.old (hb3.trans (hb4.mono hb3.size)))
      have hN := hN.cut
      have hlV : (Vs.take M.funcs.length).length ≤ M.funcs.length := by rw [List.length_take]; omega
      generalize Vs.take M.funcs.length = Us at hN hlV
      have HN4 := Lib.hid hN
      have HVl := Lib.hid hlV
      have hw02 : Hid (w.heap.size ≤ w2.heap.size) := HB2.out.size
      clear hN hlV hb3 hb4 c0 c1 c2 c3 z1 z2 r0 r1 K12 KR2 HMa HB2
      go_upto_region 4 with (fail)
      rw [← hw4]
      obtain ⟨g, hg⟩ : ∃ g, g = w3.heap.size := ⟨_, rfl⟩
      rw [← hg] at HN4
      try simp only [← hg]
      clear hg hw4
      have KM : Hid (Blk w4 g 30 #[.slice As ls cs, .slice Ag ng cg, .slice (some ⟨q, 0, none⟩) nf cf, .slice Ae ne ce]) := by rw [HLs.out, HNg.out, HNf.out, HNe.out]; exact HN4.out.box
      obtain ⟨m0, m1, m2, m3⟩ := KM.out.c4
      have z1 : g < w4.heap.size := KM.out.lt
      obtain ⟨j, hj⟩ : ∃ j, j = at_ % nf := ⟨_, rfl⟩
      have hjn : j < nf := by rw [hj]; exact Nat.mod_lt _ hfn
      have et : ((at_ : Int)).tmod (nf : Int) = (j : Int) := by rw [hj]; exact u8mod at_ nf hfn
      have ee : ((at_ : Int)) % (nf : Int) = (j : Int) := by rw [hj]; simp
      have hnf0 : ¬ (nf : Int) = 0 := by omega
      have hjm : ((at_ % nf : Nat) : Int) = (j : Int) := by rw [hj]
      clear hj
      go_quiet (fail)
      obtain ⟨w5, hw5⟩ : ∃ w5, w5 = w4.drewN nq := ⟨_, rfl⟩
      have hb5 : Below w4.heap.size w4 w5 := by rw [hw5]; exact below_dN _ _ _
      have HB5 := Lib.hid (HB4.out.trans (hb5.mono HB4.out.size))
      have HN5 := Lib.hid (HN4.out.old hb5)
      have KR5 := Lib.hid (KR4.out.old hb5)
      have KM5 := Lib.hid (KM.out.old hb5)
      rw [← hw5]
      clear hw5 hb5 HN4 KR4 KM m0 m1 m2 m3 z1 HB4
      have hjM : j < M.funcs.length := by have := HNf.out; omega
      obtain ⟨Al, cl, At, ct, Ab, cb, T, hC, hRl, hRt, hRb, hV, hT, hbT, hR⟩ := HN5.out.fn_of HVl.out j hjM
      have hsz := HBo.out _ (List.getElem_mem hjM)
      have hsit := HSi.out _ (List.getElem_mem hjM)
      have hfew := HFe.out.2.2.2 _ (List.getElem_mem hjM)
      have hokf := HOk.out.fns _ (List.getElem_mem hjM)
      obtain ⟨f, hf⟩ : ∃ f, f = M.funcs[j] := ⟨_, rfl⟩
      rw [← hf] at hC hRl hRt hRb hV hbT hsz hsit hfew hokf
      rw [← hf] at hR
      have hbl : f.body.len ≤ 1000 := by have := Bd.len_le f.body; omega
      have HFn := Lib.hid (And.intro hRl (And.intro hRt (And.intro hRb hC)))
      obtain ⟨nl, hnl⟩ : ∃ n, n = f.locals.length := ⟨_, rfl⟩
      obtain ⟨nt, hnt⟩ : ∃ n, n = f.sites.length := ⟨_, rfl⟩
      obtain ⟨nb, hnb⟩ : ∃ n, n = f.body.len := ⟨_, rfl⟩
      rw [← hnl] at hRl hfew
      rw [← hnt] at hRt hsit hfew
      rw [← hnb] at hV hR hbl
      rw [← hnl, ← hnt, ← hnb] at hC
      have HF := Lib.hid hf
      have HNl := Lib.hid hnl
      have HNt := Lib.hid hnt
      have HNb := Lib.hid hnb
      have HC := Lib.hid hC
      have HRl := Lib.hid hRl
      have HRt := Lib.hid hRt
      have HRb := Lib.hid hRb
      have HV := Lib.hid hV
      have HT := Lib.hid hT
      have HbT := Lib.hid hbT
      have HR := Lib.hid hR
      have HSz := Lib.hid hsz
      have HOf := Lib.hid hokf
      have hsit0 : (0 : Int) < (nt : Int) := by omega
      have k0 := hC 0 _ rfl
      have k1 := hC 1 _ rfl
      have k2 := hC 2 _ rfl
      have k3 := hC 3 _ rfl
      have k4 := hC 4 _ rfl
      simp only [Nat.add_zero] at k0
      obtain ⟨rc, hrc, hrc2⟩ := HN5.out.row
      have zq : q < w5.heap.size := hrc.lt
      have HRc := Lib.hid hrc
      have qf0 := hrc.frozen (j * 5)
      have qf1 := hrc.frozen (j * 5 + 1)
      have qf2 := hrc.frozen (j * 5 + 2)
      have qf3 := hrc.frozen (j * 5 + 3)
      have qf4 := hrc.frozen (j * 5 + 4)
      obtain ⟨m0, m1, m2, m3⟩ := KM5.out.c4
      have z1 : g < w5.heap.size := KM5.out.lt
      have gf0 := KM5.out.frozen 0
      have gf1 := KM5.out.frozen 1
      have gf3 := KM5.out.frozen 3
      clear hC hRl hRt hRb hV hT hbT hR hf hnl hnt hnb hrc hrc2 hokf hsz
      obtain ⟨k, hk⟩ : ∃ k, k = at_ % (nb + 1) := ⟨_, rfl⟩
      have hkn : k ≤ nb := by have := Nat.mod_lt at_ (show 0 < nb + 1 by omega); omega
      have kt : ((at_ : Int)).tmod ((nb : Int) + 1) = (k : Int) := by rw [hk, ← u8mod at_ (nb + 1) (by omega)]; push_cast; rfl
      have ke : ((at_ : Int)) % ((nb : Int) + 1) = (k : Int) := by rw [hk]; push_cast; rfl
      have hnb0 : ¬ (nb : Int) + 1 = 0 := by omega
      obtain ⟨x, hx⟩ : ∃ x : Int, x = (how : Int) % 16 := ⟨_, rfl⟩
      have hx2 : 0 ≤ x ∧ x < 16 := by omega
      have q2 : (how : Int) % 16 = x := hx.symm
      have q1 : ((how : Int)).tmod 16 = x := by rw [Int.tmod_eq_emod_of_nonneg (by omega)]; exact q2
      clear hk hx
      go_upto_block 0 with (fail)
      go_cut [14] from 57 (fun s14 wz => Hid (Nz w wz g))
      case first =>
        rcases (show x = 7 ∨ x = 8 ∨ x = 9 by omega) with rfl | rfl | rfl
        · have HNd := Lib.hid (HN5.out.old (W' := w5.drew) (Below.refl _ _).drew)
          have HBd : Hid (Below w.heap.size w w5.drew) := HB5.out.trans (Below.refl _ _).drew
          obtain ⟨i, hi⟩ : ∃ i, i = at_ % ls := ⟨_, rfl⟩
          have hil : i < ls := by rw [hi]; exact Nat.mod_lt _ hpos
          have it : (IntKind.i64.wrap (at_ : Int)).tmod (ls : Int) = (i : Int) := by rw [wrap_small9 (by omega), hi]; exact u8mod at_ ls hpos
          have ie : ((at_ : Int)) % (ls : Int) = (i : Int) := by rw [hi]; simp
          have hls0 : ¬ (ls : Int) = 0 := by omega
          have hls1 : ¬ ls = 0 := by omega
          clear hi
          obtain ⟨bt, u0, rfl, s0, sf, zb, HZ⟩ := HNd.out.arm7 HVl.out HOk.out HBd.out hw02.out i (by have := HLs.out; omega) []
          have s0 : w5.cell? ⟨bt, i, none⟩ = some u0 := s0
          have sf : w5.frozen? ⟨bt, i, none⟩ = false := sf
          have zb : bt < w5.heap.size := zb
          have HZ : Hid (Nz w (w5.drew.setCell ⟨bt, i, none⟩ (.string { data := #[] })) g) := HZ
          go_upto_region 37 with (fail)
          go_region_law (fail)
          all_goals (go_wp2_with fail; go_meet; exact HZ)
        · have HNd := Lib.hid (HN5.out.old (W' := w5.drew) (Below.refl _ _).drew)
          have HBd : Hid (Below w.heap.size w w5.drew) := HB5.out.trans (Below.refl _ _).drew
          obtain ⟨i, hi⟩ : ∃ i, i = at_ % ls := ⟨_, rfl⟩
          have hil : i < ls := by rw [hi]; exact Nat.mod_lt _ hpos
          have it : (IntKind.i64.wrap (at_ : Int)).tmod (ls : Int) = (i : Int) := by rw [wrap_small9 (by omega), hi]; exact u8mod at_ ls hpos
          have ie : ((at_ : Int)) % (ls : Int) = (i : Int) := by rw [hi]; simp
          have hls0 : ¬ (ls : Int) = 0 := by omega
          have hls1 : ¬ ls = 0 := by omega
          clear hi
          obtain ⟨bt, u0, rfl, s0, sf, zb, HZ⟩ := HNd.out.arm7 HVl.out HOk.out HBd.out hw02.out i (by have := HLs.out; omega) [97, 32, 110, 97, 109, 101, 32, 116, 104, 97, 116, 32, 105, 115, 32, 98, 121, 32, 102, 97, 114, 32, 108, 111, 110, 103, 101, 114, 32, 116, 104, 97, 110, 32, 97, 110, 121, 32, 109, 97, 121, 32, 98, 101, 44, 32, 105, 115, 110, 39, 116, 32, 105, 116]
          have s0 : w5.cell? ⟨bt, i, none⟩ = some u0 := s0
          have sf : w5.frozen? ⟨bt, i, none⟩ = false := sf
          have zb : bt < w5.heap.size := zb
          have HZ : Hid (Nz w (w5.drew.setCell ⟨bt, i, none⟩ (.string { data := #[97, 32, 110, 97, 109, 101, 32, 116, 104, 97, 116, 32, 105, 115, 32, 98, 121, 32, 102, 97, 114, 32, 108, 111, 110, 103, 101, 114, 32, 116, 104, 97, 110, 32, 97, 110, 121, 32, 109, 97, 121, 32, 98, 101, 44, 32, 105, 115, 110, 39, 116, 32, 105, 116] })) g) := HZ
          go_upto_region 39 with (fail)
          go_region_law (fail)
          all_goals (go_wp2_with fail; go_meet; exact HZ)
        · have HNd := Lib.hid (HN5.out.old (W' := w5.drew) (Below.refl _ _).drew)
          have HBd : Hid (Below w.heap.size w w5.drew) := HB5.out.trans (Below.refl _ _).drew
          have hnf1 : ¬ nf = 0 := by omega
          have et2 : (IntKind.i64.wrap (at_ : Int)).tmod (nf : Int) = (j : Int) := by rw [wrap_small9 (by omega)]; exact et
          have hrd : RdS (fun _ => True) w5.drew Ae ne 1 (intV M.ents) := by rw [HNe.out]; exact (RdS.own HNd.out.ents).below (fun _ _ => trivial)
          obtain ⟨⟨A1, c1, V1, A2, c2, V2, x1, x2, xo, xb1, xb2⟩, ⟨B1, b1, U1, B2, b2, U2, y1, y2, yo, yb1, yb2⟩⟩ := two_any 27 3 (.int .i64 0) 1 8 Try.underlying27 info3 rfl (by decide) (by decide) (us := [.int .i64 (j : Int), .int .i64 (j : Int)]) (m := 2) (W := w5.drew) (c := ce) hrd (fun u hu => by obtain ⟨a, _, rfl⟩ := List.mem_map.1 hu; rfl) (by omega) rfl (fun u hu => by simp at hu; subst hu; rfl) (by decide)
          have fin : ∀ (A : Option Addr) (c : Nat) (V : World), V.ownsRow w5.drew.heap.size 3 1 (.slice A (ne + 2) c) (ne + 2) (intV M.ents ++ [.int .i64 (j : Int), .int .i64 (j : Int)]) → Below w5.drew.heap.size w5.drew V → Nz w (V.setCell ⟨g, 3, none⟩ (.slice A (ne + 2) c)) g := fun A c V ho hb => by
            have el : ne + 2 = (M.ents ++ [(j : Int), (j : Int)]).length := by rw [HNe.out]; simp
            have ei : intV (M.ents ++ [(j : Int), (j : Int)]) = intV M.ents ++ [.int .i64 (j : Int), .int .i64 (j : Int)] := by simp [intV]
            refine HNd.out.nz_e HVl.out HOk.out HBd.out hw02.out hb (M.ents ++ [(j : Int), (j : Int)]) el (by have := HFe.out.2.2.1; rw [← el, HNe.out]; omega) (fun y hy => ?_) ?_
            · rcases List.mem_append.1 hy with h1 | h1
              · exact HOk.out.ents.2 y h1
              · have : y = (j : Int) := by simpa using h1
                subst this
                omega
            · rw [ei]
              exact ho
          have HZ1 := Lib.hid (fin _ _ _ xo xb2)
          have HZ2 := Lib.hid (fin _ _ _ yo yb2)
          clear fin hrd xo yo
          have x1' : AppRun 27 (.slice none 0 0) (.slice Ae ne ce) (w5.alloc (.cells #[.int .i64 (j : Int), .int .i64 (j : Int)] 3)).drew (.slice A1 ne c1) V1 := AppRun.mk x1
          have x2' : AppRun 27 (.slice A1 ne c1) (.slice (some ⟨w5.heap.size, 0, none⟩) 2 2) V1 (.slice A2 (ne + 2) c2) V2 := AppRun.mk x2
          have y1' : AppRun 27 (.slice none 0 0) (.slice Ae ne ce) w5.drew (.slice B1 ne b1) U1 := AppRun.mk y1
          have y2' : AppRun 27 (.slice B1 ne b1) (.slice (some ⟨U1.heap.size, 0, none⟩) 2 2) (U1.alloc (.cells #[.int .i64 (j : Int), .int .i64 (j : Int)] 3)) (.slice B2 (ne + 2) b2) U2 := AppRun.mk y2
          clear x1 x2 y1 y2
          have KV := KM5.out.old (w := w5.drew) xb2
          have KU := KM5.out.old (w := w5.drew) yb2
          have KU1 := KM5.out.old (w := w5.drew) yb1
          have zV := KV.lt
          have fV := KV.frozen 3
          obtain ⟨_, _, _, kV⟩ := KV.c4
          have zU := KU.lt
          have fU := KU.frozen 3
          obtain ⟨_, _, _, kU⟩ := KU.c4
          have zU1 := KU1.lt
          obtain ⟨_, _, kU1, kU3⟩ := KU1.c4
          clear xb1 xb2 yb1 yb2 KV KU KU1
          go_upto_region 41 with (fail)
          go_region_law (first
            | (refine step_append_k x1' (by with_reducible rfl) rfl _ _ rfl rfl rfl rfl ?_; clear x1')
            | (refine step_append_k y1' (by with_reducible rfl) rfl _ _ rfl rfl rfl rfl ?_; clear y1')
            | (refine step_append_k x2' (by with_reducible rfl) rfl _ _ rfl rfl rfl rfl ?_; clear x2')
            | (refine step_append_k y2' (by with_reducible rfl) rfl _ _ rfl rfl rfl rfl ?_; clear y2'))
          all_goals (go_wp2_with fail; go_meet; first | exact HZ1 | exact HZ2)
      case rest =>
        obtain ⟨N, Bs, Bg, Bf, Be, ds, dg, df, de, hBox, hMR, hOkN, hBel⟩ := hcut.out
        obtain ⟨l1, hl1⟩ : ∃ n, n = N.strs.length := ⟨_, rfl⟩
        obtain ⟨l4, hl4⟩ : ∃ n, n = N.ents.length := ⟨_, rfl⟩
        obtain ⟨l3, hl3⟩ : ∃ n, n = N.funcs.length := ⟨_, rfl⟩
        obtain ⟨l2, hl2⟩ : ∃ n, n = N.globs.length := ⟨_, rfl⟩
        have hRt := fun wx (hx : Below wc.heap.size wc wx) => rtree_any N Bs Bg Bf Be ds dg df de wx hOkN.wf (hMR.old hx) hOkN.low
        have hRc := fun wx (hx : Below wc.heap.size wc wx) => rcheck_any N Bs Bg Bf Be ds dg df de wx hOkN.wf (hMR.old hx) hOkN.low
        have hTr := fun wx (hx : Below wc.heap.size wc wx) => tree_any N Bs Bg Bf Be ds dg df de wx hOkN.wf (hMR.old hx)
        have hTc := fun wx (hx : Below wc.heap.size wc wx) => check_any N Bs Bg Bf Be ds dg df de wx hOkN.wf (hMR.old hx)
        simp only [← hl1, ← hl2, ← hl3, ← hl4] at hRt hRc hTr hTc hBox
        have HT1 := Lib.hid (told_all (treeF N) (tree_zero9 N))
        have HT2 := Lib.hid (told_all (checkF N) (check_zero9 N))
        have YRt := Lib.hid hRt
        have YRc := Lib.hid hRc
        have YTr := Lib.hid hTr
        have YTc := Lib.hid hTc
        clear hRt hRc hTr hTc hl1 hl2 hl3 hl4 hMR hOkN HN5 HFn HC HRl HRt HRb HR HV HT HbT HSz HOf HOk HSi HFe HBo HF HNl HNt HNb HLs HNg HNf HNe HVl k0 k1 k2 k3 k4 m0 m1 m2 m3 z1 zq qf0 qf1 qf2 qf3 qf4 gf0 gf1 gf3 KM5 KR5 HRc
        generalize treeF N = u at *
        generalize checkF N = v at *
        obtain ⟨u0, u1, u2⟩ := u
        obtain ⟨v0, v1, v2⟩ := v
        dsimp only at HT1 HT2
        have HBl := Lib.hid hBel
        have K1 := Lib.hid hBox
        clear hBel hBox hcut
        obtain ⟨m0, m1, m2, m3⟩ := K1.out.c4
        have z1 := K1.out.lt
        go_wp2_with fail
        refine (YRt.out _ (Below.refl _ _)).mono ?_
        rintro e y2 ⟨rfl, hb2⟩
        have HB2 := Lib.hid hb2
        have K2 := Lib.hid (K1.out.old hb2)
        have z2 := K2.out.lt
        clear hb2 m0 m1 m2 m3 K1 z1 YRt
        dsimp only
        obtain ⟨m0, m1, m2, m3⟩ := K2.out.c4
        go_wp2_with fail
        refine (YRc.out _ HB2.out).mono ?_
        rintro e y3 ⟨rfl, hb3⟩
        have HB3 := Lib.hid (HB2.out.trans (hb3.mono HB2.out.size))
        have K3 := Lib.hid (K2.out.old hb3)
        have z3 := K3.out.lt
        clear hb3 m0 m1 m2 m3 K2 z2 YRc HB2
        dsimp only
        obtain ⟨m0, m1, m2, m3⟩ := K3.out.c4
        go_wp2_with fail
        refine (YTr.out _ HB3.out).mono ?_
        rintro e y4 ⟨rfl, hb4⟩
        have HB4 := Lib.hid (HB3.out.trans (hb4.mono HB3.out.size))
        have K4 := Lib.hid (K3.out.old hb4)
        have z4 := K4.out.lt
        clear hb4 m0 m1 m2 m3 K3 z3 YTr HB3
        dsimp only
        go_wp2_with fail
        refine (HT1.out _).mono ?_
        rintro e y5 ⟨rfl, hb5⟩
        have HB5' := Lib.hid (HB4.out.trans (hb5.mono HB4.out.size))
        have K5 := Lib.hid (K4.out.old hb5)
        have z5 := K5.out.lt
        clear hb5 HB4 K4 z4 HT1
        obtain ⟨m0, m1, m2, m3⟩ := K5.out.c4
        go_wp2_with fail
        refine (YTc.out _ HB5'.out).mono ?_
        rintro e y6 ⟨rfl, hb6⟩
        have HB6 := Lib.hid (HB5'.out.trans (hb6.mono HB5'.out.size))
        clear hb6 m0 m1 m2 m3 K5 z5 YTc
        dsimp only
        go_wp2_with fail
        refine (HT2.out _).mono ?_
        rintro e y7 ⟨rfl, hb7⟩
        have HB7 := HB6.out.trans (hb7.mono HB6.out.size)
        go_wp2
        go_ret
        exact ⟨rfl, HBl.out.trans (HB7.mono HBl.out.size)⟩
end Go.Proofs.Ytpdebnecfknohaa
