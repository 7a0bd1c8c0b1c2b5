/-
  RuleNear: the walk, changes 10 to 15.
-/
import Derived.Deep.RegionLaw
import Derived.Test.YtpdebnecfknohaaRn00
import Derived.Test.YtpdebnecfknohaaRn01
import Derived.Test.YtpdebnecfknohaaRn02
import Derived.Test.YtpdebnecfknohaaRn03
import Derived.Test.YtpdebnecfknohaaRn04
import Derived.Test.YtpdebnecfknohaaRn05
import Derived.Test.YtpdebnecfknohaaRn06
import Derived.Test.YtpdebnecfknohaaRn07
import Derived.Test.YtpdebnecfknohaaRn08
import Derived.Test.YtpdebnecfknohaaRn09
import Derived.Test.YtpdebnecfknohaaRn10
import Derived.Test.YtpdebnecfknohaaRn11
import Derived.Test.YtpdebnecfknohaaRn12
import Derived.Test.YtpdebnecfknohaaRn13
import Derived.Test.YtpdebnecfknohaaRn14
namespace Go.Proofs.Ytpdebnecfknohaa
open Go.RowKit
set_option linter.unusedVariables false
set_option linter.unusedSimpArgs false
set_option maxRecDepth 20000
set_option maxHeartbeats 8000000 in
theorem near_walkC (G F E : Nat) (Aa : Option Addr) (na ca how at_ : Nat) (n rk rid : Int) (acts : List Ac) (w : World) (hG : G < 256) (hF : F < 256) (hE : E < 256) (hhow : how < 256) (hat : at_ < 256) (hn : -9223372036854775808 ≤ n ∧ n ≤ 9223372036854775807) (hrk : 0 ≤ rk ∧ rk ≤ 255) (hrid : -9223372036854775808 ≤ rid ∧ rid ≤ 9223372036854775807) (hna : acts.length = na) (hnl : na ≤ 9223372036854775807) (hacts : AcsAt w Aa acts) (hac : ∀ x ∈ acts, x.k < 256 ∧ x.a < 256 ∧ x.b < 256 ∧ x.c < 256) (hgrp : 10 ≤ how % 16) :
    Calls Try.prog 5 #[.agg #[.int .u8 (G : Int), .int .u8 (F : Int), .int .u8 (E : Int), .slice Aa na ca], .int .u8 (how : Int), .int .u8 (at_ : Int), .int .i64 n, .agg #[.int .u8 rk, .int .i64 rid]] w fun e w' => e = .returned (.bool true) ∧ Below w.heap.size w w' := by
  have hmd := mk_made (gnames (1 + G / 4 % 3) (G % 4)) F E G acts (gnames_len _ _)
  have hMa := fun wx (hx : Below w.heap.size w wx) => (make_anyP G F E Aa na ca acts wx hG hF hE hna (acs_old9 hx hacts) hac).mono fun e w' h => h.near hmd.small.fns.1
  have hok := made_okM G F E acts
  have hsi := made_sits G F E acts
  have hfe := made_few G F E acts
  have hbo := hmd.small.body
  have hpos := hmd.strs
  have hfn := hmd.small.fns.1
  clear hmd
  generalize canM (mkM (gnames (1 + G / 4 % 3) (G % 4)) (ints (G % 4)) F E acts) = M at hMa hok hsi hfe hbo hpos hfn
  obtain ⟨ls, hls⟩ : ∃ n, n = M.strs.length := ⟨_, rfl⟩
  obtain ⟨ne, hne⟩ : ∃ n, n = M.ents.length := ⟨_, rfl⟩
  obtain ⟨nf, hnf⟩ : ∃ n, n = M.funcs.length := ⟨_, rfl⟩
  obtain ⟨ng, hng⟩ : ∃ n, n = M.globs.length := ⟨_, rfl⟩
  simp only [← hls, ← hng, ← hnf, ← hne] at hMa hfn hpos
  have hlim := hok.strs
  have hlim2 := hok.globs.1
  have hlim3 := hok.ents.1
  have hlim4 := hok.funcs
  simp only [← hls, ← hng, ← hnf, ← hne] at hlim hlim2 hlim3 hlim4
  have HLs := Lib.hid hls
  have HNg := Lib.hid hng
  have HNf := Lib.hid hnf
  have HNe := Lib.hid hne
  have HMa := Lib.hid hMa
  have HOk := Lib.hid hok
  have HSi := Lib.hid hsi
  have HFe := Lib.hid hfe
  have HBo := Lib.hid hbo
  obtain ⟨w1, hw1⟩ : ∃ w1, w1 = (w.alloc (.cells #[.int .u8 (G : Int), .int .u8 (F : Int), .int .u8 (E : Int), .slice Aa na ca] 24)).alloc (.cells #[.int .u8 rk, .int .i64 rid] 46) := ⟨_, rfl⟩
  have HB : Hid (Below w.heap.size w w1) := by rw [hw1]; exact ((Below.refl _ _).alloc (Nat.le_refl _) _).alloc (by simp) _
  have K1 : Hid (Blk w1 w.heap.size 24 #[.int .u8 (G : Int), .int .u8 (F : Int), .int .u8 (E : Int), .slice Aa na ca]) := by rw [hw1]; exact (Blk.new w 24 _).alloc _
  have KR : Hid (Blk w1 (w.heap.size + 1) 46 #[.int .u8 rk, .int .i64 rid]) := by rw [hw1]; exact Blk.new' _ 46 _ _ (by simp)
  clear hMa hok hsi hfe hbo hls hng hnf hne hna hacts hac
  go_enter Try.func5, Try.ntmps5
  go_upto_region 1 with (fail)
  rw [← hw1]
  clear hw1
  go_wp2_with fail
  refine (awake6_any _).mono ?_
  rintro e w2 ⟨rfl, hb2⟩
  have HB2 := Lib.hid (HB.out.trans (hb2.mono HB.out.size))
  have K12 := Lib.hid (K1.out.old hb2)
  have KR2 := Lib.hid (KR.out.old hb2)
  clear hb2 K1 KR HB
  obtain ⟨c0, c1, c2, c3⟩ := K12.out.c4
  have z1 : w.heap.size < w2.heap.size := K12.out.lt
  have r0 := KR2.out.cell 0
  have r1 := KR2.out.cell 1
  simp at r0 r1
  have z2 : w.heap.size + 1 < w2.heap.size := KR2.out.lt
  by_cases h60 : 60 < na
  · have h60i : (60 : Int) < (na : Int) := by omega
    go_wp2_with fail
    refine (awake6_any _).mono ?_
    rintro e w3 ⟨rfl, hb3⟩
    have HB3 := Lib.hid (HB2.out.trans (hb3.mono HB2.out.size))
    clear hb3
    go_wp2
    go_ret
    exact ⟨rfl, HB3.out⟩
  · have h60i : ¬ (60 : Int) < (na : Int) := by omega
    by_cases h4 : 4 < rk
    · go_wp2_with fail
      refine (awake6_any _).mono ?_
      rintro e w3 ⟨rfl, hb3⟩
      have HB3 := Lib.hid (HB2.out.trans (hb3.mono HB2.out.size))
      clear hb3
      go_wp2
      go_ret
      exact ⟨rfl, HB3.out⟩
    · go_wp2_with fail
      refine (HMa.out w2 HB2.out).mono ?_
      rintro e w3 ⟨As, cs, Ag, cg, q, cf, Ae, ce, Vs, Ts, rfl, hb3, hN⟩
      obtain ⟨w4, hw4⟩ : ∃ w4, w4 = w3.alloc (.cells #[.slice As ls cs, .slice Ag ng cg, .slice (some ⟨q, 0, none⟩) nf cf, .slice Ae ne ce] 30) := ⟨_, rfl⟩
      rw [← hw4] at hN
      have hb4 : Below w3.heap.size w3 w4 := by rw [hw4]; exact (Below.refl _ _).alloc (Nat.le_refl _) _
      have HB4 := Lib.hid (HB2.out.trans ((hb3.trans (hb4.mono hb3.size)).mono HB2.out.size))
      have KR4 := Lib.hid (KR2.out.old (hb3.trans (hb4.mono hb3.size)))
      have hN := hN.cut
      have hlV : (Vs.take M.funcs.length).length ≤ M.funcs.length := by rw [List.length_take]; omega
      generalize Vs.take M.funcs.length = Us at hN hlV
      have HN4 := Lib.hid hN
      have HVl := Lib.hid hlV
      have hw02 : Hid (w.heap.size ≤ w2.heap.size) := HB2.out.size
      clear hN hlV hb3 hb4 c0 c1 c2 c3 z1 z2 r0 r1 K12 KR2 HMa HB2
      go_upto_region 4 with (fail)
      rw [← hw4]
      obtain ⟨g, hg⟩ : ∃ g, g = w3.heap.size := ⟨_, rfl⟩
      rw [← hg] at HN4
      try simp only [← hg]
      clear hg hw4
      have KM : Hid (Blk w4 g 30 #[.slice As ls cs, .slice Ag ng cg, .slice (some ⟨q, 0, none⟩) nf cf, .slice Ae ne ce]) := by rw [HLs.out, HNg.out, HNf.out, HNe.out]; exact HN4.out.box
      obtain ⟨m0, m1, m2, m3⟩ := KM.out.c4
      have z1 : g < w4.heap.size := KM.out.lt
      obtain ⟨j, hj⟩ : ∃ j, j = at_ % nf := ⟨_, rfl⟩
      have hjn : j < nf := by rw [hj]; exact Nat.mod_lt _ hfn
      have et : ((at_ : Int)).tmod (nf : Int) = (j : Int) := by rw [hj]; exact u8mod at_ nf hfn
      have ee : ((at_ : Int)) % (nf : Int) = (j : Int) := by rw [hj]; simp
      have hnf0 : ¬ (nf : Int) = 0 := by omega
      have hjm : ((at_ % nf : Nat) : Int) = (j : Int) := by rw [hj]
      clear hj
      go_quiet (fail)
      obtain ⟨w5, hw5⟩ : ∃ w5, w5 = w4.drewN nq := ⟨_, rfl⟩
      have hb5 : Below w4.heap.size w4 w5 := by rw [hw5]; exact below_dN _ _ _
      have HB5 := Lib.hid (HB4.out.trans (hb5.mono HB4.out.size))
      have HN5 := Lib.hid (HN4.out.old hb5)
      have KR5 := Lib.hid (KR4.out.old hb5)
      have KM5 := Lib.hid (KM.out.old hb5)
      rw [← hw5]
      clear hw5 hb5 HN4 KR4 KM m0 m1 m2 m3 z1 HB4
      have hjM : j < M.funcs.length := by have := HNf.out; omega
      obtain ⟨Al, cl, At, ct, Ab, cb, T, hC, hRl, hRt, hRb, hV, hT, hbT, hR⟩ := HN5.out.fn_of HVl.out j hjM
      have hsz := HBo.out _ (List.getElem_mem hjM)
      have hsit := HSi.out _ (List.getElem_mem hjM)
      have hfew := HFe.out.2.2.2 _ (List.getElem_mem hjM)
      have hokf := HOk.out.fns _ (List.getElem_mem hjM)
      obtain ⟨f, hf⟩ : ∃ f, f = M.funcs[j] := ⟨_, rfl⟩
      rw [← hf] at hC hRl hRt hRb hV hbT hsz hsit hfew hokf
      rw [← hf] at hR
      have hbl : f.body.len ≤ 1000 := by have := Bd.len_le f.body; omega
      have HFn := Lib.hid (And.intro hRl (And.intro hRt (And.intro hRb hC)))
      obtain ⟨nl, hnl⟩ : ∃ n, n = f.locals.length := ⟨_, rfl⟩
      obtain ⟨nt, hnt⟩ : ∃ n, n = f.sites.length := ⟨_, rfl⟩
      obtain ⟨nb, hnb⟩ : ∃ n, n = f.body.len := ⟨_, rfl⟩
      rw [← hnl] at hRl hfew
      rw [← hnt] at hRt hsit hfew
      rw [← hnb] at hV hR hbl
      rw [← hnl, ← hnt, ← hnb] at hC
      have HF := Lib.hid hf
      have HNl := Lib.hid hnl
      have HNt := Lib.hid hnt
      have HNb := Lib.hid hnb
      have HC := Lib.hid hC
      have HRl := Lib.hid hRl
      have HRt := Lib.hid hRt
      have HRb := Lib.hid hRb
      have HV := Lib.hid hV
      have HT := Lib.hid hT
      have HbT := Lib.hid hbT
      have HR := Lib.hid hR
      have HSz := Lib.hid hsz
      have HOf := Lib.hid hokf
      have hsit0 : (0 : Int) < (nt : Int) := by omega
      have k0 := hC 0 _ rfl
      have k1 := hC 1 _ rfl
      have k2 := hC 2 _ rfl
      have k3 := hC 3 _ rfl
      have k4 := hC 4 _ rfl
      simp only [Nat.add_zero] at k0
      obtain ⟨rc, hrc, hrc2⟩ := HN5.out.row
      have zq : q < w5.heap.size := hrc.lt
      have HRc := Lib.hid hrc
      have qf0 := hrc.frozen (j * 5)
      have qf1 := hrc.frozen (j * 5 + 1)
      have qf2 := hrc.frozen (j * 5 + 2)
      have qf3 := hrc.frozen (j * 5 + 3)
      have qf4 := hrc.frozen (j * 5 + 4)
      obtain ⟨m0, m1, m2, m3⟩ := KM5.out.c4
      have z1 : g < w5.heap.size := KM5.out.lt
      have gf0 := KM5.out.frozen 0
      have gf1 := KM5.out.frozen 1
      have gf3 := KM5.out.frozen 3
      clear hC hRl hRt hRb hV hT hbT hR hf hnl hnt hnb hrc hrc2 hokf hsz
      obtain ⟨k, hk⟩ : ∃ k, k = at_ % (nb + 1) := ⟨_, rfl⟩
      have hkn : k ≤ nb := by have := Nat.mod_lt at_ (show 0 < nb + 1 by omega); omega
      have kt : ((at_ : Int)).tmod ((nb : Int) + 1) = (k : Int) := by rw [hk, ← u8mod at_ (nb + 1) (by omega)]; push_cast; rfl
      have ke : ((at_ : Int)) % ((nb : Int) + 1) = (k : Int) := by rw [hk]; push_cast; rfl
      have hnb0 : ¬ (nb : Int) + 1 = 0 := by omega
      obtain ⟨x, hx⟩ : ∃ x : Int, x = (how : Int) % 16 := ⟨_, rfl⟩
      have hx2 : 0 ≤ x ∧ x < 16 := by omega
      have q2 : (how : Int) % 16 = x := hx.symm
      have q1 : ((how : Int)).tmod 16 = x := by rw [Int.tmod_eq_emod_of_nonneg (by omega)]; exact q2
      clear hk hx
      go_upto_block 0 with (fail)
      go_cut [14] from 57 (fun s14 wz => Hid (Nz w wz g))
      case first =>
        by_cases hkk0 : k < nb
        · have r0 : w5.cell? ⟨w.heap.size + 1, 0, none⟩ = some (.int .u8 rk) := by have := KR5.out.cell 0; simpa using this
          have r1 : w5.cell? ⟨w.heap.size + 1, 1, none⟩ = some (.int .i64 rid) := by have := KR5.out.cell 1; simpa using this
          have zr : w.heap.size + 1 < w5.heap.size := KR5.out.lt
          have hTl : nb = T.length := by rw [HNb.out, HbT.out, bdOf_len]
          have hkb : k < nb := by omega
          have hkT : k < T.length := by omega
          obtain ⟨bb, Aa, na', ca', Au, cu, rfl, zb, hfz, hcs, hArg, hSub⟩ := HN5.out.st_of (X := fun _ => True) HVl.out HV.out hTl HR.out k hkb
          have hsm := St7.small2 HbT.out HSz.out (List.getElem_mem hkT)
          have hlo : lowS T[k] := (lowB_T T).1 (by rw [← HbT.out]; exact HOf.out.low) _ (List.getElem_mem hkT)
          have HV2 : Hid (Us[j]? = some (.slice (some ⟨bb, 0, none⟩) T.length cb)) := by rw [← hTl]; exact HV.out
          obtain ⟨s, hs⟩ : ∃ s, s = T[k] := ⟨_, rfl⟩
          rw [← hs] at hcs hArg hSub hsm hlo
          have hOf : Hid (∀ s' : St7, lowS s' → s'.sub.size ≤ 1000 → s'.xs.length ≤ 1001 → s'.sub.wide ≤ 1000 → OkF ⟨M.funcs[j].name, M.funcs[j].params, M.funcs[j].locals, M.funcs[j].sites, bdOf (T.set k s')⟩) := fun s' h1 h2 h3 h4 => by
            rw [← HF.out]
            exact HOf.out.stm HbT.out HSz.out k s' h1 h2 h3 h4
          obtain ⟨sk, ⟨sa1, sa2⟩, ⟨sb1, sb2⟩, sxs, ssub⟩ := s
          dsimp only at hcs hArg hSub hsm hlo
          have HCs := Lib.hid hcs
          have HArg := Lib.hid hArg
          have HSub := Lib.hid hSub
          have HLo := Lib.hid hlo
          have HSm := Lib.hid hsm
          have t0 := hcs 0 _ rfl
          have t1 := hcs 1 _ rfl
          have t2 := hcs 2 _ rfl
          have t3 := hcs 3 _ rfl
          have t4 := hcs 4 _ rfl
          have t5 := hcs 5 _ rfl
          have t6 := hcs 6 _ rfl
          simp only [Nat.add_zero] at t0
          have g0 := hfz (k * 7)
          have g1 := hfz (k * 7 + 1)
          have g2 := hfz (k * 7 + 2)
          have g3 := hfz (k * 7 + 3)
          have g4 := hfz (k * 7 + 4)
          have g5 := hfz (k * 7 + 5)
          have g6 := hfz (k * 7 + 6)
          have HFz := Lib.hid hfz
          have hki : ¬ (k : Int) = (nb : Int) := by omega
          have hkj : ((k : Int) == (nb : Int)) = false := by simp; omega
          have hkl : (k : Int) < (nb : Int) := by omega
          clear hcs hArg hSub hlo hsm hs hfz hTl
          rcases (show x = 10 ∨ x = 11 ∨ x = 12 ∨ x = 13 ∨ x = 14 ∨ x = 15 by omega) with rfl | rfl | rfl | rfl | rfl | rfl
          · have HZ : Nz w (sets bb (k * 7 + 1) [.int .u8 rk, .int .i64 rid] w5) g := HN5.out.nz_sets HVl.out HOk.out (Below.refl _ _) HB5.out hw02.out j hjM bb cb T HT.out HV2.out k hkT 1 [.int .u8 rk, .int .i64 rid] (by simp) ⟨sk, (rk, rid), (sb1, sb2), sxs, ssub⟩ [.int .u8 sk, .int .u8 sa1, .int .i64 sa2, .int .u8 sb1, .int .i64 sb2, .slice Aa na' ca', .slice Au ssub.len cu] rfl HCs.out ⟨_, Au, cu, rfl, HArg.out, HSub.out⟩ (hOf.out _ ⟨⟨hrk.1, by dsimp only; omega, HLo.out.1.2.2⟩, HLo.out.2⟩ HSm.out.1 (by have := HSm.out.2.1; dsimp only at this ⊢; omega) HSm.out.2.2)
            simp only [sets] at HZ
            have HZ := Lib.hid HZ
            go_wp2_with fail
            go_meet
            case rel => exact HZ
          · have HZ : Nz w (sets bb (k * 7 + 3) [.int .u8 rk, .int .i64 rid] w5) g := HN5.out.nz_sets HVl.out HOk.out (Below.refl _ _) HB5.out hw02.out j hjM bb cb T HT.out HV2.out k hkT 3 [.int .u8 rk, .int .i64 rid] (by simp) ⟨sk, (sa1, sa2), (rk, rid), sxs, ssub⟩ [.int .u8 sk, .int .u8 sa1, .int .i64 sa2, .int .u8 sb1, .int .i64 sb2, .slice Aa na' ca', .slice Au ssub.len cu] rfl HCs.out ⟨_, Au, cu, rfl, HArg.out, HSub.out⟩ (hOf.out _ ⟨⟨HLo.out.1.1, HLo.out.1.2.1, hrk.1, by dsimp only; omega, HLo.out.1.2.2.2.2⟩, HLo.out.2⟩ HSm.out.1 (by have := HSm.out.2.1; dsimp only at this ⊢; omega) HSm.out.2.2)
            simp only [sets] at HZ
            have HZ := Lib.hid HZ
            go_wp2_with fail
            go_meet
            case rel => exact HZ
          · have HNd := Lib.hid (HN5.out.old (W' := w5.drew) (Below.refl _ _).drew)
            have HBd : Hid (Below w.heap.size w w5.drew) := HB5.out.trans (Below.refl _ _).drew
            obtain ⟨hna', hrd0⟩ := args_cells HArg.out
            have hrd : RdS (fun _ => True) w5.drew Aa na' 2 (flatA sxs) := hrd0.kept (fun _ _ _ => rfl) (fun _ _ _ => trivial) (by decide)
            obtain ⟨⟨A1, c1, V1, A2, c2, V2, x1, x2, xo, xb1, xb2⟩, ⟨B1, b1, U1, B2, b2, U2, y1, y2, yo, yb1, yb2⟩⟩ := two_any 48 46 (.agg #[.int .u8 0, .int .i64 0]) 2 16 Try.underlying48 info46 rfl (by decide) (by decide) (us := [.int .u8 rk, .int .i64 rid]) (m := 1) (W := w5.drew) (c := ca') hrd (flatA_one sxs) (by have := HSm.out.2.1; omega) rfl (fun u hu => by simp at hu; rcases hu with rfl | rfl <;> rfl) (by decide)
            have fin : ∀ (A : Option Addr) (c : Nat) (V : World), V.ownsRow w5.drew.heap.size 46 2 (.slice A (na' + 1) c) (na' + 1) (flatA sxs ++ [.int .u8 rk, .int .i64 rid]) → Below w5.drew.heap.size w5.drew V → Nz w (V.setCell ⟨bb, k * 7 + 5, none⟩ (.slice A (na' + 1) c)) g := fun A c V ho hb => by
              have ea : flatA (sxs ++ [(rk, rid)]) = flatA sxs ++ [.int .u8 rk, .int .i64 rid] := by rw [flatA_append]; rfl
              have hargs : ArgsS (fun k => k ≠ bb) V (.slice A (na' + 1) c) (sxs ++ [(rk, rid)]) := (own_args (base := w5.heap.size) (n := na' + 1) (by simp [hna']) (by rw [ea]; exact ho)).kept (fun _ _ _ => rfl) (fun k hk _ => by omega)
              exact HNd.out.nz_sets HVl.out HOk.out hb HBd.out hw02.out j hjM bb cb T HT.out HV2.out k hkT 5 [.slice A (na' + 1) c] (by simp) ⟨sk, (sa1, sa2), (sb1, sb2), sxs ++ [(rk, rid)], ssub⟩ [.int .u8 sk, .int .u8 sa1, .int .i64 sa2, .int .u8 sb1, .int .i64 sb2, .slice Aa na' ca', .slice Au ssub.len cu] rfl HCs.out ⟨_, Au, cu, rfl, hargs, HSub.out.kept (fun k _ hk => hb.block k hk) (fun _ h _ => h)⟩ (hOf.out _ ⟨⟨HLo.out.1.1, HLo.out.1.2.1, HLo.out.1.2.2.1, HLo.out.1.2.2.2.1, fun p hp => by
                rcases List.mem_append.1 hp with h1 | h1
                · exact HLo.out.1.2.2.2.2 p h1
                · have : p = (rk, rid) := by simpa using h1
                  subst this
                  exact ⟨hrk.1, by dsimp only; omega⟩⟩, HLo.out.2⟩ HSm.out.1 (by have := HSm.out.2.1; dsimp only at this ⊢; rw [List.length_append]; simp; omega) HSm.out.2.2)
            have HZ1 := Lib.hid (fin _ _ _ xo xb2)
            have HZ2 := Lib.hid (fin _ _ _ yo yb2)
            clear fin hrd xo yo hrd0 hna'
            have x1' : AppRun 48 (.slice none 0 0) (.slice Aa na' ca') (w5.alloc (.cells #[.int .u8 rk, .int .i64 rid] 46)).drew (.slice A1 na' c1) V1 := AppRun.mk x1
            have x2' : AppRun 48 (.slice A1 na' c1) (.slice (some ⟨w5.heap.size, 0, none⟩) 1 1) V1 (.slice A2 (na' + 1) c2) V2 := AppRun.mk x2
            have y1' : AppRun 48 (.slice none 0 0) (.slice Aa na' ca') w5.drew (.slice B1 na' b1) U1 := AppRun.mk y1
            have y2' : AppRun 48 (.slice B1 na' b1) (.slice (some ⟨U1.heap.size, 0, none⟩) 1 1) (U1.alloc (.cells #[.int .u8 rk, .int .i64 rid] 46)) (.slice B2 (na' + 1) b2) U2 := AppRun.mk y2
            clear x1 x2 y1 y2
            have zV := Nat.lt_of_lt_of_le zb xb2.size
            have kV : V2.cell? ⟨bb, k * 7 + 5, none⟩ = some (.slice Aa na' ca') := cell_old (w := w5.drew) xb2 zb t5
            have fV : V2.frozen? ⟨bb, k * 7 + 5, none⟩ = false := by rw [← g5]; unfold World.frozen?; rw [xb2.block bb zb]; rfl
            have zU := Nat.lt_of_lt_of_le zb yb2.size
            have kU : U2.cell? ⟨bb, k * 7 + 5, none⟩ = some (.slice Aa na' ca') := cell_old (w := w5.drew) yb2 zb t5
            have fU : U2.frozen? ⟨bb, k * 7 + 5, none⟩ = false := by rw [← g5]; unfold World.frozen?; rw [yb2.block bb zb]; rfl
            have zU1 := Nat.lt_of_lt_of_le zr yb1.size
            have rU0 : U1.cell? ⟨w.heap.size + 1, 0, none⟩ = some (.int .u8 rk) := cell_old (w := w5.drew) yb1 zr r0
            have rU1 : U1.cell? ⟨w.heap.size + 1, 1, none⟩ = some (.int .i64 rid) := cell_old (w := w5.drew) yb1 zr r1
            clear xb1 xb2 yb1 yb2
            go_upto_region 17 with (fail)
            go_region_law (first
              | (refine step_append_k x1' (by with_reducible rfl) rfl _ _ rfl rfl rfl rfl ?_; clear x1')
              | (refine step_append_k y1' (by with_reducible rfl) rfl _ _ rfl rfl rfl rfl ?_; clear y1')
              | (refine step_append_k x2' (by with_reducible rfl) rfl _ _ rfl rfl rfl rfl ?_; clear x2')
              | (refine step_append_k y2' (by with_reducible rfl) rfl _ _ rfl rfl rfl rfl ?_; clear y2'))
            all_goals (go_wp2_with fail; go_meet; first | exact HZ1 | exact HZ2)
          · have HZ : Nz w (sets bb (k * 7 + 0) [.int .u8 (n % 256)] w5) g := HN5.out.nz_sets HVl.out HOk.out (Below.refl _ _) HB5.out hw02.out j hjM bb cb T HT.out HV2.out k hkT 0 [.int .u8 (n % 256)] (by simp) ⟨n % 256, (sa1, sa2), (sb1, sb2), sxs, ssub⟩ [.int .u8 sk, .int .u8 sa1, .int .i64 sa2, .int .u8 sb1, .int .i64 sb2, .slice Aa na' ca', .slice Au ssub.len cu] rfl HCs.out ⟨_, Au, cu, rfl, HArg.out, HSub.out⟩ (hOf.out _ ⟨HLo.out.1, HLo.out.2⟩ HSm.out.1 (by have := HSm.out.2.1; dsimp only at this ⊢; omega) HSm.out.2.2)
            simp only [sets, Nat.add_zero] at HZ
            have HZ := Lib.hid HZ
            go_wp2_with fail
            go_meet
            case rel => exact HZ
          · obtain ⟨w6, hw6⟩ : ∃ w6, w6 = w5.alloc (.cells #[.int .u8 6, .int .u8 0, .int .i64 0, .int .u8 rk, .int .i64 rid, .slice none 0 0, .slice none 0 0] 50) := ⟨_, rfl⟩
            have hb6 : Below w5.heap.size w5 w6 := by rw [hw6]; exact (Below.refl _ _).alloc (Nat.le_refl _) _
            have KN : Blk w6 w5.heap.size 50 #[.int .u8 6, .int .u8 0, .int .i64 0, .int .u8 rk, .int .i64 rid, .slice none 0 0, .slice none 0 0] := by rw [hw6]; exact Blk.new w5 50 _
            have hbody : BodyS (fun k => k ≠ bb) w6 (some ⟨w5.heap.size, 0, none⟩) (bdOf [(⟨6, (0, 0), (rk, rid), [], .nil⟩ : St7)]) := fun hp => ⟨w5.heap.size, 0, rfl, bd_cells (S := fun k => k ≠ bb) (by show w5.heap.size ≠ bb; omega) _ 0 (fun i hi => by
              obtain rfl : i = 0 := by simp at hi; omega
              refine ⟨_, ⟨_, none, 0, rfl, ⟨none, 0, rfl, fun hp => by simp at hp⟩, fun hp => by simp [Bd.len] at hp⟩, fun t v hv => ?_⟩
              have := KN.cell t
              rw [Nat.zero_mul, Nat.add_zero, Nat.zero_add, this]
              simpa [Bd.len] using hv)⟩
            have HZ : Nz w (sets bb (k * 7 + 6) [.slice (some ⟨w5.heap.size, 0, none⟩) 1 1] w6) g := HN5.out.nz_sets HVl.out HOk.out hb6 HB5.out hw02.out j hjM bb cb T HT.out HV2.out k hkT 6 [.slice (some ⟨w5.heap.size, 0, none⟩) 1 1] (by simp) ⟨sk, (sa1, sa2), (sb1, sb2), sxs, bdOf [(⟨6, (0, 0), (rk, rid), [], .nil⟩ : St7)]⟩ [.int .u8 sk, .int .u8 sa1, .int .i64 sa2, .int .u8 sb1, .int .i64 sb2, .slice Aa na' ca', .slice Au ssub.len cu] rfl HCs.out ⟨_, _, 1, rfl, ArgsS.kept HArg.out (fun k _ hk => hb6.block k hk) (fun _ h _ => h), hbody⟩ (hOf.out _ ⟨HLo.out.1, ⟨⟨by show (0 : Int) ≤ 0; decide, by show (0 : Int) ≤ 4; decide, hrk.1, by dsimp only; omega, fun p hp => by simp at hp⟩, trivial, trivial⟩⟩ (by simp [bdOf, St7.ahead, Bd.size]) (by have := HSm.out.2.1; dsimp only at this ⊢; omega) (by simp [bdOf, St7.ahead, Bd.wide]))
            simp only [sets] at HZ
            rw [hw6, World.setCell_alloc_past _ _ _ _ zb] at HZ
            have HZ := Lib.hid HZ
            have t6' : (w5.alloc (.cells #[.int .u8 6, .int .u8 0, .int .i64 0, .int .u8 rk, .int .i64 rid, .slice none 0 0, .slice none 0 0] 50)).cell? ⟨bb, k * 7 + 6, none⟩ = some (.slice Au ssub.len cu) := by rw [← hw6]; exact cell_old hb6 zb t6
            clear hw6 hb6 KN hbody
            go_wp2_with fail
            go_meet
            case rel => exact HZ
          · have HZ : Nz w (sets bb (k * 7 + 0) [.int .u8 5, .int .u8 sa1, .int .i64 sa2, .int .u8 rk, .int .i64 rid, .slice none 0 0, .slice none 0 0] w5) g := HN5.out.nz_sets HVl.out HOk.out (Below.refl _ _) HB5.out hw02.out j hjM bb cb T HT.out HV2.out k hkT 0 [.int .u8 5, .int .u8 sa1, .int .i64 sa2, .int .u8 rk, .int .i64 rid, .slice none 0 0, .slice none 0 0] (by simp) ⟨5, (sa1, sa2), (rk, rid), [], .nil⟩ [.int .u8 sk, .int .u8 sa1, .int .i64 sa2, .int .u8 sb1, .int .i64 sb2, .slice Aa na' ca', .slice Au ssub.len cu] rfl HCs.out ⟨_, none, 0, rfl, ⟨none, 0, rfl, fun hp => by simp at hp⟩, (fun hp => by simp [Bd.len] at hp)⟩ (hOf.out _ ⟨⟨HLo.out.1.1, HLo.out.1.2.1, hrk.1, by dsimp only; omega, fun p hp => by simp at hp⟩, trivial⟩ (by simp [Bd.size]) (by simp) (by simp [Bd.wide]))
            simp only [sets, Nat.add_zero] at HZ
            have HZ := Lib.hid HZ.drew
            go_upto_region 11 with (fail)
            go_region_law (fail)
            all_goals (go_wp2_with fail; go_meet; exact HZ)
        · obtain rfl : k = nb := by omega
          have n0 : (x == 0) = false := by simp; omega
          have n1 : (x == 1) = false := by simp; omega
          have n2 : (x == 2) = false := by simp; omega
          have n3 : (x == 3) = false := by simp; omega
          have n4 : (x == 4) = false := by simp; omega
          have n5 : (x == 5) = false := by simp; omega
          have n6 : (x == 6) = false := by simp; omega
          have n7 : (x == 7) = false := by simp; omega
          have n8 : (x == 8) = false := by simp; omega
          have n9 : (x == 9) = false := by simp; omega
          have p0 : ¬ x = 0 := by omega
          have p1 : ¬ x = 1 := by omega
          have p2 : ¬ x = 2 := by omega
          have p3 : ¬ x = 3 := by omega
          have p4 : ¬ x = 4 := by omega
          have p5 : ¬ x = 5 := by omega
          have p6 : ¬ x = 6 := by omega
          have p7 : ¬ x = 7 := by omega
          have p8 : ¬ x = 8 := by omega
          have p9 : ¬ x = 9 := by omega
          have HNd := Lib.hid (HN5.out.old (W' := w5.drew) (Below.refl _ _).drew)
          have HBd : Hid (Below w.heap.size w w5.drew) := HB5.out.trans (Below.refl _ _).drew
          have r0 : w5.cell? ⟨w.heap.size + 1, 0, none⟩ = some (.int .u8 rk) := by have := KR5.out.cell 0; simpa using this
          have r1 : w5.cell? ⟨w.heap.size + 1, 1, none⟩ = some (.int .i64 rid) := by have := KR5.out.cell 1; simpa using this
          have zr : w.heap.size + 1 < w5.heap.size := KR5.out.lt
          obtain ⟨css, ho, hcl, hst⟩ := HR.out.own
          have hTl : T.length = k := by rw [HNb.out, HbT.out, bdOf_len]
          rw [hTl] at ho
          have hrd : RdS (fun _ => True) w5.drew Ab k 7 css.flatten := (RdS.own ho).kept (fun _ _ _ => rfl) (fun _ _ _ => trivial) (by decide)
          obtain ⟨⟨A1, c1, V1, A2, c2, V2, x1, x2, xo, xb1, xb2⟩, ⟨B1, b1, U1, B2, b2, U2, y1, y2, yo, yb1, yb2⟩⟩ := two_any 38 50 (.agg #[.int .u8 0, .int .u8 0, .int .i64 0, .int .u8 0, .int .i64 0, .slice none 0 0, .slice none 0 0]) 7 88 Try.underlying38 info50 rfl (by decide) (by decide) (us := [.int .u8 (how : Int), .int .u8 rk, .int .i64 rid, .int .u8 rk, .int .i64 rid, .slice none 0 0, .slice none 0 0]) (m := 1) (W := w5.drew) (c := cb) hrd (css_one hcl hst) (by omega) rfl (fun u hu => by simp at hu; rcases hu with rfl | rfl | rfl | rfl | rfl | rfl | rfl <;> rfl) (by decide)
          have fin : ∀ (A : Option Addr) (c : Nat) (V : World), V.ownsRow w5.drew.heap.size 50 7 (.slice A (k + 1) c) (k + 1) (css.flatten ++ [.int .u8 (how : Int), .int .u8 rk, .int .i64 rid, .int .u8 rk, .int .i64 rid, .slice none 0 0, .slice none 0 0]) → Below w5.drew.heap.size w5.drew V → Nz w (V.setCell ⟨q, j * 5 + 4, none⟩ (.slice A (k + 1) c)) g := fun A c V ho hb => by
            have el : (bdOf (T ++ [(⟨(how : Int), (rk, rid), (rk, rid), [], .nil⟩ : St7)])).len = k + 1 := by rw [bdOf_len]; simp [hTl]
            have hlow : lowS ⟨(how : Int), (rk, rid), (rk, rid), [], .nil⟩ := ⟨⟨hrk.1, by dsimp only; omega, hrk.1, by dsimp only; omega, fun p hp => by simp at hp⟩, trivial⟩
            refine HNd.out.nz_q HVl.out HOk.out hb HBd.out hw02.out j hjM 4 (by decide) _ _ (HOf.out.more HbT.out HSz.out ⟨(how : Int), (rk, rid), (rk, rid), [], .nil⟩ hlow (by simp [Bd.size]) (by simp) (by simp [Bd.wide])) ⟨_, ⟨Al, cl, At, ct, A, c, rfl, HFn.out.1.old (w' := V) (w := w5.drew) hb (by decide), HFn.out.2.1.old (w' := V) (w := w5.drew) hb (by decide), ?_⟩, ?_⟩
            · exact body_app (W := w5) hcl hst (show Below w5.heap.size w5 V from Below.trans ((Below.refl _ w5).drew) hb) ⟨_, none, 0, rfl, ⟨none, 0, rfl, fun hp => by simp at hp⟩, fun hp => by simp [Bd.len] at hp⟩ (by omega) ho (fun k hk => hk.1) (fun k hk => by omega)
            · dsimp only
              rw [el]
              exact set_cells HFn.out.2.2.2 4 _
          have HZ1 := Lib.hid (fin _ _ _ xo xb2)
          have HZ2 := Lib.hid (fin _ _ _ yo yb2)
          clear fin hrd xo yo hst hcl ho hTl
          have x1' : AppRun 38 (.slice none 0 0) (.slice Ab k cb) (w5.alloc (.cells #[.int .u8 (how : Int), .int .u8 rk, .int .i64 rid, .int .u8 rk, .int .i64 rid, .slice none 0 0, .slice none 0 0] 50)).drew (.slice A1 k c1) V1 := AppRun.mk x1
          have x2' : AppRun 38 (.slice A1 k c1) (.slice (some ⟨w5.heap.size, 0, none⟩) 1 1) V1 (.slice A2 (k + 1) c2) V2 := AppRun.mk x2
          have y1' : AppRun 38 (.slice none 0 0) (.slice Ab k cb) w5.drew (.slice B1 k b1) U1 := AppRun.mk y1
          have y2' : AppRun 38 (.slice B1 k b1) (.slice (some ⟨U1.heap.size, 0, none⟩) 1 1) (U1.alloc (.cells #[.int .u8 (how : Int), .int .u8 rk, .int .i64 rid, .int .u8 rk, .int .i64 rid, .slice none 0 0, .slice none 0 0] 50)) (.slice B2 (k + 1) b2) U2 := AppRun.mk y2
          clear x1 x2 y1 y2
          have zV := (HRc.out.old (w := w5.drew) xb2).lt
          have fV := (HRc.out.old (w := w5.drew) xb2).frozen (j * 5 + 4)
          have kV : V2.cell? ⟨q, j * 5 + 4, none⟩ = some (.slice Ab k cb) := cell_old (w := w5.drew) xb2 zq k4
          have zU := (HRc.out.old (w := w5.drew) yb2).lt
          have fU := (HRc.out.old (w := w5.drew) yb2).frozen (j * 5 + 4)
          have kU : U2.cell? ⟨q, j * 5 + 4, none⟩ = some (.slice Ab k cb) := cell_old (w := w5.drew) yb2 zq k4
          have zU1 := Nat.lt_of_lt_of_le zr yb1.size
          have rU0 : U1.cell? ⟨w.heap.size + 1, 0, none⟩ = some (.int .u8 rk) := cell_old (w := w5.drew) yb1 zr r0
          have rU1 : U1.cell? ⟨w.heap.size + 1, 1, none⟩ = some (.int .i64 rid) := cell_old (w := w5.drew) yb1 zr r1
          have hkk : ((k : Int) == (k : Int)) = true := by simp
          clear xb1 xb2 yb1 yb2
          go_upto_region 8 with (fail)
          go_region_law (first
            | (refine step_append_k x1' (by with_reducible rfl) rfl _ _ rfl rfl rfl rfl ?_; clear x1')
            | (refine step_append_k y1' (by with_reducible rfl) rfl _ _ rfl rfl rfl rfl ?_; clear y1')
            | (refine step_append_k x2' (by with_reducible rfl) rfl _ _ rfl rfl rfl rfl ?_; clear x2')
            | (refine step_append_k y2' (by with_reducible rfl) rfl _ _ rfl rfl rfl rfl ?_; clear y2'))
          all_goals (go_wp2_with fail; go_meet; first | exact HZ1 | exact HZ2)
      case rest =>
        obtain ⟨N, Bs, Bg, Bf, Be, ds, dg, df, de, hBox, hMR, hOkN, hBel⟩ := hcut.out
        obtain ⟨l1, hl1⟩ : ∃ n, n = N.strs.length := ⟨_, rfl⟩
        obtain ⟨l4, hl4⟩ : ∃ n, n = N.ents.length := ⟨_, rfl⟩
        obtain ⟨l3, hl3⟩ : ∃ n, n = N.funcs.length := ⟨_, rfl⟩
        obtain ⟨l2, hl2⟩ : ∃ n, n = N.globs.length := ⟨_, rfl⟩
        have hRt := fun wx (hx : Below wc.heap.size wc wx) => rtree_any N Bs Bg Bf Be ds dg df de wx hOkN.wf (hMR.old hx) hOkN.low
        have hRc := fun wx (hx : Below wc.heap.size wc wx) => rcheck_any N Bs Bg Bf Be ds dg df de wx hOkN.wf (hMR.old hx) hOkN.low
        have hTr := fun wx (hx : Below wc.heap.size wc wx) => tree_any N Bs Bg Bf Be ds dg df de wx hOkN.wf (hMR.old hx)
        have hTc := fun wx (hx : Below wc.heap.size wc wx) => check_any N Bs Bg Bf Be ds dg df de wx hOkN.wf (hMR.old hx)
        simp only [← hl1, ← hl2, ← hl3, ← hl4] at hRt hRc hTr hTc hBox
        have HT1 := Lib.hid (told_all (treeF N) (tree_zero9 N))
        have HT2 := Lib.hid (told_all (checkF N) (check_zero9 N))
        have YRt := Lib.hid hRt
        have YRc := Lib.hid hRc
        have YTr := Lib.hid hTr
        have YTc := Lib.hid hTc
        clear hRt hRc hTr hTc hl1 hl2 hl3 hl4 hMR hOkN HN5 HFn HC HRl HRt HRb HR HV HT HbT HSz HOf HOk HSi HFe HBo HF HNl HNt HNb HLs HNg HNf HNe HVl k0 k1 k2 k3 k4 m0 m1 m2 m3 z1 zq qf0 qf1 qf2 qf3 qf4 gf0 gf1 gf3 KM5 KR5 HRc
        generalize treeF N = u at *
        generalize checkF N = v at *
        obtain ⟨u0, u1, u2⟩ := u
        obtain ⟨v0, v1, v2⟩ := v
        dsimp only at HT1 HT2
        have HBl := Lib.hid hBel
        have K1 := Lib.hid hBox
        clear hBel hBox hcut
        obtain ⟨m0, m1, m2, m3⟩ := K1.out.c4
        have z1 := K1.out.lt
        go_wp2_with fail
        refine (YRt.out _ (Below.refl _ _)).mono ?_
        rintro e y2 ⟨rfl, hb2⟩
        have HB2 := Lib.hid hb2
        have K2 := Lib.hid (K1.out.old hb2)
        have z2 := K2.out.lt
        clear hb2 m0 m1 m2 m3 K1 z1 YRt
        dsimp only
        obtain ⟨m0, m1, m2, m3⟩ := K2.out.c4
        go_wp2_with fail
        refine (YRc.out _ HB2.out).mono ?_
        rintro e y3 ⟨rfl, hb3⟩
        have HB3 := Lib.hid (HB2.out.trans (hb3.mono HB2.out.size))
        have K3 := Lib.hid (K2.out.old hb3)
        have z3 := K3.out.lt
        clear hb3 m0 m1 m2 m3 K2 z2 YRc HB2
        dsimp only
        obtain ⟨m0, m1, m2, m3⟩ := K3.out.c4
        go_wp2_with fail
        refine (YTr.out _ HB3.out).mono ?_
        rintro e y4 ⟨rfl, hb4⟩
        have HB4 := Lib.hid (HB3.out.trans (hb4.mono HB3.out.size))
        have K4 := Lib.hid (K3.out.old hb4)
        have z4 := K4.out.lt
        clear hb4 m0 m1 m2 m3 K3 z3 YTr HB3
        dsimp only
        go_wp2_with fail
        refine (HT1.out _).mono ?_
        rintro e y5 ⟨rfl, hb5⟩
        have HB5' := Lib.hid (HB4.out.trans (hb5.mono HB4.out.size))
        have K5 := Lib.hid (K4.out.old hb5)
        have z5 := K5.out.lt
        clear hb5 HB4 K4 z4 HT1
        obtain ⟨m0, m1, m2, m3⟩ := K5.out.c4
        go_wp2_with fail
        refine (YTc.out _ HB5'.out).mono ?_
        rintro e y6 ⟨rfl, hb6⟩
        have HB6 := Lib.hid (HB5'.out.trans (hb6.mono HB5'.out.size))
        clear hb6 m0 m1 m2 m3 K5 z5 YTc
        dsimp only
        go_wp2_with fail
        refine (HT2.out _).mono ?_
        rintro e y7 ⟨rfl, hb7⟩
        have HB7 := HB6.out.trans (hb7.mono HB6.out.size)
        go_wp2
        go_ret
        exact ⟨rfl, HBl.out.trans (HB7.mono HBl.out.size)⟩
end Go.Proofs.Ytpdebnecfknohaa
