/-
  Parts: Qr Ck Ce Xm.
-/
import Derived.Test.YtpdebnecfknohaaPr00
import Derived.Test.YtpdebnecfknohaaPr01
import Derived.Test.YtpdebnecfknohaaPr02
import Derived.Test.YtpdebnecfknohaaPr03
namespace Go.Proofs.Ytpdebnecfknohaa
open Go.RowKit
set_option linter.unusedVariables false
set_option maxRecDepth 20000
set_option linter.unusedSimpArgs false
set_option maxRecDepth 20000 in
set_option maxHeartbeats 8000000 in
theorem same_any (M N : Md) (As Ag Af Ae Bs Bg Bf Be : Option Addr) (cs cg cf ce ds dg df de : Nat) (w : World) (hM : M.Fit) (hN : N.Fit) (h1 : MdR w As Ag Af Ae M) (h2 : MdR w Bs Bg Bf Be N) :
    Calls Try.prog 28 #[.agg #[.slice As M.strs.length cs, .slice Ag M.globs.length cg, .slice Af M.funcs.length cf, .slice Ae M.ents.length ce], .agg #[.slice Bs N.strs.length ds, .slice Bg N.globs.length dg, .slice Bf N.funcs.length df, .slice Be N.ents.length de]] w (BoB w (mdSame M N)) := by
  obtain ⟨m1, m2, m3, m4, m5⟩ := hM
  obtain ⟨n1, n2, n3, n4, n5⟩ := hN
  have H1 := Lib.hid h1
  have H2 := Lib.hid h2
  have M5 := Lib.hid m5
  have N5 := Lib.hid n5
  have hC2 := fun wx (hx : Below w.heap.size w wx) => (sameInts_any M.globs N.globs Ag Bg cg dg wx (h1.old hx).globs (h2.old hx).globs m2 n2).mono fun e w' h => h.bo
  have hC4 := fun wx (hx : Below w.heap.size w wx) => (sameInts_any M.ents N.ents Ae Be ce de wx (h1.old hx).ents (h2.old hx).ents m4 n4).mono fun e w' h => h.bo
  obtain ⟨v, hv⟩ : ∃ v, v = mdSame M N := ⟨_, rfl⟩
  have hE0 : (decide (M.strs = N.strs) && (decide (M.globs = N.globs) && (fnsSame M.funcs N.funcs && decide (M.ents = N.ents)))) = v := hv.symm
  rw [← hv]
  obtain ⟨v2, hv2⟩ : ∃ v, v = decide (M.globs = N.globs) := ⟨_, rfl⟩
  obtain ⟨v4, hv4⟩ : ∃ v, v = decide (M.ents = N.ents) := ⟨_, rfl⟩
  rw [← hv2] at hC2 hE0
  rw [← hv4] at hC4 hE0
  have HE0 := Lib.hid hE0
  have HC2 := Lib.hid hC2
  have HC4 := Lib.hid hC4
  clear h1 h2 hv hv2 hv4 hC2 hC4 hE0 m5 n5
  obtain ⟨ls, hls⟩ : ∃ ls, ls = M.strs.length := ⟨_, rfl⟩
  obtain ⟨lf, hlf⟩ : ∃ lf, lf = M.funcs.length := ⟨_, rfl⟩
  obtain ⟨ks, hks⟩ : ∃ ks, ks = N.strs.length := ⟨_, rfl⟩
  obtain ⟨kf, hkf⟩ : ∃ kf, kf = N.funcs.length := ⟨_, rfl⟩
  have HLS := Lib.hid hls
  have HLF := Lib.hid hlf
  have HKS := Lib.hid hks
  have HKF := Lib.hid hkf
  rw [← hls, ← hlf, ← hks, ← hkf]
  rw [← hls] at m1
  rw [← hlf] at m3
  rw [← hks] at n1
  rw [← hkf] at n3
  clear hls hlf hks hkf
  generalize M.globs.length = lg at *
  generalize M.ents.length = le at *
  generalize N.globs.length = kg at *
  generalize N.ents.length = ke at *
  have HB : Hid (Below w.heap.size w ((w.alloc (.cells #[.slice As ls cs, .slice Ag lg cg, .slice Af lf cf, .slice Ae le ce] 30)).alloc (.cells #[.slice Bs ks ds, .slice Bg kg dg, .slice Bf kf df, .slice Be ke de] 30))) := ((Below.refl _ _).alloc (Nat.le_refl _) _).alloc (by simp) _
  have K1 : Hid (Blk ((w.alloc (.cells #[.slice As ls cs, .slice Ag lg cg, .slice Af lf cf, .slice Ae le ce] 30)).alloc (.cells #[.slice Bs ks ds, .slice Bg kg dg, .slice Bf kf df, .slice Be ke de] 30)) w.heap.size 30 #[.slice As ls cs, .slice Ag lg cg, .slice Af lf cf, .slice Ae le ce]) := (Blk.new w 30 _).alloc _
  have K2 : Hid (Blk ((w.alloc (.cells #[.slice As ls cs, .slice Ag lg cg, .slice Af lf cf, .slice Ae le ce] 30)).alloc (.cells #[.slice Bs ks ds, .slice Bg kg dg, .slice Bf kf df, .slice Be ke de] 30)) (w.heap.size + 1) 30 #[.slice Bs ks ds, .slice Bg kg dg, .slice Bf kf df, .slice Be ke de]) := Blk.new' _ 30 _ _ (by simp)
  go_enter Try.func28, Try.ntmps28
  go_upto_region 1 with (fail)
  generalize (w.alloc (.cells #[.slice As ls cs, .slice Ag lg cg, .slice Af lf cf, .slice Ae le ce] 30)).alloc (.cells #[.slice Bs ks ds, .slice Bg kg dg, .slice Bf kf df, .slice Be ke de] 30) = w2 at *
  obtain ⟨c0, c1, c2, c3⟩ := K1.out.c4
  obtain ⟨d0, d1, d2, d3⟩ := K2.out.c4
  have z1 : w.heap.size < w2.heap.size := K1.out.lt
  have z2 : w.heap.size + 1 < w2.heap.size := K2.out.lt
  by_cases hsl : ls = ks
  · subst hsl
    go_wp2_with fail
    refine (HC2.out w2 HB.out).mono ?_
    rintro e w3 ⟨rfl, hb3⟩
    have HB3 := Lib.hid (HB.out.trans (hb3.mono HB.out.size))
    have K13 := Lib.hid (K1.out.old hb3)
    have K23 := Lib.hid (K2.out.old hb3)
    clear hb3 c0 c1 c2 c3 d0 d1 d2 d3 z1 z2 K1 K2
    obtain ⟨c0, c1, c2, c3⟩ := K13.out.c4
    obtain ⟨d0, d1, d2, d3⟩ := K23.out.c4
    have z1 : w.heap.size < w3.heap.size := K13.out.lt
    have z2 : w.heap.size + 1 < w3.heap.size := K23.out.lt
    cases v2 with
    | false =>
      obtain rfl : v = false := by rw [← HE0.out]; simp
      go_wp2
      go_ret
      exact ⟨by simp, HB3.out⟩
    | true =>
      go_wp2_with fail
      refine (HC4.out w3 HB3.out).mono ?_
      rintro e w4 ⟨rfl, hb4⟩
      have HB4 := Lib.hid (HB3.out.trans (hb4.mono HB3.out.size))
      have K14 := Lib.hid (K13.out.old hb4)
      have K24 := Lib.hid (K23.out.old hb4)
      clear hb4 c0 c1 c2 c3 d0 d1 d2 d3 z1 z2 K13 K23
      obtain ⟨c0, c1, c2, c3⟩ := K14.out.c4
      obtain ⟨d0, d1, d2, d3⟩ := K24.out.c4
      have z1 : w.heap.size < w4.heap.size := K14.out.lt
      have z2 : w.heap.size + 1 < w4.heap.size := K24.out.lt
      cases v4 with
      | false =>
        obtain rfl : v = false := by rw [← HE0.out]; simp
        go_wp2
        go_ret
        exact ⟨by simp, HB4.out⟩
      | true =>
        by_cases hfl : lf = kf
        · subst hfl
          have HE1 : Hid ((decide (M.strs.drop 0 = N.strs.drop 0) && fnsSame (M.funcs.drop 0) (N.funcs.drop 0)) = v) := by show _ = _; have := HE0.out; simpa using this
          clear HE0
          go_wp2_with fail
          clear c0 c1 c2 c3 d0 d1 d2 d3 z1 z2
          go_loopw [5] (fun s wr => ∃ (i : Nat), i ≤ ls ∧ s = .int .i64 (i : Int) ∧ Hid (Below w4.heap.size w4 wr) ∧ Hid ((decide (M.strs.drop i = N.strs.drop i) && fnsSame (M.funcs.drop 0) (N.funcs.drop 0)) = v)) (fun s _ => ls - (intOf s).toNat)
          case atStart => exact ⟨0, Nat.zero_le _, rfl, Below.refl _ _, HE1⟩
          case round =>
            clear HE1
            obtain ⟨i, hi, rfl, hB, hE⟩ := hrel
            have K15 := Lib.hid (K14.out.old hB.out)
            have K25 := Lib.hid (K24.out.old hB.out)
            obtain ⟨c0, c1, c2, c3⟩ := K15.out.c4
            obtain ⟨d0, d1, d2, d3⟩ := K25.out.c4
            have z1 : w.heap.size < wr.heap.size := K15.out.lt
            have z2 : w.heap.size + 1 < wr.heap.size := K25.out.lt
            by_cases hlt : i < ls
            · have hia : i < M.strs.length := by rw [← HLS.out]; exact hlt
              have hib : i < N.strs.length := by rw [← HKS.out]; exact hlt
              have hBx := HB4.out.trans (hB.out.mono HB4.out.size)
              obtain ⟨q, o, rfl, hql, e1⟩ := H1.out.strs.at_ hBx i hia (strV_get M.strs i hia)
              obtain ⟨q', o', rfl, hql', e2⟩ := H2.out.strs.at_ hBx i hib (strV_get N.strs i hib)
              have hE2 := hE.out
              rw [drop_eq_iff hia hib] at hE2
              have HE2 := Lib.hid hE2
              have hq0 : ((bs M.strs[i]).toList == (bs N.strs[i]).toList) = decide (M.strs[i] = N.strs[i]) := by rw [bs_toList, bs_toList]; by_cases h : M.strs[i] = N.strs[i] <;> simp [h]
              have hq1 : ((bs M.strs[i]).toList != (bs N.strs[i]).toList) = !decide (M.strs[i] = N.strs[i]) := by rw [bs_toList, bs_toList]; by_cases h : M.strs[i] = N.strs[i] <;> simp [h]
              have hli : (i : Int) < (ls : Int) := by omega
              clear hE hE2 hBx
              by_cases hx : M.strs[i] = N.strs[i]
              · have HE3 : Hid ((decide (M.strs.drop (i + 1) = N.strs.drop (i + 1)) && fnsSame (M.funcs.drop 0) (N.funcs.drop 0)) = v) := by show _ = _; have := HE2.out; simpa [hx] using this
                simp only [hx, decide_true, Bool.not_true] at hq0 hq1
                rw [hx] at e1
                clear HE2 hx
                generalize bs N.strs[i] = xb at *
                go_upto_region 6 with (fail)
                go_quiet ((fail))
                go_wp2
                go_roundw
                case rel => exact ⟨i + 1, by omega, by go_num, hB.out.trans ((below_dN _ _ _).mono hB.out.size), HE3⟩
                case measure => simp [intOf]; omega
              · obtain rfl : v = false := by rw [← HE2.out]; simp [hx]
                simp only [hx, decide_false, Bool.not_false] at hq0 hq1
                clear HE2 hx
                generalize bs M.strs[i] = xa at *
                generalize bs N.strs[i] = xb at *
                go_upto_region 6 with (fail)
                go_quiet ((fail))
                go_wp2
                go_ret
                exact ⟨rfl, HB4.out.trans ((hB.out.trans ((below_dN _ _ _).mono hB.out.size)).mono HB4.out.size)⟩
            · obtain rfl : i = ls := by omega
              have HE1 : Hid (fnsSame (M.funcs.drop 0) (N.funcs.drop 0) = v) := by
                show _ = _
                have := hE.out
                rw [List.drop_of_length_le (by have := HLS.out; omega), List.drop_of_length_le (by have := HKS.out; omega)] at this
                simpa using this
              have HB5 := Lib.hid (HB4.out.trans (hB.out.mono HB4.out.size))
              clear hE
              go_wp2_with fail
              clear c0 c1 c2 c3 d0 d1 d2 d3 z1 z2
              obtain ⟨w5, hw5⟩ : ∃ w5, w5 = wr := ⟨wr, rfl⟩
              subst hw5
              go_loopw [6] (fun s wr => ∃ (i : Nat), i ≤ lf ∧ s = .int .i64 (i : Int) ∧ Hid (Below w5.heap.size w5 wr) ∧ Hid (fnsSame (M.funcs.drop i) (N.funcs.drop i) = v)) (fun s _ => lf - (intOf s).toNat)
              case atStart => exact ⟨0, Nat.zero_le _, rfl, Below.refl _ _, HE1⟩
              case round =>
                clear HE1
                obtain ⟨j, hj, rfl, hBj, hE⟩ := hrel
                have K16 := Lib.hid (K15.out.old hBj.out)
                have K26 := Lib.hid (K25.out.old hBj.out)
                obtain ⟨c0, c1, c2, c3⟩ := K16.out.c4
                obtain ⟨d0, d1, d2, d3⟩ := K26.out.c4
                have z1 : w.heap.size < wr.heap.size := K16.out.lt
                have z2 : w.heap.size + 1 < wr.heap.size := K26.out.lt
                have HBx := Lib.hid (HB5.out.trans (hBj.out.mono HB5.out.size))
                by_cases hjlt : j < lf
                · have hia : j < M.funcs.length := by rw [← HLF.out]; exact hjlt
                  have hib : j < N.funcs.length := by rw [← HKF.out]; exact hjlt
                  obtain ⟨b, o, A1, a1, A2, a2, A3, a3, rfl, hbl, ⟨e0, e1, e2, e3, e4⟩, r1, r2, r3⟩ := H1.out.funcs.at_ HBx.out j hia
                  obtain ⟨b', o', B1, b1, B2, b2, B3, b3, rfl, hbl', ⟨f0, f1, f2, f3, f4⟩, s1, s2, s3⟩ := H2.out.funcs.at_ HBx.out j hib
                  have hE2 := hE.out
                  rw [fnsSame_drop hia hib] at hE2
                  obtain ⟨l1, l2, l3, l4⟩ := M5.out _ (List.getElem_mem hia)
                  obtain ⟨k1, k2, k3, k4⟩ := N5.out _ (List.getElem_mem hib)
                  generalize M.funcs[j] = f at *
                  generalize N.funcs[j] = g at *
                  obtain ⟨fn, fp, fl, fs, fb⟩ := f
                  obtain ⟨gn, gp, gl, gs, gb⟩ := g
                  dsimp only at *
                  have hD1 := fun wx (hx : Below wr.heap.size wr wx) => (sameInts_any fl gl A1 B1 a1 b1 wx (r1.old hx (by omega)) (s1.old hx (by omega)) l1 k1).mono fun e w' h => h.bo
                  have hD2 := fun wx (hx : Below wr.heap.size wr wx) => (sameInts_any fs gs A2 B2 a2 b2 wx (r2.old hx (by omega)) (s2.old hx (by omega)) l2 k2).mono fun e w' h => h.bo
                  have hD3 := fun wx (hx : Below wr.heap.size wr wx) => (rsame_any fb.size fb gb A3 B3 a3 b3 (fb.same gb) wx (Nat.le_refl _) (by omega) (by omega) (by omega) (by omega) (r3.old hx) (s3.old hx) rfl).mono fun e w' h => QuB.bo h
                  simp only [fnSame] at hE2
                  obtain ⟨vl, hvl⟩ : ∃ v, v = decide (fl = gl) := ⟨_, rfl⟩
                  obtain ⟨vs, hvs⟩ : ∃ v, v = decide (fs = gs) := ⟨_, rfl⟩
                  rw [← hvl] at hD1 hE2
                  rw [← hvs] at hD2 hE2
                  generalize fb.same gb = vb at *
                  have hlf : fb.len ≤ 10000000 := by have := Bd.len_le fb; omega
                  have hlg : gb.len ≤ 10000000 := by have := Bd.len_le gb; omega
                  generalize fl.length = lfl at *
                  generalize gl.length = lgl at *
                  generalize fs.length = lfs at *
                  generalize gs.length = lgs at *
                  generalize fb.len = lfb at *
                  generalize gb.len = lgb at *
                  have HE2 := Lib.hid hE2
                  have HD1 := Lib.hid hD1
                  have HD2 := Lib.hid hD2
                  have HD3 := Lib.hid hD3
                  have HBw : Hid (Below wr.heap.size wr ((wr.alloc (.cells #[.int .i64 fn, .int .i64 fp, .slice A1 lfl a1, .slice A2 lfs a2, .slice A3 lfb a3] 40)).alloc (.cells #[.int .i64 gn, .int .i64 gp, .slice B1 lgl b1, .slice B2 lgs b2, .slice B3 lgb b3] 40))) := ((Below.refl _ _).alloc (Nat.le_refl _) _).alloc (by simp) _
                  have Q1 : Hid (Blk ((wr.alloc (.cells #[.int .i64 fn, .int .i64 fp, .slice A1 lfl a1, .slice A2 lfs a2, .slice A3 lfb a3] 40)).alloc (.cells #[.int .i64 gn, .int .i64 gp, .slice B1 lgl b1, .slice B2 lgs b2, .slice B3 lgb b3] 40)) wr.heap.size 40 #[.int .i64 fn, .int .i64 fp, .slice A1 lfl a1, .slice A2 lfs a2, .slice A3 lfb a3]) := (Blk.new wr 40 _).alloc _
                  have Q2 : Hid (Blk ((wr.alloc (.cells #[.int .i64 fn, .int .i64 fp, .slice A1 lfl a1, .slice A2 lfs a2, .slice A3 lfb a3] 40)).alloc (.cells #[.int .i64 gn, .int .i64 gp, .slice B1 lgl b1, .slice B2 lgs b2, .slice B3 lgb b3] 40)) (wr.heap.size + 1) 40 #[.int .i64 gn, .int .i64 gp, .slice B1 lgl b1, .slice B2 lgs b2, .slice B3 lgb b3]) := Blk.new' _ 40 _ _ (by simp)
                  have HFin : Hid (∀ wx, Below wr.heap.size wr wx → Below w.heap.size w wx ∧ Below w5.heap.size w5 wx) := fun wx hx => ⟨HBx.out.trans (hx.mono HBx.out.size), hBj.out.trans (hx.mono hBj.out.size)⟩
                  clear hE hE2 hD1 hD2 hD3 r1 r2 r3 s1 s2 s3 hvl hvs
                  have hli : (j : Int) < (lf : Int) := by omega
                  go_upto_region 13 with (fail)
                  generalize (wr.alloc (.cells #[.int .i64 fn, .int .i64 fp, .slice A1 lfl a1, .slice A2 lfs a2, .slice A3 lfb a3] 40)).alloc (.cells #[.int .i64 gn, .int .i64 gp, .slice B1 lgl b1, .slice B2 lgs b2, .slice B3 lgb b3] 40) = w6 at *
                  clear c0 c1 c2 c3 d0 d1 d2 d3 e0 e1 e2 e3 e4 f0 f1 f2 f3 f4
                  obtain ⟨c0, c1, c2, c3, c4⟩ := Q1.out.c5
                  obtain ⟨d0, d1, d2, d3, d4⟩ := Q2.out.c5
                  have y1 : wr.heap.size < w6.heap.size := Q1.out.lt
                  have y2 : wr.heap.size + 1 < w6.heap.size := Q2.out.lt
                  by_cases hn : fn = gn
                  · subst hn
                    by_cases hp : fp = gp
                    · subst hp
                      go_wp2_with fail
                      refine (HD1.out w6 HBw.out).mono ?_
                      rintro e w7 ⟨rfl, hb7⟩
                      have HB7 := Lib.hid (HBw.out.trans (hb7.mono HBw.out.size))
                      have Q17 := Lib.hid (Q1.out.old hb7)
                      have Q27 := Lib.hid (Q2.out.old hb7)
                      clear hb7 c0 c1 c2 c3 c4 d0 d1 d2 d3 d4 y1 y2 Q1 Q2
                      obtain ⟨c0, c1, c2, c3, c4⟩ := Q17.out.c5
                      obtain ⟨d0, d1, d2, d3, d4⟩ := Q27.out.c5
                      have y1 : wr.heap.size < w7.heap.size := Q17.out.lt
                      have y2 : wr.heap.size + 1 < w7.heap.size := Q27.out.lt
                      cases vl with
                      | false =>
                        obtain rfl : v = false := by rw [← HE2.out]; simp
                        go_wp2
                        go_ret
                        exact ⟨rfl, (HFin.out _ HB7.out).1⟩
                      | true =>
                        go_wp2_with fail
                        refine (HD2.out w7 HB7.out).mono ?_
                        rintro e w8 ⟨rfl, hb8⟩
                        have HB8 := Lib.hid (HB7.out.trans (hb8.mono HB7.out.size))
                        have Q18 := Lib.hid (Q17.out.old hb8)
                        have Q28 := Lib.hid (Q27.out.old hb8)
                        clear hb8 c0 c1 c2 c3 c4 d0 d1 d2 d3 d4 y1 y2 Q17 Q27
                        obtain ⟨c0, c1, c2, c3, c4⟩ := Q18.out.c5
                        obtain ⟨d0, d1, d2, d3, d4⟩ := Q28.out.c5
                        have y1 : wr.heap.size < w8.heap.size := Q18.out.lt
                        have y2 : wr.heap.size + 1 < w8.heap.size := Q28.out.lt
                        cases vs with
                        | false =>
                          obtain rfl : v = false := by rw [← HE2.out]; simp
                          go_wp2
                          go_ret
                          exact ⟨rfl, (HFin.out _ HB8.out).1⟩
                        | true =>
                          go_wp2_with fail
                          refine (HD3.out w8 HB8.out).mono ?_
                          rintro e w9 ⟨rfl, hb9⟩
                          have HB9 := Lib.hid (HB8.out.trans (hb9.mono HB8.out.size))
                          clear hb9 c0 c1 c2 c3 c4 d0 d1 d2 d3 d4 y1 y2 Q18 Q28
                          cases vb with
                          | false =>
                            obtain rfl : v = false := by rw [← HE2.out]; simp
                            go_wp2
                            go_ret
                            exact ⟨rfl, (HFin.out _ HB9.out).1⟩
                          | true =>
                            have HE3 : Hid (fnsSame (M.funcs.drop (j + 1)) (N.funcs.drop (j + 1)) = v) := by show _ = _; have := HE2.out; simpa using this
                            go_wp2
                            go_roundw
                            case rel => exact ⟨j + 1, by omega, by go_num, (HFin.out _ HB9.out).2, HE3⟩
                            case measure => simp [intOf]; omega
                    · obtain rfl : v = false := by rw [← HE2.out]; simp [hp]
                      have hpi : (fp == gp) = false := by simpa using hp
                      have hpj : (fp != gp) = true := by simpa using hp
                      go_wp2
                      go_ret
                      exact ⟨rfl, (HFin.out _ HBw.out).1⟩
                  · obtain rfl : v = false := by rw [← HE2.out]; simp [hn]
                    have hni : (fn == gn) = false := by simpa using hn
                    have hnj : (fn != gn) = true := by simpa using hn
                    go_wp2
                    go_ret
                    exact ⟨rfl, (HFin.out _ HBw.out).1⟩
                · obtain rfl : j = lf := by omega
                  obtain rfl : v = true := by rw [← hE.out, List.drop_of_length_le (by have := HLF.out; omega), List.drop_of_length_le (by have := HKF.out; omega)]; rfl
                  clear hE
                  go_wp2
                  go_ret
                  exact ⟨rfl, HBx.out⟩
        · obtain rfl : v = false := by rw [← HE0.out, fnsSame_len _ _ (by rw [← HLF.out, ← HKF.out]; exact hfl)]; simp
          have hfi : ((lf : Int) == (kf : Int)) = false := by simp; omega
          have hfj : ((lf : Int) != (kf : Int)) = true := by simp; omega
          go_wp2
          go_ret
          exact ⟨rfl, HB4.out⟩
  · obtain rfl : v = false := by
      rw [← HE0.out]
      have : decide (M.strs = N.strs) = false := by simp; intro h; rw [HLS.out, HKS.out, h] at hsl; exact hsl rfl
      rw [this]; rfl
    have hsi : ((ls : Int) == (ks : Int)) = false := by simp; omega
    have hsj : ((ls : Int) != (ks : Int)) = true := by simp; omega
    go_wp2
    go_ret
    exact ⟨rfl, HB.out⟩
end Go.Proofs.Ytpdebnecfknohaa
namespace Go.Proofs.Ytpdebnecfknohaa
open Go.RowKit
set_option linter.unusedVariables false
set_option maxRecDepth 20000
set_option maxRecDepth 20000 in
set_option maxHeartbeats 1000000 in
theorem cloneStr_any (Aa : Option Addr) (ca : Nat) (l : List (List UInt8)) (w : World) (h : RdS (fun _ => True) w Aa l.length 1 (strV l)) (hl : l.length ≤ 1000000) :
    Calls Try.prog 57 #[.slice Aa l.length ca] w fun e w' => ∃ A c, e = .returned (.slice A l.length c) ∧ w'.ownsRow w.heap.size 9 1 (.slice A l.length c) l.length (strV l) ∧ Below w.heap.size w w' := by
  obtain ⟨i0, hi0, hz0, hz1, hz2⟩ := info_parts info9
  obtain ⟨n, hnl⟩ : ∃ n, n = l.length := ⟨_, rfl⟩
  have HNL := Lib.hid hnl
  have HFL : Hid ((strV l).length = n * 1) := by show _ = _; rw [hnl]; exact h.1
  cases Aa with
  | none =>
    have h0 : l = [] := by
      rcases Nat.eq_zero_or_pos l.length with h0 | h0
      · exact List.eq_nil_of_length_eq_zero h0
      · obtain ⟨b, o, hA, _⟩ := h.2 h0; cases hA
    subst h0
    clear h
    have hq := fun W => Lib.run_eql_slice_nil (P := Try.prog) W 26 9 none 0 ca 0 0 Try.underlying26
    simp only [List.length_nil]
    go_enter Try.func57, Try.ntmps57
    go_wp2
    go_ret
    exact ⟨none, 0, rfl, World.ownsRow_nil _ _ _ _, Below.refl _ _⟩
  | some a =>
    have hcc : ∀ j u, (strV l)[j]? = some u → w.cell? (a.add j) = some u := by
      intro j u hu
      have hp : 0 < l.length := by
        rcases Nat.eq_zero_or_pos l.length with h0 | h0
        · have : l = [] := List.eq_nil_of_length_eq_zero h0
          subst this; simp [strV] at hu
        · exact h0
      obtain ⟨b, o, hA, _, hc⟩ := h.2 hp
      injection hA with hA
      subst hA
      rw [Go.WideShapes.add_plain]
      exact hc j u hu
    have HF := Lib.hid hcc
    rw [← hnl] at hl ⊢
    clear hcc h hnl
    have hq := fun W => Lib.run_eql_slice_nil (P := Try.prog) W 26 9 (some a) n ca 0 0 Try.underlying26
    go_enter Try.func57, Try.ntmps57
    go_wp2_with (first | (at_builtin; refine wpList_append_own_at _ rfl (.tmp 5) (.tmp 6) 26 rfl w.heap.size 9 i0 (.string ⟨#[]⟩) 1 16 Try.underlying26 hi0 hz0 hz1 hz2 rfl (by decide) (.slice (some ⟨w.heap.size, 0, none⟩) 0 0) 0 [] rfl ?d1 a n ca (strV l) rfl ?c1 ?c2 ?c3 ?c4 ?c5 ?c6 ?_))
    case d1 => exact World.ownsRow_made w #[] 0 (Nat.le_refl _) (by unfold maxLen; omega) rfl
    case c1 => exact HFL.out
    case c2 =>
      intro j u hu
      have := HF.out j u hu
      rw [World.cell?_alloc_lt w _ _ (World.block_lt_of_cell? w _ this)]
      exact this
    case c3 => intro u hu; simp [strV] at hu; obtain ⟨x, _, rfl⟩ := hu; rfl
    case c4 => unfold maxLen; omega
    case c5 => omega
    case c6 => simp
    intro v' w1 hown hg _ hat
    have hown' : w1.ownsRow w.heap.size 9 1 v' n (strV l) := by simpa using hown
    obtain ⟨A, c, rfl⟩ := own_slice hown'
    have HO := Lib.hid hown'
    have HB := Lib.hid (((Below.refl w.heap.size w).alloc (Nat.le_refl _) (.cells #[] 9)).grown hg (by simp) (fun k hk => by simp [Value.ownBlock] at hk; omega))
    clear hown hown' hg hat
    go_wp2
    go_ret
    exact ⟨A, c, rfl, HO.out, HB.out⟩
set_option maxRecDepth 20000 in
set_option maxHeartbeats 1000000 in
theorem cloneInt_any (Aa : Option Addr) (ca : Nat) (l : List Int) (w : World) (h : RdS (fun _ => True) w Aa l.length 1 (intV l)) (hl : l.length ≤ 1000000) :
    Calls Try.prog 77 #[.slice Aa l.length ca] w fun e w' => ∃ A c, e = .returned (.slice A l.length c) ∧ w'.ownsRow w.heap.size 3 1 (.slice A l.length c) l.length (intV l) ∧ Below w.heap.size w w' := by
  obtain ⟨i0, hi0, hz0, hz1, hz2⟩ := info_parts info3
  obtain ⟨n, hnl⟩ : ∃ n, n = l.length := ⟨_, rfl⟩
  have HNL := Lib.hid hnl
  have HFL : Hid ((intV l).length = n * 1) := by show _ = _; rw [hnl]; exact h.1
  cases Aa with
  | none =>
    have h0 : l = [] := by
      rcases Nat.eq_zero_or_pos l.length with h0 | h0
      · exact List.eq_nil_of_length_eq_zero h0
      · obtain ⟨b, o, hA, _⟩ := h.2 h0; cases hA
    subst h0
    clear h
    have hq := fun W => Lib.run_eql_slice_nil (P := Try.prog) W 27 3 none 0 ca 0 0 Try.underlying27
    simp only [List.length_nil]
    go_enter Try.func77, Try.ntmps77
    go_wp2
    go_ret
    exact ⟨none, 0, rfl, World.ownsRow_nil _ _ _ _, Below.refl _ _⟩
  | some a =>
    have hcc : ∀ j u, (intV l)[j]? = some u → w.cell? (a.add j) = some u := by
      intro j u hu
      have hp : 0 < l.length := by
        rcases Nat.eq_zero_or_pos l.length with h0 | h0
        · have : l = [] := List.eq_nil_of_length_eq_zero h0
          subst this; simp [intV] at hu
        · exact h0
      obtain ⟨b, o, hA, _, hc⟩ := h.2 hp
      injection hA with hA
      subst hA
      rw [Go.WideShapes.add_plain]
      exact hc j u hu
    have HF := Lib.hid hcc
    rw [← hnl] at hl ⊢
    clear hcc h hnl
    have hq := fun W => Lib.run_eql_slice_nil (P := Try.prog) W 27 3 (some a) n ca 0 0 Try.underlying27
    go_enter Try.func77, Try.ntmps77
    go_wp2_with (first | (at_builtin; refine wpList_append_own_at _ rfl (.tmp 5) (.tmp 6) 27 rfl w.heap.size 3 i0 (.int .i64 0) 1 8 Try.underlying27 hi0 hz0 hz1 hz2 rfl (by decide) (.slice (some ⟨w.heap.size, 0, none⟩) 0 0) 0 [] rfl ?d1 a n ca (intV l) rfl ?c1 ?c2 ?c3 ?c4 ?c5 ?c6 ?_))
    case d1 => exact World.ownsRow_made w #[] 0 (Nat.le_refl _) (by unfold maxLen; omega) rfl
    case c1 => exact HFL.out
    case c2 =>
      intro j u hu
      have := HF.out j u hu
      rw [World.cell?_alloc_lt w _ _ (World.block_lt_of_cell? w _ this)]
      exact this
    case c3 => intro u hu; simp [intV] at hu; obtain ⟨x, _, rfl⟩ := hu; rfl
    case c4 => unfold maxLen; omega
    case c5 => omega
    case c6 => simp
    intro v' w1 hown hg _ hat
    have hown' : w1.ownsRow w.heap.size 3 1 v' n (intV l) := by simpa using hown
    obtain ⟨A, c, rfl⟩ := own_slice hown'
    have HO := Lib.hid hown'
    have HB := Lib.hid (((Below.refl w.heap.size w).alloc (Nat.le_refl _) (.cells #[] 3)).grown hg (by simp) (fun k hk => by simp [Value.ownBlock] at hk; omega))
    clear hown hown' hg hat
    go_wp2
    go_ret
    exact ⟨A, c, rfl, HO.out, HB.out⟩
end Go.Proofs.Ytpdebnecfknohaa
namespace Go.Proofs.Ytpdebnecfknohaa
open Go.RowKit
set_option linter.unusedVariables false
set_option maxRecDepth 20000
/-- The cells of functions. -/
def FnCells (S : Nat → Prop) (w : World) (cs : List Value) (L : List Fn) : Prop := cs.length = L.length * 5 ∧ (∀ u ∈ cs, u.oneCell' = true) ∧ ∀ i (h : i < L.length), ∃ fs, FnS S w fs L[i] ∧ ∀ j u, fs[j]? = some u → cs[i * 5 + j]? = some u
theorem fnS_len {S : Nat → Prop} {w : World} {fs : List Value} {f : Fn} (h : FnS S w fs f) : fs.length = 5 := by
  obtain ⟨Al, cl, As, cs', Ab, cb, rfl, _⟩ := h
  rfl
theorem fns_cells {S : Nat → Prop} {w : World} {b : Nat} : ∀ (L : List Fn) (o : Nat), (∀ i (h : i < L.length), ∃ fs, FnS S w fs L[i] ∧ ∀ j u, fs[j]? = some u → w.cell? ⟨b, o + i * 5 + j, none⟩ = some u) → ∃ cs, FnCells S w cs L ∧ ∀ j u, cs[j]? = some u → w.cell? ⟨b, o + j, none⟩ = some u
  | [], o, h => ⟨[], ⟨rfl, fun u hu => by simp at hu, fun i hi => by simp at hi⟩, fun j u hj => by simp at hj⟩
  | f :: L, o, h => by
    obtain ⟨fs, hf, hc⟩ := h 0 (by simp)
    have hl := fnS_len hf
    obtain ⟨cr, ⟨h1, h2, h3⟩, h4⟩ := fns_cells L (o + 5) (fun i hi => by
      obtain ⟨fs', hf', hc'⟩ := h (i + 1) (by simpa using hi)
      refine ⟨fs', hf', fun j u hj => ?_⟩
      rw [show o + 5 + i * 5 + j = o + (i + 1) * 5 + j from by omega]
      exact hc' j u hj)
    refine ⟨fs ++ cr, ⟨by simp [hl, h1]; omega, fun u hu => ?_, fun i hi => ?_⟩, fun j u hj => ?_⟩
    · rcases List.mem_append.1 hu with hu | hu
      · obtain ⟨Al, cl, As, cs', Ab, cb, rfl, _⟩ := hf
        simp only [List.mem_cons, List.not_mem_nil, or_false] at hu
        rcases hu with rfl | rfl | rfl | rfl | rfl <;> rfl
      · exact h2 u hu
    · cases i with
      | zero =>
        refine ⟨fs, hf, fun j u hj => ?_⟩
        have hjl : j < fs.length := by
          rcases Nat.lt_or_ge j fs.length with h | h
          · exact h
          · rw [List.getElem?_eq_none h] at hj; cases hj
        rw [show 0 * 5 + j = j from by omega, List.getElem?_append_left hjl]
        exact hj
      | succ i =>
        obtain ⟨fs', hf', hc'⟩ := h3 i (by simpa using hi)
        refine ⟨fs', hf', fun j u hj => ?_⟩
        rw [List.getElem?_append_right (by omega), hl, show (i + 1) * 5 + j - 5 = i * 5 + j from by omega]
        exact hc' j u hj
    · rcases Nat.lt_or_ge j fs.length with hjl | hjl
      · rw [List.getElem?_append_left hjl] at hj
        have := hc j u hj
        rwa [show o + 0 * 5 + j = o + j from by omega] at this
      · rw [List.getElem?_append_right hjl] at hj
        have := h4 _ u hj
        rwa [show o + 5 + (j - fs.length) = o + j from by omega] at this
theorem RdS.low {S : Nat → Prop} {w : World} {A : Option Addr} {n : Nat} {xs : List Value} (r : RdS S w A n 1 xs) : RdS (fun k => k < w.heap.size ∧ S k) w A n 1 xs := by
  refine ⟨r.1, fun hp => ?_⟩
  obtain ⟨b, o, hA, hS, hc⟩ := r.2 hp
  have hx : 0 < xs.length := by rw [r.1]; omega
  exact ⟨b, o, hA, ⟨World.block_lt_of_cell? w ⟨b, o + 0, none⟩ (hc 0 _ (List.getElem?_eq_getElem hx)), hS⟩, hc⟩
theorem FnsS.low {S : Nat → Prop} {w : World} {A : Option Addr} {L : List Fn} (h : FnsS S w A L) : FnsS (fun k => k < w.heap.size ∧ S k) w A L := fun hp => by
  obtain ⟨b, o, hA, hS, hb⟩ := h hp
  obtain ⟨fs0, hf0, hc0⟩ := hb 0 hp
  have hl0 := fnS_len hf0
  have hlt : b < w.heap.size := World.block_lt_of_cell? w ⟨b, o + 0 * 5 + 0, none⟩ (hc0 0 _ (List.getElem?_eq_getElem (by omega)))
  refine ⟨b, o, hA, ⟨hlt, hS⟩, fun i hi => ?_⟩
  obtain ⟨fs, ⟨Al, cl, As, cs', Ab, cb, e, r1, r2, r3⟩, hc⟩ := hb i hi
  exact ⟨fs, ⟨Al, cl, As, cs', Ab, cb, e, r1.low, r2.low, r3.low⟩, hc⟩
theorem FnCells.kept {S S' : Nat → Prop} {w w' : World} {cs : List Value} {L : List Fn} (h : FnCells S w cs L) (hk : Kept S w w') (hS : ∀ k, S k → k < w.heap.size → S' k) : FnCells S' w' cs L := ⟨h.1, h.2.1, fun i hi => by
  obtain ⟨fs, hf, hc⟩ := h.2.2 i hi
  exact ⟨fs, hf.kept hk hS, hc⟩⟩
set_option maxRecDepth 20000 in
set_option maxHeartbeats 1000000 in
theorem cloneF_any (S : Nat → Prop) (Af : Option Addr) (cf : Nat) (L : List Fn) (w : World) (h : FnsS S w Af L) (hl : L.length ≤ 1000000) :
    Calls Try.prog 78 #[.slice Af L.length cf] w fun e w' => ∃ A c, e = .returned (.slice A L.length c) ∧ (∃ cs, w'.ownsRow w.heap.size 40 5 (.slice A L.length c) L.length cs ∧ FnCells S w cs L) ∧ Below w.heap.size w w' := by
  obtain ⟨i0, hi0, hz0, hz1, hz2⟩ := info_parts info40
  obtain ⟨n, hnl⟩ : ∃ n, n = L.length := ⟨_, rfl⟩
  have HNL := Lib.hid hnl
  cases Af with
  | none =>
    have h0 : L = [] := by
      rcases Nat.eq_zero_or_pos L.length with h0 | h0
      · exact List.eq_nil_of_length_eq_zero h0
      · obtain ⟨b, o, hA, _⟩ := h h0; cases hA
    subst h0
    clear h
    have hq := fun W => Lib.run_eql_slice_nil (P := Try.prog) W 28 40 none 0 cf 0 0 Try.underlying28
    simp only [List.length_nil]
    go_enter Try.func78, Try.ntmps78
    go_wp2
    go_ret
    exact ⟨none, 0, rfl, ⟨[], World.ownsRow_nil _ _ _ _, rfl, fun u hu => by simp at hu, fun i hi => by simp at hi⟩, Below.refl _ _⟩
  | some a =>
    obtain ⟨cs, hcs, hcc⟩ : ∃ cs, FnCells S w cs L ∧ ∀ j u, cs[j]? = some u → w.cell? (a.add j) = some u := by
      rcases Nat.eq_zero_or_pos L.length with h0 | h0
      · have ht : L = [] := List.eq_nil_of_length_eq_zero h0
        subst ht
        exact ⟨[], ⟨rfl, fun u hu => by simp at hu, fun i hi => by simp at hi⟩, fun j u hj => by simp at hj⟩
      · obtain ⟨b, o, hA, _, hb⟩ := h h0
        injection hA with hA
        subst hA
        obtain ⟨cs, h1, h2⟩ := fns_cells L o hb
        exact ⟨cs, h1, fun j u hj => by rw [Go.WideShapes.add_plain]; exact h2 j u hj⟩
    have HF := Lib.hid hcc
    have HCS := Lib.hid hcs
    have HFL : Hid (cs.length = n * 5) := by show _ = _; rw [hcs.1, hnl]
    rw [← hnl] at hl ⊢
    clear hcc h hnl hcs
    have hq := fun W => Lib.run_eql_slice_nil (P := Try.prog) W 28 40 (some a) n cf 0 0 Try.underlying28
    go_enter Try.func78, Try.ntmps78
    go_wp2_with (first | (at_builtin; refine wpList_append_own_at _ rfl (.tmp 5) (.tmp 6) 28 rfl w.heap.size 40 i0 (.agg #[.int .i64 0, .int .i64 0, .slice none 0 0, .slice none 0 0, .slice none 0 0]) 5 88 Try.underlying28 hi0 hz0 hz1 hz2 rfl (by decide) (.slice (some ⟨w.heap.size, 0, none⟩) 0 0) 0 [] rfl ?d1 a n cf cs rfl ?c1 ?c2 ?c3 ?c4 ?c5 ?c6 ?_))
    case d1 => exact World.ownsRow_made w #[] 0 (Nat.le_refl _) (by unfold maxLen; omega) rfl
    case c1 => exact HFL.out
    case c2 =>
      intro j u hu
      have := HF.out j u hu
      rw [World.cell?_alloc_lt w _ _ (World.block_lt_of_cell? w _ this)]
      exact this
    case c3 => exact HCS.out.2.1
    case c4 => unfold maxLen; omega
    case c5 => omega
    case c6 => simp
    intro v' w1 hown hg _ hat
    have hown' : w1.ownsRow w.heap.size 40 5 v' n cs := by simpa using hown
    obtain ⟨A, c, rfl⟩ := own_slice hown'
    have HO := Lib.hid hown'
    have HB := Lib.hid (((Below.refl w.heap.size w).alloc (Nat.le_refl _) (.cells #[] 40)).grown hg (by simp) (fun k hk => by simp [Value.ownBlock] at hk; omega))
    clear hown hown' hg hat
    go_wp2
    go_ret
    exact ⟨A, c, rfl, ⟨cs, HO.out, HCS.out⟩, HB.out⟩
/-- What may be changed of a function of a copy. -/
def FMut (base : Nat) (W : World) (qf j : Nat) : Prop := ∃ x Al ll cl Ab lb cb, W.cell? ⟨qf, j * 5, none⟩ = some (.int .i64 x) ∧ W.cell? ⟨qf, j * 5 + 2, none⟩ = some (.slice Al ll cl) ∧ W.cell? ⟨qf, j * 5 + 4, none⟩ = some (.slice Ab lb cb) ∧
  (0 < ll → ∃ ql y cs, Al = some ⟨ql, 0, none⟩ ∧ base ≤ ql ∧ Blk W ql 3 cs ∧ W.cell? ⟨ql, 0, none⟩ = some (.int .i64 y)) ∧
  (0 < lb → ∃ qb cs, Ab = some ⟨qb, 0, none⟩ ∧ base ≤ qb ∧ Blk W qb 50 cs ∧ ∀ k, k < lb → LooseAt base W qb k)
theorem LooseAt.far {base qf T0 : Nat} {cs0 : Array Value} {W W' : World} {q k : Nat} {cs : Array Value} (h : LooseAt base W q k) (hq : Blk W q 50 cs) (hf : Blk W qf T0 cs0) (h43 : T0 ≠ 46) (h46 : T0 ≠ 50) (hk : ∀ k, k < W.heap.size → k ≠ qf → W'.heap[k]? = W.heap[k]?) : LooseAt base W' q k := by
  have ne : ∀ b T (ds : Array Value), Blk W b T ds → (T = 46 ∨ T = 50) → b ≠ qf := fun b T ds hb hT e => by
    subst e
    have := hb.uniq hf
    rcases hT with rfl | rfl
    · exact h43 this.symm
    · exact h46 this.symm
  have kc : ∀ (b T : Nat) (ds : Array Value), Blk W b T ds → (T = 46 ∨ T = 50) → ∀ (o : Nat) (u : Value), W.cell? ⟨b, o, none⟩ = some u → W'.cell? ⟨b, o, none⟩ = some u := fun b T ds hB hT o u hu => (World.cell?_of_block (hk b hB.lt (ne b T ds hB hT))).trans hu
  have kb : ∀ (b T : Nat) (ds : Array Value), Blk W b T ds → (T = 46 ∨ T = 50) → Blk W' b T ds := fun b T ds hB hT => (hk b hB.lt (ne b T ds hB hT)).trans hB
  obtain ⟨⟨x, h0⟩, ⟨A, m, c, h5, ha⟩, ⟨A', m', c', h6, hb'⟩⟩ := h
  refine ⟨⟨x, kc _ _ _ hq (.inr rfl) _ _ h0⟩, ⟨A, m, c, kc _ _ _ hq (.inr rfl) _ _ h5, fun hp => ?_⟩, ⟨A', m', c', kc _ _ _ hq (.inr rfl) _ _ h6, fun hp => ?_⟩⟩
  · obtain ⟨b, x, T, ds, hA, hbb, hB, hT, hc⟩ := ha hp
    exact ⟨b, x, T, ds, hA, hbb, kb _ _ _ hB hT, hT, kc _ _ _ hB hT _ _ hc⟩
  · obtain ⟨b, x, T, ds, hA, hbb, hB, hT, hc⟩ := hb' hp
    exact ⟨b, x, T, ds, hA, hbb, kb _ _ _ hB hT, hT, kc _ _ _ hB hT _ _ hc⟩
theorem LooseAt.base {base base' : Nat} {W : World} {q k : Nat} (h : LooseAt base' W q k) (hb : base ≤ base') : LooseAt base W q k := by
  obtain ⟨h0, ⟨A, m, c, h5, ha⟩, ⟨A', m', c', h6, hb'⟩⟩ := h
  refine ⟨h0, ⟨A, m, c, h5, fun hp => ?_⟩, ⟨A', m', c', h6, fun hp => ?_⟩⟩
  · obtain ⟨b, x, T, ds, hA, hbb, r⟩ := ha hp
    exact ⟨b, x, T, ds, hA, by omega, r⟩
  · obtain ⟨b, x, T, ds, hA, hbb, r⟩ := hb' hp
    exact ⟨b, x, T, ds, hA, by omega, r⟩
/-- Behind changes of the functions' row that leave this function's cells. -/
theorem FMut.far {base qf j : Nat} {cs0 : Array Value} {W W' : World} (h : FMut base W qf j) (hf : Blk W qf 40 cs0) (hk : ∀ k, k < W.heap.size → k ≠ qf → W'.heap[k]? = W.heap[k]?) (hc : ∀ t, t < 5 → W'.cell? ⟨qf, j * 5 + t, none⟩ = W.cell? ⟨qf, j * 5 + t, none⟩) : FMut base W' qf j := by
  obtain ⟨x, Al, ll, cl, Ab, lb, cb, e0, e2, e4, h1, h2⟩ := h
  refine ⟨x, Al, ll, cl, Ab, lb, cb, (hc 0 (by omega)).trans e0, (hc 2 (by omega)).trans e2, (hc 4 (by omega)).trans e4, fun hp => ?_, fun hp => ?_⟩
  · obtain ⟨ql, y, cs, hA, hb, hB, hy⟩ := h1 hp
    have hh := hk ql hB.lt (fun e => by subst e; exact absurd (hB.uniq hf) (by decide))
    exact ⟨ql, y, cs, hA, hb, hh.trans hB, (World.cell?_of_block hh).trans hy⟩
  · obtain ⟨qb, cs, hA, hb, hB, hL⟩ := h2 hp
    have hh := hk qb hB.lt (fun e => by subst e; exact absurd (hB.uniq hf) (by decide))
    exact ⟨qb, cs, hA, hb, hh.trans hB, fun k hkk => (hL k hkk).far hB hf (by decide) (by decide) hk⟩
theorem FMut.base {base base' : Nat} {W : World} {qf j : Nat} (h : FMut base' W qf j) (hb : base ≤ base') : FMut base W qf j := by
  obtain ⟨x, Al, ll, cl, Ab, lb, cb, e0, e2, e4, h1, h2⟩ := h
  refine ⟨x, Al, ll, cl, Ab, lb, cb, e0, e2, e4, fun hp => ?_, fun hp => ?_⟩
  · obtain ⟨ql, y, cs, hA, hbb, r⟩ := h1 hp
    exact ⟨ql, y, cs, hA, by omega, r⟩
  · obtain ⟨qb, cs, hA, hbb, hB, hL⟩ := h2 hp
    exact ⟨qb, cs, hA, by omega, hB, fun k hk => (hL k hk).base hb⟩
theorem FMut.old {base qf j : Nat} {W W' : World} (h : FMut base W qf j) (hb : Below W.heap.size W W') : FMut base W' qf j := by
  have kc : ∀ (b o : Nat) (u : Value), W.cell? ⟨b, o, none⟩ = some u → W'.cell? ⟨b, o, none⟩ = some u := fun b o u hu => cell_old hb (World.block_lt_of_cell? W ⟨b, o, none⟩ hu) hu
  obtain ⟨x, Al, ll, cl, Ab, lb, cb, e0, e2, e4, h1, h2⟩ := h
  refine ⟨x, Al, ll, cl, Ab, lb, cb, kc _ _ _ e0, kc _ _ _ e2, kc _ _ _ e4, fun hp => ?_, fun hp => ?_⟩
  · obtain ⟨ql, y, cs, hA, hbb, hB, hy⟩ := h1 hp
    exact ⟨ql, y, cs, hA, hbb, hB.old hb, kc _ _ _ hy⟩
  · obtain ⟨qb, cs, hA, hbb, hB, hL⟩ := h2 hp
    exact ⟨qb, cs, hA, hbb, hB.old hb, fun k hk => (hL k hk).old hb⟩
/-- A body like that, in rows of the call's own. -/
def CbV (S0 : Nat → Prop) (B : Nat) (w' : World) (A : Option Addr) (t : Bd) : Prop := (0 < t.len → ∃ q cs, A = some ⟨q, 0, none⟩ ∧ B ≤ q ∧ Blk w' q 50 cs ∧ ∀ k, k < t.len → LooseAt B w' q k) ∧ BodyS (fun k => B ≤ k ∨ S0 k) w' A t
theorem CbV.far {S0 : Nat → Prop} {B g : Nat} {cs0 : Array Value} {w W' : World} {A : Option Addr} {t : Bd} (h : CbV S0 B w A t) (hf : Blk w g 40 cs0) (hg : g < B) (hS : ¬ S0 g) (hk : ∀ k, k < w.heap.size → k ≠ g → W'.heap[k]? = w.heap[k]?) : CbV S0 B W' A t := by
  refine ⟨fun hp => ?_, h.2.kept (fun k hk' hlt => hk k hlt (fun e => ?_)) (fun _ h _ => h)⟩
  · obtain ⟨q, cs, hA, hq, hB, hL⟩ := h.1 hp
    exact ⟨q, cs, hA, hq, (hk q hB.lt (by omega)).trans hB, fun k hkk => (hL k hkk).far hB hf (by decide) (by decide) hk⟩
  · subst e
    rcases hk' with h1 | h1
    · omega
    · exact hS h1
/-- What Copy's loop keeps. -/
structure CpF (S1 : Nat → Prop) (base : Nat) (wr : World) (qf : Nat) (L : List Fn) (i : Nat) : Prop where
  row : ∃ cs, Blk wr qf 40 cs ∧ L.length * 5 ≤ cs.size
  qb : base ≤ qf
  fns : ∀ j (h : j < L.length), ∃ fs, FnS S1 wr fs L[j] ∧ ∀ t u, fs[t]? = some u → wr.cell? ⟨qf, j * 5 + t, none⟩ = some u
  muts : ∀ j, j < i → FMut base wr qf j
theorem CpF.reads {S1 : Nat → Prop} {base : Nat} {wr : World} {qf i : Nat} {L : List Fn} (h : CpF S1 base wr qf L i) : FnsS (fun _ => True) wr (some ⟨qf, 0, none⟩) L := fun hp => by
  refine ⟨qf, 0, rfl, trivial, fun j hj => ?_⟩
  obtain ⟨fs, hf, hc⟩ := h.fns j hj
  refine ⟨fs, hf.kept (fun _ _ _ => rfl) (fun _ _ _ => trivial), fun t u ht => ?_⟩
  rw [Nat.zero_add]
  exact hc t u ht
theorem CpF.old {S1 : Nat → Prop} {base : Nat} {wr w' : World} {qf i : Nat} {L : List Fn} (h : CpF S1 base wr qf L i) (hb : Below wr.heap.size wr w') : CpF S1 base w' qf L i := by
  obtain ⟨cs, h1, h2⟩ := h.row
  refine ⟨⟨cs, h1.old hb, h2⟩, h.qb, fun j hj => ?_, fun j hj => (h.muts j hj).old hb⟩
  obtain ⟨fs, hf, hc⟩ := h.fns j hj
  exact ⟨fs, hf.kept (Below.keptS hb) (fun _ h _ => h), fun t u ht => cell_old hb h1.lt (hc t u ht)⟩
/-- Five cells of a row. -/
def put5 (w : World) (q p : Nat) (v0 v1 v2 v3 v4 : Value) : World := ((((w.setCell ⟨q, p, none⟩ v0).setCell ⟨q, p + 1, none⟩ v1).setCell ⟨q, p + 2, none⟩ v2).setCell ⟨q, p + 3, none⟩ v3).setCell ⟨q, p + 4, none⟩ v4
section
variable {w : World} {q p : Nat} {v0 v1 v2 v3 v4 : Value}
theorem put5_heap {k : Nat} (h : k ≠ q) : (put5 w q p v0 v1 v2 v3 v4).heap[k]? = w.heap[k]? := by
  unfold put5
  rw [Below.heap_setCell _ _ _ _ h, Below.heap_setCell _ _ _ _ h, Below.heap_setCell _ _ _ _ h, Below.heap_setCell _ _ _ _ h, Below.heap_setCell _ _ _ _ h]
theorem put5_same (o : Nat) (h : ∀ j, j < 5 → o ≠ p + j) : (put5 w q p v0 v1 v2 v3 v4).cell? ⟨q, o, none⟩ = w.cell? ⟨q, o, none⟩ := by
  have hn : ∀ j, j < 5 → (⟨q, p + j, none⟩ : Addr) ≠ ⟨q, o, none⟩ := fun j hj e => by
    injection e with _ e2
    exact h j hj e2.symm
  unfold put5
  rw [World.cell?_setCell_other _ _ _ _ (hn 4 (by omega)), World.cell?_setCell_other _ _ _ _ (hn 3 (by omega)), World.cell?_setCell_other _ _ _ _ (hn 2 (by omega)), World.cell?_setCell_other _ _ _ _ (hn 1 (by omega)), World.cell?_setCell_other _ _ _ _ (show (⟨q, p, none⟩ : Addr) ≠ ⟨q, o, none⟩ from hn 0 (by omega))]
theorem put5_below {B : Nat} {a : World} (h : Below B a w) (hq : B ≤ q) : Below B a (put5 w q p v0 v1 v2 v3 v4) :=
  ((((h.setCell (p := ⟨q, p, none⟩) hq _).setCell (p := ⟨q, p + 1, none⟩) hq _).setCell (p := ⟨q, p + 2, none⟩) hq _).setCell (p := ⟨q, p + 3, none⟩) hq _).setCell (p := ⟨q, p + 4, none⟩) hq _
theorem put5_blk {T : Nat} {cs : Array Value} (hB : Blk w q T cs) : ∃ cs', Blk (put5 w q p v0 v1 v2 v3 v4) q T cs' ∧ cs'.size = cs.size ∧ (p + 5 ≤ cs.size → cs'[p]? = some v0 ∧ cs'[p + 1]? = some v1 ∧ cs'[p + 2]? = some v2 ∧ cs'[p + 3]? = some v3 ∧ cs'[p + 4]? = some v4) := by
  refine ⟨((((cs.setIfInBounds p v0).setIfInBounds (p + 1) v1).setIfInBounds (p + 2) v2).setIfInBounds (p + 3) v3).setIfInBounds (p + 4) v4, ((((hB.set_ p v0).set_ (p + 1) v1).set_ (p + 2) v2).set_ (p + 3) v3).set_ (p + 4) v4, by simp, fun h => ?_⟩
  refine ⟨?_, ?_, ?_, ?_, ?_⟩ <;> simp [Array.getElem?_setIfInBounds] <;> omega
end
/-- One round of Copy's loop. -/
theorem CpF.step {S1 S0 : Nat → Prop} {base : Nat} {wr w5 : World} {qf i : Nat} {L : List Fn} (h : CpF S1 base wr qf L i) (hi : i < L.length) (hb : Below wr.heap.size wr w5) {Al As Ab : Option Addr} {ll cl ls cs' lb cb Bl Bs : Nat} (hll : ll = L[i].locals.length) (hls : ls = L[i].sites.length) (hlb : lb = L[i].body.len) (hBl : wr.heap.size ≤ Bl) (hBs : wr.heap.size ≤ Bs)
    (h1 : w5.ownsRow Bl 3 1 (.slice Al ll cl) ll (intV L[i].locals)) (h2 : w5.ownsRow Bs 3 1 (.slice As ls cs') ls (intV L[i].sites)) {B0 : Nat} (hw0 : wr.heap.size ≤ B0) (hS1 : ∀ k, S1 k → k ≠ qf) (hS2 : ∀ k, wr.heap.size ≤ k → S1 k) (hS3 : ∀ k, S0 k → S1 k) (h3 : CbV S0 B0 w5 Ab L[i].body) :
    CpF S1 base (put5 w5 qf (i * 5) (.int .i64 L[i].name) (.int .i64 L[i].params) (.slice Al ll cl) (.slice As ls cs') (.slice Ab lb cb)) qf L (i + 1) := by
  obtain ⟨csr, hR, hRs⟩ := h.row
  have hR5 := hR.old hb
  obtain ⟨cs2, hR', hsz, hat⟩ := put5_blk (p := i * 5) (v0 := .int .i64 L[i].name) (v1 := .int .i64 L[i].params) (v2 := .slice Al ll cl) (v3 := .slice As ls cs') (v4 := .slice Ab lb cb) hR5
  have hsame := @put5_same w5 qf (i * 5) (.int .i64 L[i].name) (.int .i64 L[i].params) (.slice Al ll cl) (.slice As ls cs') (.slice Ab lb cb)
  have hheap := @put5_heap w5 qf (i * 5) (.int .i64 L[i].name) (.int .i64 L[i].params) (.slice Al ll cl) (.slice As ls cs') (.slice Ab lb cb)
  generalize put5 w5 qf (i * 5) (.int .i64 L[i].name) (.int .i64 L[i].params) (.slice Al ll cl) (.slice As ls cs') (.slice Ab lb cb) = W' at *
  obtain ⟨g0, g1, g2, g3, g4⟩ := hat (by omega)
  have hkk : ∀ k, k ≠ qf → W'.heap[k]? = w5.heap[k]? := fun k hk => hheap hk
  have hne : ∀ {B e s n c : Nat} {A : Option Addr} {xs : List Value}, w5.ownsRow B e s (.slice A n c) n xs → e ≠ 40 → ∀ k, some k = (Value.slice A n c).ownBlock → k ≠ qf := fun ho he k hk e => by
    subst e
    exact own_ne ho hR5 he hk
  have hs : ∀ {n c B : Nat} {A : Option Addr} {xs : List Value}, w5.ownsRow B 3 1 (.slice A n c) n xs → wr.heap.size ≤ B → RdS S1 W' A n 1 xs := fun {n c B A xs} ho hB => by
    refine ⟨ho.1, fun hp => ?_⟩
    obtain ⟨q, cap, hv, hBq, _⟩ := own_formM ho hp
    have hq := hne ho (by decide) q (by rw [hv]; rfl)
    injection hv with hv1 hv2 hv3
    subst hv1 hv3
    exact ⟨q, 0, rfl, hS2 q (by omega), fun j u hj => (World.cell?_of_block (hkk q hq)).trans (own_cellsM ho j u hj)⟩
  have hS5 : ∀ k, (B0 ≤ k ∨ S0 k) → S1 k := fun k hk => by
    rcases hk with hk | hk
    · exact hS2 k (by omega)
    · exact hS3 k hk
  have hcold : ∀ j, j ≠ i → ∀ t, t < 5 → W'.cell? ⟨qf, j * 5 + t, none⟩ = wr.cell? ⟨qf, j * 5 + t, none⟩ := fun j hj t ht => (hsame (j * 5 + t) (fun s hs => by omega)).trans (World.cell?_of_block (hb.block qf hR.lt))
  refine ⟨⟨cs2, hR', by rw [hsz]; exact hRs⟩, h.qb, fun j hj => ?_, fun j hj => ?_⟩
  · by_cases hji : j = i
    · subst hji
      subst hll hls hlb
      refine ⟨[.int .i64 L[j].name, .int .i64 L[j].params, .slice Al L[j].locals.length cl, .slice As L[j].sites.length cs', .slice Ab L[j].body.len cb], ⟨Al, cl, As, cs', Ab, cb, rfl, hs h1 hBl, hs h2 hBs, h3.2.kept (S' := S1) (fun k hk _ => hkk k (hS1 k (hS5 k hk))) (fun k hk _ => hS5 k hk)⟩, fun t u ht => ?_⟩
      rw [hR'.cell]
      match t, ht with
      | 0, ht => simp at ht; subst ht; exact g0
      | 1, ht => simp at ht; subst ht; exact g1
      | 2, ht => simp at ht; subst ht; exact g2
      | 3, ht => simp at ht; subst ht; exact g3
      | 4, ht => simp at ht; subst ht; exact g4
      | t + 5, ht => simp at ht
    · obtain ⟨fs, hf, hc⟩ := h.fns j hj
      refine ⟨fs, hf.kept (fun k hk hlt => (hkk k (hS1 k hk)).trans (hb.block k hlt)) (fun _ h _ => h), fun t u ht => ?_⟩
      have hl := fnS_len hf
      have htl : t < 5 := by
        rcases Nat.lt_or_ge t fs.length with h | h
        · omega
        · rw [List.getElem?_eq_none h] at ht; cases ht
      exact (hcold j hji t htl).trans (hc t u ht)
  · by_cases hji : j = i
    · subst hji
      refine ⟨_, Al, ll, cl, Ab, lb, cb, by rw [hR'.cell]; exact g0, by rw [hR'.cell]; exact g2, by rw [hR'.cell]; exact g4, fun hp => ?_, fun hp => ?_⟩
      · obtain ⟨q, cap, hv, hbq, _⟩ := own_formM h1 hp
        have hq := hne h1 (by decide) q (by rw [hv]; rfl)
        obtain ⟨_, cur, hB⟩ := own_blk h1 q (by rw [hv]; rfl)
        injection hv with hv1 hv2 hv3
        subst hv1 hv3
        have hx : 0 < (intV L[j].locals).length := by rw [intV_len]; omega
        have hx' : 0 < L[j].locals.length := by omega
        refine ⟨q, L[j].locals[0], cur, rfl, ?_, (hkk q hq).trans hB, (World.cell?_of_block (hkk q hq)).trans (own_cellsM h1 0 _ (intV_get L[j].locals 0 hx'))⟩
        have := h.qb
        have := hR.lt
        omega
      · subst hlb
        obtain ⟨q, cs, hA, hbq, hB, hL⟩ := h3.1 hp
        have hq : q ≠ qf := fun e => by
          subst e
          exact absurd (hB.uniq hR5) (by decide)
        have hbase : base ≤ B0 := by have := h.qb; have := hR.lt; omega
        refine ⟨q, cs, hA, by omega, (hkk q hq).trans hB, fun k hk => ?_⟩
        have h6 := (hL k hk).far hB hR5 (by decide) (by decide) (fun k _ hk => hkk k hk)
        exact h6.base hbase
    · exact ((h.muts j (by omega)).old hb).far hR5 (fun k _ hk => hkk k hk) (fun t ht => hsame (j * 5 + t) (fun s hs => by omega))
theorem CpF.first {S1 : Nat → Prop} {base : Nat} {wz : World} {n c : Nat} {A : Option Addr} {cs : List Value} {L : List Fn} {S : Nat → Prop} (hn : n = L.length) (ho : wz.ownsRow base 40 5 (.slice A n c) n cs) (hf : FnCells S wz cs L) (hS : ∀ k, S k → S1 k) (hp : 0 < n) : ∃ qf, A = some ⟨qf, 0, none⟩ ∧ CpF S1 base wz qf L 0 := by
  obtain ⟨q, cap, hv, hb, _⟩ := own_formM ho hp
  injection hv with hv1 hv2 hv3
  subst hv1 hv3
  rcases ho.2 with ⟨h0, _⟩ | ⟨q', cap', cur, hv, h2, hk, h3, h4, h5, h6⟩
  · cases h0
  · injection hv with e1 e2 e3
    injection e1 with e1
    injection e1 with e1
    subst e1
    refine ⟨q, rfl, ⟨cur, hk, ?_⟩, hb, fun j hj => ?_, fun j hj => by omega⟩
    · have := congrArg List.length h6
      rw [hf.1, List.length_take] at this
      simp only [Array.length_toList] at this
      omega
    · obtain ⟨fs, hfs, hc⟩ := hf.2.2 j hj
      refine ⟨fs, hfs.kept (fun _ _ _ => rfl) (fun k hk _ => hS k hk), fun t u ht => ?_⟩
      have := own_cellsM ho _ _ (hc t u ht)
      rwa [Nat.zero_add] at this
/-- A copy's own lists, in a box: nothing copied of the functions yet. -/
def CpCut (B0 : Nat) (w1 wz : World) (q3 ls lg lf le : Nat) (M : Md) : Prop := ∃ A1 c1 A2 c2 A3 c3 A4 c4, Below w1.heap.size w1 wz ∧ w1.heap.size ≤ q3 ∧ Blk wz q3 30 #[.slice A1 ls c1, .slice A2 lg c2, .slice A3 lf c3, .slice A4 le c4] ∧ wz.ownsRow w1.heap.size 9 1 (.slice A1 ls c1) ls (strV M.strs) ∧ wz.ownsRow w1.heap.size 3 1 (.slice A2 lg c2) lg (intV M.globs) ∧ (∃ cs, wz.ownsRow w1.heap.size 40 5 (.slice A3 lf c3) lf cs ∧ FnCells (fun k => k < B0) wz cs M.funcs) ∧ wz.ownsRow w1.heap.size 3 1 (.slice A4 le c4) le (intV M.ents)
end Go.Proofs.Ytpdebnecfknohaa
namespace Go.Proofs.Ytpdebnecfknohaa
open Go.RowKit
set_option linter.unusedVariables false
set_option linter.unusedSimpArgs false
set_option maxRecDepth 20000
/-- A function that is copied: its names between a and b, its sites between b and c, its body old or between c and d. -/
def FnG (w0 : Nat) (W : World) (qf j : Nat) (f : Fn) (a d : Nat) : Prop := ∃ Al cl As cs' Ab cb b c, b ≤ c ∧ c ≤ d ∧ a ≤ b ∧
  (∀ t u, ([.int .i64 f.name, .int .i64 f.params, .slice Al f.locals.length cl, .slice As f.sites.length cs', .slice Ab f.body.len cb] : List Value)[t]? = some u → W.cell? ⟨qf, j * 5 + t, none⟩ = some u) ∧
  W.ownsRow a 3 1 (.slice Al f.locals.length cl) f.locals.length (intV f.locals) ∧ (∀ k, some k = (Value.slice Al f.locals.length cl).ownBlock → k < b) ∧
  W.ownsRow b 3 1 (.slice As f.sites.length cs') f.sites.length (intV f.sites) ∧ (∀ k, some k = (Value.slice As f.sites.length cs').ownBlock → k < c) ∧
  BodyS (fun k => k < w0 ∨ (c ≤ k ∧ k < d)) W Ab f.body
theorem FnG.kept {w0 : Nat} {W W' : World} {qf j a d : Nat} {f : Fn} (h : FnG w0 W qf j f a d) (hq : W'.heap[qf]? = W.heap[qf]?) (hk : ∀ k, (k < w0 ∨ (a ≤ k ∧ k < d)) → k < W.heap.size → W'.heap[k]? = W.heap[k]?) : FnG w0 W' qf j f a d := by
  obtain ⟨Al, cl, As, cs', Ab, cb, b, c, h1, h2, h3, h4, h5, h6, h7, h8, h9⟩ := h
  refine ⟨Al, cl, As, cs', Ab, cb, b, c, h1, h2, h3, fun t u ht => (World.cell?_of_block hq).trans (h4 t u ht), own_blocks h5 (fun k hk' => ?_), h6, own_blocks h7 (fun k hk' => ?_), h8, h9.kept (fun k hk' hlt => hk k ?_ hlt) (fun _ h _ => h)⟩
  · have h10 := h5.lt k hk'.symm
    have h11 := h6 k hk'
    exact hk k (.inr ⟨h10.1, by omega⟩) h10.2
  · have h10 := h7.lt k hk'.symm
    have h11 := h8 k hk'
    exact hk k (.inr ⟨by omega, by omega⟩) h10.2
  · rcases hk' with h | h
    · exact .inl h
    · exact .inr ⟨by omega, h.2⟩
/-- What Copy's loop keeps, with the rows. -/
structure CpG (w0 lo : Nat) (wr : World) (qf : Nat) (L : List Fn) (i : Nat) : Prop where
  row : ∃ cs, Blk wr qf 40 cs ∧ L.length * 5 ≤ cs.size
  qb : w0 ≤ qf ∧ qf < lo
  todo : ∀ j (h : j < L.length), i ≤ j → ∃ fs, FnS (fun k => k < w0) wr fs L[j] ∧ ∀ t u, fs[t]? = some u → wr.cell? ⟨qf, j * 5 + t, none⟩ = some u
  done : ∃ T : Nat → Nat, lo ≤ T 0 ∧ (∀ j, T j ≤ T (j + 1)) ∧ T i ≤ wr.heap.size ∧ ∀ j (h : j < L.length), j < i → FnG w0 wr qf j L[j] (T j) (T (j + 1))
theorem mono_le {T : Nat → Nat} (h : ∀ j, T j ≤ T (j + 1)) : ∀ j, T 0 ≤ T j
  | 0 => Nat.le_refl _
  | j + 1 => Nat.le_trans (mono_le h j) (h j)
theorem CpG.kept {w0 lo : Nat} {wr w' : World} {qf i : Nat} {L : List Fn} (h : CpG w0 lo wr qf L i) (hs : wr.heap.size ≤ w'.heap.size) (hk : ∀ k, (k < w0 ∨ lo ≤ k ∨ k = qf) → k < wr.heap.size → w'.heap[k]? = wr.heap[k]?) : CpG w0 lo w' qf L i := by
  obtain ⟨cs, h1, h2⟩ := h.row
  have hq := hk qf (.inr (.inr rfl)) h1.lt
  refine ⟨⟨cs, hq.trans h1, h2⟩, h.qb, fun j hj hij => ?_, ?_⟩
  · obtain ⟨fs, hf, hc⟩ := h.todo j hj hij
    exact ⟨fs, hf.kept (fun k hk' hlt => hk k (.inl hk') hlt) (fun _ h _ => h), fun t u ht => (World.cell?_of_block hq).trans (hc t u ht)⟩
  · obtain ⟨T, t0, t1, t2, t3⟩ := h.done
    refine ⟨T, t0, t1, by omega, fun j hj hji => (t3 j hj hji).kept hq (fun k hk' hlt => hk k ?_ hlt)⟩
    rcases hk' with h | h
    · exact .inl h
    · have := mono_le t1 j
      exact .inr (.inl (by omega))
theorem CpG.old {w0 lo : Nat} {wr w' : World} {qf i : Nat} {L : List Fn} (h : CpG w0 lo wr qf L i) (hb : Below wr.heap.size wr w') : CpG w0 lo w' qf L i :=
  h.kept hb.size (fun k _ hlt => hb.block k hlt)
/-- The beginning of the loop. -/
theorem CpG.first {w0 lo : Nat} {wz : World} {n c base : Nat} {A : Option Addr} {cs : List Value} {L : List Fn} (hn : n = L.length) (ho : wz.ownsRow base 40 5 (.slice A n c) n cs) (hb0 : w0 ≤ base) (hlo : lo = wz.heap.size) (hf : FnCells (fun k => k < w0) wz cs L) (hp : 0 < n) : ∃ qf, A = some ⟨qf, 0, none⟩ ∧ CpG w0 lo wz qf L 0 ∧ base ≤ qf := by
  obtain ⟨q, cap, hv, hb, _⟩ := own_formM ho hp
  injection hv with hv1 hv2 hv3
  subst hv1 hv3
  rcases ho.2 with ⟨h0, _⟩ | ⟨q', cap', cur, hv, h2, hk, h3, h4, h5, h6⟩
  · cases h0
  · injection hv with e1 e2 e3
    injection e1 with e1
    injection e1 with e1
    subst e1
    have hB : Blk wz q 40 cur := hk
    refine ⟨q, rfl, ⟨⟨cur, hk, ?_⟩, ⟨by omega, by have := hB.lt; omega⟩, fun j hj _ => ?_, ⟨fun _ => lo, Nat.le_refl _, fun _ => Nat.le_refl _, by show lo ≤ _; omega, fun j hj hji => by omega⟩⟩, hb⟩
    · have := congrArg List.length h6
      rw [hf.1, List.length_take] at this
      simp only [Array.length_toList] at this
      omega
    · obtain ⟨fs, hfs, hc⟩ := hf.2.2 j hj
      refine ⟨fs, hfs, fun t u ht => ?_⟩
      have := own_cellsM ho _ _ (hc t u ht)
      rwa [Nat.zero_add] at this
/-- One round of Copy's loop. -/
theorem CpG.step {w0 lo : Nat} {wr w5 : World} {qf i : Nat} {L : List Fn} (h : CpG w0 lo wr qf L i) (hi : i < L.length) (hb : Below wr.heap.size wr w5) {Al As Ab : Option Addr} {ll cl ls cs' lb cb Bl Bs B0 : Nat} (hll : ll = L[i].locals.length) (hls : ls = L[i].sites.length) (hlb : lb = L[i].body.len) (hBl : wr.heap.size ≤ Bl) (hBs : Bl ≤ Bs) (hB0 : Bs ≤ B0) (hB5 : B0 ≤ w5.heap.size) (hw : w0 ≤ wr.heap.size) (hlw : lo ≤ wr.heap.size)
    (h1 : w5.ownsRow Bl 3 1 (.slice Al ll cl) ll (intV L[i].locals)) (l1 : ∀ k, some k = (Value.slice Al ll cl).ownBlock → k < Bs) (h2 : w5.ownsRow Bs 3 1 (.slice As ls cs') ls (intV L[i].sites)) (l2 : ∀ k, some k = (Value.slice As ls cs').ownBlock → k < B0) (h3 : BodyS (fun k => B0 ≤ k ∨ k < w0) w5 Ab L[i].body) :
    CpG w0 lo (put5 w5 qf (i * 5) (.int .i64 L[i].name) (.int .i64 L[i].params) (.slice Al ll cl) (.slice As ls cs') (.slice Ab lb cb)) qf L (i + 1) := by
  have h5 := h.old hb
  obtain ⟨csr, hR5, hRs⟩ := h5.row
  obtain ⟨cs2, hR', hsz, hat⟩ := put5_blk (p := i * 5) (v0 := .int .i64 L[i].name) (v1 := .int .i64 L[i].params) (v2 := .slice Al ll cl) (v3 := .slice As ls cs') (v4 := .slice Ab lb cb) hR5
  have hsame := @put5_same w5 qf (i * 5) (.int .i64 L[i].name) (.int .i64 L[i].params) (.slice Al ll cl) (.slice As ls cs') (.slice Ab lb cb)
  have hheap := @put5_heap w5 qf (i * 5) (.int .i64 L[i].name) (.int .i64 L[i].params) (.slice Al ll cl) (.slice As ls cs') (.slice Ab lb cb)
  have hsize : (put5 w5 qf (i * 5) (.int .i64 L[i].name) (.int .i64 L[i].params) (.slice Al ll cl) (.slice As ls cs') (.slice Ab lb cb)).heap.size = w5.heap.size := by simp [put5, World.setCell]
  generalize put5 w5 qf (i * 5) (.int .i64 L[i].name) (.int .i64 L[i].params) (.slice Al ll cl) (.slice As ls cs') (.slice Ab lb cb) = W' at *
  obtain ⟨g0, g1, g2, g3, g4⟩ := hat (by omega)
  have hqb := h.qb
  obtain ⟨T, t0, t1, t2, t3⟩ := h.done
  obtain ⟨T5, s0, s1, s2, s3⟩ := h5.done
  have hcold : ∀ j, j ≠ i → ∀ t, t < 5 → W'.cell? ⟨qf, j * 5 + t, none⟩ = w5.cell? ⟨qf, j * 5 + t, none⟩ := fun j hj t ht => hsame (j * 5 + t) (fun s hs => by omega)
  refine ⟨⟨cs2, hR', by rw [hsz]; exact hRs⟩, h.qb, fun j hj hij => ?_, ⟨fun j => if j ≤ i then T j else w5.heap.size, by simpa using t0, fun j => ?_, by simp only [show ¬ i + 1 ≤ i from by omega, if_false]; rw [hsize]; exact Nat.le_refl _, fun j hj hji => ?_⟩⟩
  · obtain ⟨fs, hf, hc⟩ := h5.todo j hj (by omega)
    refine ⟨fs, hf.kept (fun k hk hlt => hheap (by omega)) (fun _ h _ => h), fun t u ht => ?_⟩
    have hl := fnS_len hf
    have htl : t < 5 := by
      rcases Nat.lt_or_ge t fs.length with h | h
      · omega
      · rw [List.getElem?_eq_none h] at ht; cases ht
    exact (hcold j (by omega) t htl).trans (hc t u ht)
  · have hs := hb.size
    by_cases h1 : j + 1 ≤ i
    · simp only [h1, if_true, show j ≤ i from by omega]; exact t1 j
    · by_cases h2 : j ≤ i
      · obtain rfl : j = i := by omega
        simp only [Nat.le_refl, if_true, h1, if_false]
        omega
      · simp only [h1, h2, if_false]; exact Nat.le_refl _
  · by_cases hje : j = i
    · subst hje
      subst hll hls hlb
      simp only [Nat.le_refl, if_true, show ¬ j + 1 ≤ j from by omega, if_false]
      have hne : ∀ {B n c : Nat} {A : Option Addr} {xs : List Value}, w5.ownsRow B 3 1 (.slice A n c) n xs → W'.ownsRow B 3 1 (.slice A n c) n xs := fun ho => own_blocks ho (fun k hk => hheap (fun e => by subst e; exact own_ne ho hR5 (by decide) hk))
      refine ⟨Al, cl, As, cs', Ab, cb, Bs, B0, hB0, hB5, by omega, fun t u ht => ?_, own_mono (hne h1) (by omega), l1, hne h2, l2, h3.kept (fun k hk hlt => hheap ?_) (fun k hk hlt => ?_)⟩
      · rw [hR'.cell]
        match t, ht with
        | 0, ht => simp at ht; subst ht; exact g0
        | 1, ht => simp at ht; subst ht; exact g1
        | 2, ht => simp at ht; subst ht; exact g2
        | 3, ht => simp at ht; subst ht; exact g3
        | 4, ht => simp at ht; subst ht; exact g4
        | t + 5, ht => simp at ht
      · rcases hk with hk | hk <;> omega
      · rcases hk with hk | hk
        · exact .inr ⟨hk, hlt⟩
        · exact .inl hk
    · have hjl : j < i := by omega
      simp only [show j ≤ i from by omega, show j + 1 ≤ i from by omega, if_true]
      have hG := t3 j hj hjl
      have hG5 : FnG w0 w5 qf j L[j] (T j) (T (j + 1)) := hG.kept (hb.block qf (by have := hqb; omega)) (fun k _ hlt => hb.block k hlt)
      obtain ⟨Al, cl, As, cs', Ab, cb, b, c, x1, x2, x3, x4, x5, x6, x7, x8, x9⟩ := hG5
      have hm := mono_le t1 j
      refine ⟨Al, cl, As, cs', Ab, cb, b, c, x1, x2, x3, fun t u ht => ?_, own_blocks x5 (fun k hk => hheap ?_), x6, own_blocks x7 (fun k hk => hheap ?_), x8, x9.kept (fun k hk hlt => hheap ?_) (fun _ h _ => h)⟩
      · have htl : t < 5 := by
          rcases Nat.lt_or_ge t 5 with h | h
          · exact h
          · rw [List.getElem?_eq_none (by simpa using h)] at ht; cases ht
        exact (hcold j hje t htl).trans (x4 t u ht)
      · have := (x5.lt k hk.symm).1; omega
      · have := (x7.lt k hk.symm).1; omega
      · rcases hk with hk | hk <;> omega
theorem CpG.lo_le {w0 lo : Nat} {wr : World} {qf i : Nat} {L : List Fn} (h : CpG w0 lo wr qf L i) : lo ≤ wr.heap.size := by
  obtain ⟨T, t0, t1, t2, _⟩ := h.done
  have := mono_le t1 i
  omega
theorem CpG.reads {w0 lo : Nat} {wr : World} {qf : Nat} {L : List Fn} (h : CpG w0 lo wr qf L L.length) : FnsS (fun _ => True) wr (some ⟨qf, 0, none⟩) L := fun hp => by
  refine ⟨qf, 0, rfl, trivial, fun j hj => ?_⟩
  obtain ⟨T, t0, t1, t2, t3⟩ := h.done
  obtain ⟨Al, cl, As, cs', Ab, cb, b, c, x1, x2, x3, x4, x5, x6, x7, x8, x9⟩ := t3 j hj hj
  refine ⟨_, ⟨Al, cl, As, cs', Ab, cb, rfl, (RdS.own x5).below (fun _ _ => trivial), (RdS.own x7).below (fun _ _ => trivial), x9.kept (fun _ _ _ => rfl) (fun _ _ _ => trivial)⟩, fun t u ht => ?_⟩
  rw [Nat.zero_add]
  exact x4 t u ht
end Go.Proofs.Ytpdebnecfknohaa
