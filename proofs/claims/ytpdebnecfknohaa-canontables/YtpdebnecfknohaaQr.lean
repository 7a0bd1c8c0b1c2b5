
/-
  What the reference's comparison of two modules leaves.
-/
import Derived.Test.YtpdebnecfknohaaQe
namespace Go.Proofs.Ytpdebnecfknohaa
open Go.RowKit
set_option linter.unusedVariables false
set_option maxRecDepth 20000
set_option linter.unusedSimpArgs false

set_option maxRecDepth 20000 in
set_option maxHeartbeats 8000000 in
theorem same_any (M N : Md) (As Ag Af Ae Bs Bg Bf Be : Option Addr) (cs cg cf ce ds dg df de : Nat) (w : World) (hM : M.Fit) (hN : N.Fit) (h1 : MdR w As Ag Af Ae M) (h2 : MdR w Bs Bg Bf Be N) :
    Calls Try.prog 28 #[.agg #[.slice As M.strs.length cs, .slice Ag M.globs.length cg, .slice Af M.funcs.length cf, .slice Ae M.ents.length ce], .agg #[.slice Bs N.strs.length ds, .slice Bg N.globs.length dg, .slice Bf N.funcs.length df, .slice Be N.ents.length de]] w (BoB w (mdSame M N)) := by
  obtain ⟨m1, m2, m3, m4, m5⟩ := hM
  obtain ⟨n1, n2, n3, n4, n5⟩ := hN
  have H1 := Lib.hid h1
  have H2 := Lib.hid h2
  have M5 := Lib.hid m5
  have N5 := Lib.hid n5
  have hC2 := fun wx (hx : Below w.heap.size w wx) => (sameInts_any M.globs N.globs Ag Bg cg dg wx (h1.old hx).globs (h2.old hx).globs m2 n2).mono fun e w' h => h.bo
  have hC4 := fun wx (hx : Below w.heap.size w wx) => (sameInts_any M.ents N.ents Ae Be ce de wx (h1.old hx).ents (h2.old hx).ents m4 n4).mono fun e w' h => h.bo
  obtain ⟨v, hv⟩ : ∃ v, v = mdSame M N := ⟨_, rfl⟩
  have hE0 : (decide (M.strs = N.strs) && (decide (M.globs = N.globs) && (fnsSame M.funcs N.funcs && decide (M.ents = N.ents)))) = v := hv.symm
  rw [← hv]
  obtain ⟨v2, hv2⟩ : ∃ v, v = decide (M.globs = N.globs) := ⟨_, rfl⟩
  obtain ⟨v4, hv4⟩ : ∃ v, v = decide (M.ents = N.ents) := ⟨_, rfl⟩
  rw [← hv2] at hC2 hE0
  rw [← hv4] at hC4 hE0
  have HE0 := Lib.hid hE0
  have HC2 := Lib.hid hC2
  have HC4 := Lib.hid hC4
  clear h1 h2 hv hv2 hv4 hC2 hC4 hE0 m5 n5
  obtain ⟨ls, hls⟩ : ∃ ls, ls = M.strs.length := ⟨_, rfl⟩
  obtain ⟨lf, hlf⟩ : ∃ lf, lf = M.funcs.length := ⟨_, rfl⟩
  obtain ⟨ks, hks⟩ : ∃ ks, ks = N.strs.length := ⟨_, rfl⟩
  obtain ⟨kf, hkf⟩ : ∃ kf, kf = N.funcs.length := ⟨_, rfl⟩
  have HLS := Lib.hid hls
  have HLF := Lib.hid hlf
  have HKS := Lib.hid hks
  have HKF := Lib.hid hkf
  rw [← hls, ← hlf, ← hks, ← hkf]
  rw [← hls] at m1
  rw [← hlf] at m3
  rw [← hks] at n1
  rw [← hkf] at n3
  clear hls hlf hks hkf
  generalize M.globs.length = lg at *
  generalize M.ents.length = le at *
  generalize N.globs.length = kg at *
  generalize N.ents.length = ke at *
  have HB : Hid (Below w.heap.size w ((w.alloc (.cells #[.slice As ls cs, .slice Ag lg cg, .slice Af lf cf, .slice Ae le ce] 30)).alloc (.cells #[.slice Bs ks ds, .slice Bg kg dg, .slice Bf kf df, .slice Be ke de] 30))) := ((Below.refl _ _).alloc (Nat.le_refl _) _).alloc (by simp) _
  have K1 : Hid (Blk ((w.alloc (.cells #[.slice As ls cs, .slice Ag lg cg, .slice Af lf cf, .slice Ae le ce] 30)).alloc (.cells #[.slice Bs ks ds, .slice Bg kg dg, .slice Bf kf df, .slice Be ke de] 30)) w.heap.size 30 #[.slice As ls cs, .slice Ag lg cg, .slice Af lf cf, .slice Ae le ce]) := (Blk.new w 30 _).alloc _
  have K2 : Hid (Blk ((w.alloc (.cells #[.slice As ls cs, .slice Ag lg cg, .slice Af lf cf, .slice Ae le ce] 30)).alloc (.cells #[.slice Bs ks ds, .slice Bg kg dg, .slice Bf kf df, .slice Be ke de] 30)) (w.heap.size + 1) 30 #[.slice Bs ks ds, .slice Bg kg dg, .slice Bf kf df, .slice Be ke de]) := Blk.new' _ 30 _ _ (by simp)
  go_enter Try.func28, Try.ntmps28
  go_upto_region 1 with (fail)
  generalize (w.alloc (.cells #[.slice As ls cs, .slice Ag lg cg, .slice Af lf cf, .slice Ae le ce] 30)).alloc (.cells #[.slice Bs ks ds, .slice Bg kg dg, .slice Bf kf df, .slice Be ke de] 30) = w2 at *
  obtain ⟨c0, c1, c2, c3⟩ := K1.out.c4
  obtain ⟨d0, d1, d2, d3⟩ := K2.out.c4
  have z1 : w.heap.size < w2.heap.size := K1.out.lt
  have z2 : w.heap.size + 1 < w2.heap.size := K2.out.lt
  by_cases hsl : ls = ks
  · subst hsl
    go_wp2_with fail
    refine (HC2.out w2 HB.out).mono ?_
    rintro e w3 ⟨rfl, hb3⟩
    have HB3 := Lib.hid (HB.out.trans (hb3.mono HB.out.size))
    have K13 := Lib.hid (K1.out.old hb3)
    have K23 := Lib.hid (K2.out.old hb3)
    clear hb3 c0 c1 c2 c3 d0 d1 d2 d3 z1 z2 K1 K2
    obtain ⟨c0, c1, c2, c3⟩ := K13.out.c4
    obtain ⟨d0, d1, d2, d3⟩ := K23.out.c4
    have z1 : w.heap.size < w3.heap.size := K13.out.lt
    have z2 : w.heap.size + 1 < w3.heap.size := K23.out.lt
    cases v2 with
    | false =>
      obtain rfl : v = false := by rw [← HE0.out]; simp
      go_wp2
      go_ret
      exact ⟨by simp, HB3.out⟩
    | true =>
      go_wp2_with fail
      refine (HC4.out w3 HB3.out).mono ?_
      rintro e w4 ⟨rfl, hb4⟩
      have HB4 := Lib.hid (HB3.out.trans (hb4.mono HB3.out.size))
      have K14 := Lib.hid (K13.out.old hb4)
      have K24 := Lib.hid (K23.out.old hb4)
      clear hb4 c0 c1 c2 c3 d0 d1 d2 d3 z1 z2 K13 K23
      obtain ⟨c0, c1, c2, c3⟩ := K14.out.c4
      obtain ⟨d0, d1, d2, d3⟩ := K24.out.c4
      have z1 : w.heap.size < w4.heap.size := K14.out.lt
      have z2 : w.heap.size + 1 < w4.heap.size := K24.out.lt
      cases v4 with
      | false =>
        obtain rfl : v = false := by rw [← HE0.out]; simp
        go_wp2
        go_ret
        exact ⟨by simp, HB4.out⟩
      | true =>
        by_cases hfl : lf = kf
        · subst hfl
          have HE1 : Hid ((decide (M.strs.drop 0 = N.strs.drop 0) && fnsSame (M.funcs.drop 0) (N.funcs.drop 0)) = v) := by show _ = _; have := HE0.out; simpa using this
          clear HE0
          go_wp2_with fail
          clear c0 c1 c2 c3 d0 d1 d2 d3 z1 z2
          go_loopw [5] (fun s wr => ∃ (i : Nat), i ≤ ls ∧ s = .int .i64 (i : Int) ∧ Hid (Below w4.heap.size w4 wr) ∧ Hid ((decide (M.strs.drop i = N.strs.drop i) && fnsSame (M.funcs.drop 0) (N.funcs.drop 0)) = v)) (fun s _ => ls - (intOf s).toNat)
          case atStart => exact ⟨0, Nat.zero_le _, rfl, Below.refl _ _, HE1⟩
          case round =>
            clear HE1
            obtain ⟨i, hi, rfl, hB, hE⟩ := hrel
            have K15 := Lib.hid (K14.out.old hB.out)
            have K25 := Lib.hid (K24.out.old hB.out)
            obtain ⟨c0, c1, c2, c3⟩ := K15.out.c4
            obtain ⟨d0, d1, d2, d3⟩ := K25.out.c4
            have z1 : w.heap.size < wr.heap.size := K15.out.lt
            have z2 : w.heap.size + 1 < wr.heap.size := K25.out.lt
            by_cases hlt : i < ls
            · have hia : i < M.strs.length := by rw [← HLS.out]; exact hlt
              have hib : i < N.strs.length := by rw [← HKS.out]; exact hlt
              have hBx := HB4.out.trans (hB.out.mono HB4.out.size)
              obtain ⟨q, o, rfl, hql, e1⟩ := H1.out.strs.at_ hBx i hia (strV_get M.strs i hia)
              obtain ⟨q', o', rfl, hql', e2⟩ := H2.out.strs.at_ hBx i hib (strV_get N.strs i hib)
              have hE2 := hE.out
              rw [drop_eq_iff hia hib] at hE2
              have HE2 := Lib.hid hE2
              have hq0 : ((bs M.strs[i]).toList == (bs N.strs[i]).toList) = decide (M.strs[i] = N.strs[i]) := by rw [bs_toList, bs_toList]; by_cases h : M.strs[i] = N.strs[i] <;> simp [h]
              have hq1 : ((bs M.strs[i]).toList != (bs N.strs[i]).toList) = !decide (M.strs[i] = N.strs[i]) := by rw [bs_toList, bs_toList]; by_cases h : M.strs[i] = N.strs[i] <;> simp [h]
              have hli : (i : Int) < (ls : Int) := by omega
              clear hE hE2 hBx
              by_cases hx : M.strs[i] = N.strs[i]
              · have HE3 : Hid ((decide (M.strs.drop (i + 1) = N.strs.drop (i + 1)) && fnsSame (M.funcs.drop 0) (N.funcs.drop 0)) = v) := by show _ = _; have := HE2.out; simpa [hx] using this
                simp only [hx, decide_true, Bool.not_true] at hq0 hq1
                rw [hx] at e1
                clear HE2 hx
                generalize bs N.strs[i] = xb at *
                go_upto_region 6 with (fail)
                go_quiet ((fail))
                go_wp2
                go_roundw
                case rel => exact ⟨i + 1, by omega, by go_num, hB.out.trans ((below_dN _ _ _).mono hB.out.size), HE3⟩
                case measure => simp [intOf]; omega
              · obtain rfl : v = false := by rw [← HE2.out]; simp [hx]
                simp only [hx, decide_false, Bool.not_false] at hq0 hq1
                clear HE2 hx
                generalize bs M.strs[i] = xa at *
                generalize bs N.strs[i] = xb at *
                go_upto_region 6 with (fail)
                go_quiet ((fail))
                go_wp2
                go_ret
                exact ⟨rfl, HB4.out.trans ((hB.out.trans ((below_dN _ _ _).mono hB.out.size)).mono HB4.out.size)⟩
            · obtain rfl : i = ls := by omega
              have HE1 : Hid (fnsSame (M.funcs.drop 0) (N.funcs.drop 0) = v) := by
                show _ = _
                have := hE.out
                rw [List.drop_of_length_le (by have := HLS.out; omega), List.drop_of_length_le (by have := HKS.out; omega)] at this
                simpa using this
              have HB5 := Lib.hid (HB4.out.trans (hB.out.mono HB4.out.size))
              clear hE
              go_wp2_with fail
              clear c0 c1 c2 c3 d0 d1 d2 d3 z1 z2
              obtain ⟨w5, hw5⟩ : ∃ w5, w5 = wr := ⟨wr, rfl⟩
              subst hw5
              go_loopw [6] (fun s wr => ∃ (i : Nat), i ≤ lf ∧ s = .int .i64 (i : Int) ∧ Hid (Below w5.heap.size w5 wr) ∧ Hid (fnsSame (M.funcs.drop i) (N.funcs.drop i) = v)) (fun s _ => lf - (intOf s).toNat)
              case atStart => exact ⟨0, Nat.zero_le _, rfl, Below.refl _ _, HE1⟩
              case round =>
                clear HE1
                obtain ⟨j, hj, rfl, hBj, hE⟩ := hrel
                have K16 := Lib.hid (K15.out.old hBj.out)
                have K26 := Lib.hid (K25.out.old hBj.out)
                obtain ⟨c0, c1, c2, c3⟩ := K16.out.c4
                obtain ⟨d0, d1, d2, d3⟩ := K26.out.c4
                have z1 : w.heap.size < wr.heap.size := K16.out.lt
                have z2 : w.heap.size + 1 < wr.heap.size := K26.out.lt
                have HBx := Lib.hid (HB5.out.trans (hBj.out.mono HB5.out.size))
                by_cases hjlt : j < lf
                · have hia : j < M.funcs.length := by rw [← HLF.out]; exact hjlt
                  have hib : j < N.funcs.length := by rw [← HKF.out]; exact hjlt
                  obtain ⟨b, o, A1, a1, A2, a2, A3, a3, rfl, hbl, ⟨e0, e1, e2, e3, e4⟩, r1, r2, r3⟩ := H1.out.funcs.at_ HBx.out j hia
                  obtain ⟨b', o', B1, b1, B2, b2, B3, b3, rfl, hbl', ⟨f0, f1, f2, f3, f4⟩, s1, s2, s3⟩ := H2.out.funcs.at_ HBx.out j hib
                  have hE2 := hE.out
                  rw [fnsSame_drop hia hib] at hE2
                  obtain ⟨l1, l2, l3, l4⟩ := M5.out _ (List.getElem_mem hia)
                  obtain ⟨k1, k2, k3, k4⟩ := N5.out _ (List.getElem_mem hib)
                  generalize M.funcs[j] = f at *
                  generalize N.funcs[j] = g at *
                  obtain ⟨fn, fp, fl, fs, fb⟩ := f
                  obtain ⟨gn, gp, gl, gs, gb⟩ := g
                  dsimp only at *
                  have hD1 := fun wx (hx : Below wr.heap.size wr wx) => (sameInts_any fl gl A1 B1 a1 b1 wx (r1.old hx (by omega)) (s1.old hx (by omega)) l1 k1).mono fun e w' h => h.bo
                  have hD2 := fun wx (hx : Below wr.heap.size wr wx) => (sameInts_any fs gs A2 B2 a2 b2 wx (r2.old hx (by omega)) (s2.old hx (by omega)) l2 k2).mono fun e w' h => h.bo
                  have hD3 := fun wx (hx : Below wr.heap.size wr wx) => (rsame_any fb.size fb gb A3 B3 a3 b3 (fb.same gb) wx (Nat.le_refl _) (by omega) (by omega) (by omega) (by omega) (r3.old hx) (s3.old hx) rfl).mono fun e w' h => QuB.bo h
                  simp only [fnSame] at hE2
                  obtain ⟨vl, hvl⟩ : ∃ v, v = decide (fl = gl) := ⟨_, rfl⟩
                  obtain ⟨vs, hvs⟩ : ∃ v, v = decide (fs = gs) := ⟨_, rfl⟩
                  rw [← hvl] at hD1 hE2
                  rw [← hvs] at hD2 hE2
                  generalize fb.same gb = vb at *
                  have hlf : fb.len ≤ 10000000 := by have := Bd.len_le fb; omega
                  have hlg : gb.len ≤ 10000000 := by have := Bd.len_le gb; omega
                  generalize fl.length = lfl at *
                  generalize gl.length = lgl at *
                  generalize fs.length = lfs at *
                  generalize gs.length = lgs at *
                  generalize fb.len = lfb at *
                  generalize gb.len = lgb at *
                  have HE2 := Lib.hid hE2
                  have HD1 := Lib.hid hD1
                  have HD2 := Lib.hid hD2
                  have HD3 := Lib.hid hD3
                  have HBw : Hid (Below wr.heap.size wr ((wr.alloc (.cells #[.int .i64 fn, .int .i64 fp, .slice A1 lfl a1, .slice A2 lfs a2, .slice A3 lfb a3] 40)).alloc (.cells #[.int .i64 gn, .int .i64 gp, .slice B1 lgl b1, .slice B2 lgs b2, .slice B3 lgb b3] 40))) := ((Below.refl _ _).alloc (Nat.le_refl _) _).alloc (by simp) _
                  have Q1 : Hid (Blk ((wr.alloc (.cells #[.int .i64 fn, .int .i64 fp, .slice A1 lfl a1, .slice A2 lfs a2, .slice A3 lfb a3] 40)).alloc (.cells #[.int .i64 gn, .int .i64 gp, .slice B1 lgl b1, .slice B2 lgs b2, .slice B3 lgb b3] 40)) wr.heap.size 40 #[.int .i64 fn, .int .i64 fp, .slice A1 lfl a1, .slice A2 lfs a2, .slice A3 lfb a3]) := (Blk.new wr 40 _).alloc _
                  have Q2 : Hid (Blk ((wr.alloc (.cells #[.int .i64 fn, .int .i64 fp, .slice A1 lfl a1, .slice A2 lfs a2, .slice A3 lfb a3] 40)).alloc (.cells #[.int .i64 gn, .int .i64 gp, .slice B1 lgl b1, .slice B2 lgs b2, .slice B3 lgb b3] 40)) (wr.heap.size + 1) 40 #[.int .i64 gn, .int .i64 gp, .slice B1 lgl b1, .slice B2 lgs b2, .slice B3 lgb b3]) := Blk.new' _ 40 _ _ (by simp)
                  have HFin : Hid (∀ wx, Below wr.heap.size wr wx → Below w.heap.size w wx ∧ Below w5.heap.size w5 wx) := fun wx hx => ⟨HBx.out.trans (hx.mono HBx.out.size), hBj.out.trans (hx.mono hBj.out.size)⟩
                  clear hE hE2 hD1 hD2 hD3 r1 r2 r3 s1 s2 s3 hvl hvs
                  have hli : (j : Int) < (lf : Int) := by omega
                  go_upto_region 13 with (fail)
                  generalize (wr.alloc (.cells #[.int .i64 fn, .int .i64 fp, .slice A1 lfl a1, .slice A2 lfs a2, .slice A3 lfb a3] 40)).alloc (.cells #[.int .i64 gn, .int .i64 gp, .slice B1 lgl b1, .slice B2 lgs b2, .slice B3 lgb b3] 40) = w6 at *
                  clear c0 c1 c2 c3 d0 d1 d2 d3 e0 e1 e2 e3 e4 f0 f1 f2 f3 f4
                  obtain ⟨c0, c1, c2, c3, c4⟩ := Q1.out.c5
                  obtain ⟨d0, d1, d2, d3, d4⟩ := Q2.out.c5
                  have y1 : wr.heap.size < w6.heap.size := Q1.out.lt
                  have y2 : wr.heap.size + 1 < w6.heap.size := Q2.out.lt
                  by_cases hn : fn = gn
                  · subst hn
                    by_cases hp : fp = gp
                    · subst hp
                      go_wp2_with fail
                      refine (HD1.out w6 HBw.out).mono ?_
                      rintro e w7 ⟨rfl, hb7⟩
                      have HB7 := Lib.hid (HBw.out.trans (hb7.mono HBw.out.size))
                      have Q17 := Lib.hid (Q1.out.old hb7)
                      have Q27 := Lib.hid (Q2.out.old hb7)
                      clear hb7 c0 c1 c2 c3 c4 d0 d1 d2 d3 d4 y1 y2 Q1 Q2
                      obtain ⟨c0, c1, c2, c3, c4⟩ := Q17.out.c5
                      obtain ⟨d0, d1, d2, d3, d4⟩ := Q27.out.c5
                      have y1 : wr.heap.size < w7.heap.size := Q17.out.lt
                      have y2 : wr.heap.size + 1 < w7.heap.size := Q27.out.lt
                      cases vl with
                      | false =>
                        obtain rfl : v = false := by rw [← HE2.out]; simp
                        go_wp2
                        go_ret
                        exact ⟨rfl, (HFin.out _ HB7.out).1⟩
                      | true =>
                        go_wp2_with fail
                        refine (HD2.out w7 HB7.out).mono ?_
                        rintro e w8 ⟨rfl, hb8⟩
                        have HB8 := Lib.hid (HB7.out.trans (hb8.mono HB7.out.size))
                        have Q18 := Lib.hid (Q17.out.old hb8)
                        have Q28 := Lib.hid (Q27.out.old hb8)
                        clear hb8 c0 c1 c2 c3 c4 d0 d1 d2 d3 d4 y1 y2 Q17 Q27
                        obtain ⟨c0, c1, c2, c3, c4⟩ := Q18.out.c5
                        obtain ⟨d0, d1, d2, d3, d4⟩ := Q28.out.c5
                        have y1 : wr.heap.size < w8.heap.size := Q18.out.lt
                        have y2 : wr.heap.size + 1 < w8.heap.size := Q28.out.lt
                        cases vs with
                        | false =>
                          obtain rfl : v = false := by rw [← HE2.out]; simp
                          go_wp2
                          go_ret
                          exact ⟨rfl, (HFin.out _ HB8.out).1⟩
                        | true =>
                          go_wp2_with fail
                          refine (HD3.out w8 HB8.out).mono ?_
                          rintro e w9 ⟨rfl, hb9⟩
                          have HB9 := Lib.hid (HB8.out.trans (hb9.mono HB8.out.size))
                          clear hb9 c0 c1 c2 c3 c4 d0 d1 d2 d3 d4 y1 y2 Q18 Q28
                          cases vb with
                          | false =>
                            obtain rfl : v = false := by rw [← HE2.out]; simp
                            go_wp2
                            go_ret
                            exact ⟨rfl, (HFin.out _ HB9.out).1⟩
                          | true =>
                            have HE3 : Hid (fnsSame (M.funcs.drop (j + 1)) (N.funcs.drop (j + 1)) = v) := by show _ = _; have := HE2.out; simpa using this
                            go_wp2
                            go_roundw
                            case rel => exact ⟨j + 1, by omega, by go_num, (HFin.out _ HB9.out).2, HE3⟩
                            case measure => simp [intOf]; omega
                    · obtain rfl : v = false := by rw [← HE2.out]; simp [hp]
                      have hpi : (fp == gp) = false := by simpa using hp
                      have hpj : (fp != gp) = true := by simpa using hp
                      go_wp2
                      go_ret
                      exact ⟨rfl, (HFin.out _ HBw.out).1⟩
                  · obtain rfl : v = false := by rw [← HE2.out]; simp [hn]
                    have hni : (fn == gn) = false := by simpa using hn
                    have hnj : (fn != gn) = true := by simpa using hn
                    go_wp2
                    go_ret
                    exact ⟨rfl, (HFin.out _ HBw.out).1⟩
                · obtain rfl : j = lf := by omega
                  obtain rfl : v = true := by rw [← hE.out, List.drop_of_length_le (by have := HLF.out; omega), List.drop_of_length_le (by have := HKF.out; omega)]; rfl
                  clear hE
                  go_wp2
                  go_ret
                  exact ⟨rfl, HBx.out⟩
        · obtain rfl : v = false := by rw [← HE0.out, fnsSame_len _ _ (by rw [← HLF.out, ← HKF.out]; exact hfl)]; simp
          have hfi : ((lf : Int) == (kf : Int)) = false := by simp; omega
          have hfj : ((lf : Int) != (kf : Int)) = true := by simp; omega
          go_wp2
          go_ret
          exact ⟨rfl, HB4.out⟩
  · obtain rfl : v = false := by
      rw [← HE0.out]
      have : decide (M.strs = N.strs) = false := by simp; intro h; rw [HLS.out, HKS.out, h] at hsl; exact hsl rfl
      rw [this]; rfl
    have hsi : ((ls : Int) == (ks : Int)) = false := by simp; omega
    have hsj : ((ls : Int) != (ks : Int)) = true := by simp; omega
    go_wp2
    go_ret
    exact ⟨rfl, HB.out⟩
end Go.Proofs.Ytpdebnecfknohaa
