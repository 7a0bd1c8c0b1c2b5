/-
  The walk of ModuleCopies.
-/
import Derived.Test.YtpjoggefklohjaaCx
import Derived.Test.YtpjoggefklohjaaQn
import Derived.Test.YtpjoggefklohjaaMk
import Derived.Deep.DeepCutAuto
import Derived.Deep.CutBlock
namespace Go.Proofs.Ytpjoggefklohjaa
open Go.RowKit
set_option linter.unusedVariables false
set_option linter.unusedSimpArgs false

set_option maxRecDepth 20000 in
set_option maxHeartbeats 20000000 in
theorem copies_walk (G F E : Nat) (n : Int) (Aa : Option Addr) (na ca : Nat) (acts : List Ac) (w : World) (hG : G < 256) (hF : F < 256) (hE : E < 256) (hn1 : -9223372036854775808 ≤ n) (hn2 : n ≤ 9223372036854775807) (hna : acts.length = na) (hnl : na ≤ 9223372036854775807) (hacts : AcsAt w Aa acts) (hac : ∀ x ∈ acts, x.k < 256 ∧ x.a < 256 ∧ x.b < 256 ∧ x.c < 256) :
    Calls Try.prog 6 #[.agg #[.int .u8 (G : Int), .int .u8 (F : Int), .int .u8 (E : Int), .slice Aa na ca], .int .i64 n] w fun e w' => e = .returned (.bool true) ∧ Below w.heap.size w w' := by
  have old : ∀ {wx : World} {A : Option Addr} {l : List Ac}, Below w.heap.size w wx → AcsAt w A l → AcsAt wx A l := fun hx h hp => by
    obtain ⟨b, o, hA, hc⟩ := h hp
    refine ⟨b, o, hA, fun i hi => ?_⟩
    obtain ⟨x0, x1, x2, x3⟩ := hc i hi
    have hl := World.block_lt_of_cell? w ⟨b, o + i * 4, none⟩ x0
    exact ⟨cell_old hx hl x0, cell_old hx hl x1, cell_old hx hl x2, cell_old hx hl x3⟩
  have hMa := fun wx (hx : Below w.heap.size w wx) => make_any G F E Aa na ca acts wx hG hF hE hna (old hx hacts) hac
  have hXm := mk_made (gnames (1 + G / 4 % 3) (G % 4)) F E G acts (gnames_len _ _)
  generalize canM (mkM (gnames (1 + G / 4 % 3) (G % 4)) (ints (G % 4)) F E acts) = M at hMa hXm
  have HMa := Lib.hid hMa
  have HXm := Lib.hid hXm
  have HXf := Lib.hid hXm.fit
  have HB : Hid (Below w.heap.size w (w.alloc (.cells #[.int .u8 (G : Int), .int .u8 (F : Int), .int .u8 (E : Int), .slice Aa na ca] 25))) := (Below.refl _ _).alloc (Nat.le_refl _) _
  have K1 : Hid (Blk (w.alloc (.cells #[.int .u8 (G : Int), .int .u8 (F : Int), .int .u8 (E : Int), .slice Aa na ca] 25)) w.heap.size 25 #[.int .u8 (G : Int), .int .u8 (F : Int), .int .u8 (E : Int), .slice Aa na ca]) := Blk.new w 25 _
  clear hMa hXm old hna hacts hac
  go_enter Try.func6, Try.ntmps6
  go_upto_region 1 with (fail)
  generalize w.alloc (.cells #[.int .u8 (G : Int), .int .u8 (F : Int), .int .u8 (E : Int), .slice Aa na ca] 25) = w1 at *
  go_wp2_with fail
  refine (awake_any _).mono ?_
  rintro e w2 ⟨rfl, hb2⟩
  have HB2 := Lib.hid (HB.out.trans (hb2.mono HB.out.size))
  have K12 := Lib.hid (K1.out.old hb2)
  clear hb2 K1 HB
  obtain ⟨c0, c1, c2, c3⟩ := K12.out.c4
  have z1 : w.heap.size < w2.heap.size := K12.out.lt
  by_cases h60 : 60 < na
  · have h60i : (60 : Int) < (na : Int) := by omega
    go_wp2_with fail
    refine (awake_any _).mono ?_
    rintro e w3 ⟨rfl, hb3⟩
    have HB3 := Lib.hid (HB2.out.trans (hb3.mono HB2.out.size))
    clear hb3
    go_wp2
    go_ret
    exact ⟨rfl, HB3.out⟩
  · have h60i : ¬ (60 : Int) < (na : Int) := by omega
    go_wp2_with fail
    refine (HMa.out w2 HB2.out).mono ?_
    intro e w3 hP
    obtain ⟨As, cs, Ag, cg, Af, cf, Ae, ce, rfl, hRx, hb3⟩ := hP.read
    have HRx := Lib.hid hRx
    have HXp : Hid (0 < M.funcs.length ∧ M.funcs.length ≤ 4) := HXm.out.small.fns
    have HBs : Hid (∀ f ∈ M.funcs, f.body.size ≤ 1000 ∧ f.body.wide ≤ 1000) := HXm.out.small.body
    have hxf4 : 0 < M.funcs.length ∧ M.funcs.length ≤ 4 := HXm.out.small.fns
    have hxs : 0 < M.strs.length := HXm.out.strs
    have hxs2 : M.strs.length ≤ 1000000 := HXf.out.strs
    have hcp := fun wx (hx : Below w3.heap.size w3 wx) => copy_any M As Ag Af Ae cs cg cf ce wx HXf.out HBs.out (HRx.out.old hx)
    have hsame := fun wx (hx : Below w3.heap.size w3 wx) (Bs Bg Bf Be : Option Addr) (ds dg df de : Nat) (hR : MdR wx Bs Bg Bf Be M) => same_any M M As Ag Af Ae Bs Bg Bf Be cs cg cf ce ds dg df de wx HXf.out HXf.out (HRx.out.old hx) hR
    simp only [mdSame_refl] at hsame
    obtain ⟨ls, hls⟩ : ∃ ls, ls = M.strs.length := ⟨_, rfl⟩
    obtain ⟨lg, hlg⟩ : ∃ lg, lg = M.globs.length := ⟨_, rfl⟩
    obtain ⟨lf, hlf⟩ : ∃ lf, lf = M.funcs.length := ⟨_, rfl⟩
    obtain ⟨le, hle⟩ : ∃ le, le = M.ents.length := ⟨_, rfl⟩
    have HLx : Hid (ls = M.strs.length ∧ lg = M.globs.length ∧ lf = M.funcs.length ∧ le = M.ents.length) := ⟨hls, hlg, hlf, hle⟩
    rw [← hls, ← hlg, ← hlf, ← hle] at hcp hsame
    rw [← hls, ← hlg, ← hlf, ← hle]
    rw [← hlf] at hxf4
    rw [← hls] at hxs hxs2
    have HCp := Lib.hid hcp
    have HSm := Lib.hid hsame
    have HB3 := Lib.hid (HB2.out.trans (hb3.mono HB2.out.size))
    have K13 := Lib.hid (K12.out.old hb3)
    clear hP hRx hb3 hls hlg hlf hle c0 c1 c2 c3 z1 K12 hcp hsame
    obtain ⟨w4, hw4⟩ : ∃ w4, w4 = w3.alloc (.cells #[.slice As ls cs, .slice Ag lg cg, .slice Af lf cf, .slice Ae le ce] 32) := ⟨_, rfl⟩
    have HB4 : Hid (Below w3.heap.size w3 w4) := by rw [hw4]; exact (Below.refl _ _).alloc (Nat.le_refl _) _
    have KX : Hid (Blk w4 w3.heap.size 32 #[.slice As ls cs, .slice Ag lg cg, .slice Af lf cf, .slice Ae le ce]) := by rw [hw4]; exact Blk.new w3 32 _
    go_upto_region 4 with (fail)
    rw [← hw4]
    clear hw4
    have HBw4 := Lib.hid (HB3.out.trans (HB4.out.mono HB3.out.size))
    have K14 := Lib.hid (K13.out.old HB4.out)
    clear K13
    obtain ⟨x0, x1, x2, x3⟩ := KX.out.c4
    have zx : w3.heap.size < w4.heap.size := KX.out.lt
    obtain ⟨q5, hq5⟩ : ∃ q5, q5 = w3.heap.size := ⟨_, rfl⟩
    have HQ5 := Lib.hid hq5
    rw [← hq5] at KX x0 x1 x2 x3 zx ⊢
    clear hq5
    go_wp2_with fail
    refine (HCp.out w4 HB4.out).mono ?_
    rintro e w5 ⟨Bs, ds, Bg, dg, Bf, df, Be, de, rfl, hRc, hb5, hms, hmf⟩
    rw [← HLx.out.1, ← HLx.out.2.1, ← HLx.out.2.2.1, ← HLx.out.2.2.2]
    rw [← HLx.out.1] at hms
    rw [← HLx.out.2.2.1] at hmf
    have HRc := Lib.hid hRc
    have HMs := Lib.hid hms
    have HMf := Lib.hid hmf
    have HB5 := Lib.hid (HB4.out.trans (hb5.mono HB4.out.size))
    have HBw5 := Lib.hid hb5
    have K15 := Lib.hid (K14.out.old hb5)
    have KX5 := Lib.hid (KX.out.old hb5)
    clear hRc hms hmf hb5 x0 x1 x2 x3 zx
    obtain ⟨w6, hw6⟩ : ∃ w6, w6 = w5.alloc (.cells #[.slice Bs ls ds, .slice Bg lg dg, .slice Bf lf df, .slice Be le de] 32) := ⟨_, rfl⟩
    have HB6 : Hid (Below w5.heap.size w5 w6) := by rw [hw6]; exact (Below.refl _ _).alloc (Nat.le_refl _) _
    have KC : Hid (Blk w6 w5.heap.size 32 #[.slice Bs ls ds, .slice Bg lg dg, .slice Bf lf df, .slice Be le de]) := by rw [hw6]; exact Blk.new w5 32 _
    go_upto_region 5 with (fail)
    rw [← hw6]
    clear hw6
    obtain ⟨q6, hq6⟩ : ∃ q6, q6 = w5.heap.size := ⟨_, rfl⟩
    have HQ6 := Lib.hid hq6
    rw [← hq6] at KC ⊢
    clear hq6
    have K16 := Lib.hid (K15.out.old HB6.out)
    have KX6 := Lib.hid (KX5.out.old HB6.out)
    have HB36 := Lib.hid (HB5.out.trans (HB6.out.mono HB5.out.size))
    obtain ⟨x0, x1, x2, x3⟩ := KX6.out.c4
    obtain ⟨y0, y1, y2, y3⟩ := KC.out.c4
    have zx : q5 < w6.heap.size := KX6.out.lt
    have zc : q6 < w6.heap.size := KC.out.lt
    have hS1 := HSm.out w6 HB36.out Bs Bg Bf Be ds dg df de (HRc.out.old HB6.out)
    have HS1 := Lib.hid hS1
    clear hS1 K15 KX5
    go_wp2_with fail
    refine HS1.out.mono ?_
    rintro e w7 ⟨rfl, hb7⟩
    have K17 := Lib.hid (K16.out.old hb7)
    have KX7 := Lib.hid (KX6.out.old hb7)
    have KC7 := Lib.hid (KC.out.old hb7)
    have HB37 := Lib.hid (HB36.out.trans (hb7.mono HB36.out.size))
    have HB57 := Lib.hid (HB6.out.trans (hb7.mono HB6.out.size))
    have HBw7 := Lib.hid (HB3.out.trans (HB37.out.mono HB3.out.size))
    clear hb7 x0 x1 x2 x3 y0 y1 y2 y3 zx zc K16 KX6 KC HS1 HB6
    obtain ⟨c0, c1, c2, c3⟩ := K17.out.c4
    have z1 : w.heap.size < w7.heap.size := K17.out.lt
    have zx : q5 < w7.heap.size := KX7.out.lt
    have zc : q6 < w7.heap.size := KC7.out.lt
    go_wp2_with fail
    refine (HMa.out w7 HBw7.out).mono ?_
    intro e w8 hP
    obtain ⟨Es, es, Eg, eg, Ef, ef, Ee, ee, rfl, hRw, hb8⟩ := hP.apart
    rw [← HLx.out.1, ← HLx.out.2.1, ← HLx.out.2.2.1, ← HLx.out.2.2.2]
    have HRw := Lib.hid hRw
    obtain ⟨w9, hw9⟩ : ∃ w9, w9 = w8.alloc (.cells #[.slice Es ls es, .slice Eg lg eg, .slice Ef lf ef, .slice Ee le ee] 32) := ⟨_, rfl⟩
    have hb9 : Below w8.heap.size w8 w9 := by rw [hw9]; exact (Below.refl _ _).alloc (Nat.le_refl _) _
    have KW : Hid (Blk w9 w8.heap.size 32 #[.slice Es ls es, .slice Eg lg eg, .slice Ef lf ef, .slice Ee le ee]) := by rw [hw9]; exact Blk.new w8 32 _
    have HB79 := Lib.hid (hb8.trans (hb9.mono hb8.size))
    have HB89 := Lib.hid hb9
    have HB78 := Lib.hid hb8
    clear hP hRw hb8 hb9 c0 c1 c2 c3 z1 zx zc
    go_upto_region 8 with (fail)
    rw [← hw9]
    clear hw9
    obtain ⟨q8, hq8⟩ : ∃ q8, q8 = w8.heap.size := ⟨_, rfl⟩
    have HQ8 := Lib.hid hq8
    rw [← hq8] at KW ⊢
    clear hq8
    have HDr : Hid (Drift w4.heap.size w7 w9 w9) := Drift.first HB79.out
    obtain ⟨qf, csf, hBf, hqfb, hBqf, hmu⟩ := HMf.out hxf4.1
    have hFm : ∀ j, j < lf → FMut w4.heap.size w7 qf j := fun j hj => (hmu j hj).old HB57.out
    have HFm := Lib.hid hFm
    have HBqf := Lib.hid (hBqf.old HB57.out)
    have Hqfb := Lib.hid hqfb
    subst hBf
    clear hFm hmu hBqf hqfb HMf
    obtain ⟨xn, Al, ll, cl, Ab, lb, cb, e0, e2, e4, hml, hmb⟩ := HFm.out 0 hxf4.1
    simp only [Nat.zero_mul, Nat.zero_add] at e0 e2 e4
    obtain ⟨n1, hn1', f1, zqf⟩ := HDr.out.int e0 HBqf.out
    have e2' := HDr.out.slices _ _ _ _ _ e2
    obtain ⟨b0, b1, b2, b3⟩ := KC7.out.c4
    have g0 := HDr.out.slices _ _ _ _ _ b0
    have g2 := HDr.out.slices _ _ _ _ _ b2
    have zc : q6 < w9.heap.size := by have := HB79.out.size; have := KC7.out.lt; omega
    have hlf0 : (0 : Int) < (lf : Int) := by omega
    go_upto_region 9 with (fail)
    have HDA := Lib.hid (HDr.out.setInt e0 Hqfb.out (wrap64 (n1 + 1)))
    generalize w9.setCell ⟨qf, 0, none⟩ (.int .i64 (wrap64 (n1 + 1))) = wA at *
    have hll : 0 < ll := by
      obtain ⟨b, o, hA, _, hcs⟩ := HRc.out.funcs (by rw [← HLx.out.2.2.1]; exact hxf4.1)
      injection hA with hA
      injection hA with hA1 hA2
      subst hA1 hA2
      obtain ⟨fs, ⟨Al', cl', At', ct', Ab', cb', rfl, _⟩, hc⟩ := hcs 0 (by rw [← HLx.out.2.2.1]; exact hxf4.1)
      have h2 := hc 2 _ rfl
      have h2' := cell_old HB57.out (World.block_lt_of_cell? w5 _ h2) h2
      simp only [Nat.zero_mul, Nat.zero_add] at h2'
      rw [e2] at h2'
      injection h2' with h2'
      injection h2' with _ h2' _
      rw [h2']
      exact HXm.out.locs _ (List.getElem_mem _)
    obtain ⟨ql, yl, csl, rfl, hqlb, hBl, hcl⟩ := hml hll
    clear hn1' f1 zqf e2' g0 g2 zc HDr
    obtain ⟨y1, hy1, f1, zql⟩ := HDA.out.int hcl hBl
    have e2' := HDA.out.slices _ _ _ _ _ e2
    have g0 := HDA.out.slices _ _ _ _ _ b0
    have g2 := HDA.out.slices _ _ _ _ _ b2
    have zc : q6 < wA.heap.size := World.block_lt_of_cell? wA _ g2
    have zqf : qf < wA.heap.size := World.block_lt_of_cell? wA _ e2'
    go_upto_region 10 with (fail)
    have HDB := Lib.hid (HDA.out.setInt hcl hqlb (wrap64 (y1 + 1)))
    generalize wA.setCell ⟨ql, 0, none⟩ (.int .i64 (wrap64 (y1 + 1))) = wB at *
    clear hy1 f1 zql e2' g0 g2 zc zqf HDA
    obtain ⟨qs, css, rfl, hqsb, hBs⟩ := HMs.out hxs
    obtain ⟨s0, hs0⟩ : ∃ s0, w7.cell? ⟨qs, 0, none⟩ = some (.string s0) := by
      obtain ⟨b, o, hA, _, hc⟩ := HRc.out.strs.2 (by rw [← HLx.out.1]; exact hxs)
      injection hA with hA
      injection hA with hA1 hA2
      subst hA1 hA2
      have h0 := hc 0 _ (strV_get M.strs 0 (by rw [← HLx.out.1]; exact hxs))
      have h0' := cell_old HB57.out (World.block_lt_of_cell? w5 _ h0) h0
      exact ⟨_, by simpa using h0'⟩
    have HBqs := Lib.hid (hBs.old HB57.out)
    obtain ⟨cs2, hBs2⟩ := HDB.out.stay _ _ _ HBqs.out
    have f1 := hBs2.frozen 0
    have zqs : qs < wB.heap.size := hBs2.lt
    obtain ⟨sB, hsB⟩ := HDB.out.strs _ _ _ hs0
    have g0 := HDB.out.slices _ _ _ _ _ b0
    have zc : q6 < wB.heap.size := World.block_lt_of_cell? wB _ g0
    have hls0 : (0 : Int) < (ls : Int) := by omega
    go_upto_region 11 with (fail)
    have HDC := Lib.hid (HDB.out.setStr hs0 (by have := HBw5.out; have := HB57.out; exact hqsb) ⟨#[63]⟩)
    generalize wB.setCell ⟨qs, 0, none⟩ (.string ⟨#[63]⟩) = wC at *
    clear hsB hBs2 f1 zqs g0 zc HDB e0 e2 e4 hml hmb hcl hBl hs0 hBs
    have HK7 : Hid (w7.cell? ⟨q6, 2, none⟩ = some (.slice (some ⟨qf, 0, none⟩) lf df)) := b2
    clear b0 b1 b2 b3
    go_wp2_with fail
    go_loopw [8] (fun s8 wr => ∃ (i : Nat), i ≤ lf ∧ s8 = .int .i64 (i : Int) ∧ Hid (Drift w4.heap.size w7 w9 wr)) (fun s8 _ => lf - (intOf s8).toNat)
    case atStart => exact ⟨0, Nat.zero_le _, rfl, HDC⟩
    case round =>
      clear HDC
      obtain ⟨i, hi, rfl, hD⟩ := hrel
      have g2 := hD.out.slices _ _ _ _ _ HK7.out
      have zc : q6 < wr.heap.size := World.block_lt_of_cell? wr _ g2
      by_cases hlt : i < lf
      · have hil : (i : Int) < (lf : Int) := by omega
        obtain ⟨xi, Ali, lli, cli, Abi, lbi, cbi, _, _, e4, _, hmb⟩ := HFm.out i hlt
        have hlb : lbi ≤ 1000 := by
          have hiM : i < M.funcs.length := by rw [← HLx.out.2.2.1]; exact hlt
          obtain ⟨b, o, hA, _, hcs⟩ := HRc.out.funcs (by omega)
          injection hA with hA
          injection hA with hA1 hA2
          subst hA1 hA2
          obtain ⟨fs, ⟨Al', cl', At', ct', Ab', cb', rfl, _⟩, hc⟩ := hcs i hiM
          have h2 := hc 4 _ rfl
          have h2' := cell_old HB57.out (World.block_lt_of_cell? w5 _ h2) h2
          simp only [Nat.zero_add] at h2'
          rw [e4] at h2'
          injection h2' with h2'
          injection h2' with _ h2' _
          have h3 := (HBs.out _ (List.getElem_mem hiM)).1
          have h4 := Bd.len_le M.funcs[i].body
          omega
        have HMB := Lib.hid hmb
        have HE4 := Lib.hid e4
        obtain ⟨wo, hwo⟩ : ∃ wo, wo = wr := ⟨wr, rfl⟩
        subst hwo
        clear hmb e4
        go_wp2_with fail
        clear g2 zc
        go_loopw [9] (fun s9 wr => ∃ (k : Nat), k ≤ lbi ∧ s9 = .int .i64 (k : Int) ∧ Hid (Drift w4.heap.size w7 w9 wr)) (fun s9 _ => lbi - (intOf s9).toNat)
        case atStart => exact ⟨0, Nat.zero_le _, rfl, hD⟩
        case round =>
          clear hD
          obtain ⟨k, hk, rfl, hD⟩ := hrel
          have g2 := hD.out.slices _ _ _ _ _ HK7.out
          have g4 := hD.out.slices _ _ _ _ _ HE4.out
          have zc : q6 < wr.heap.size := World.block_lt_of_cell? wr _ g2
          have zf : qf < wr.heap.size := World.block_lt_of_cell? wr _ g4
          by_cases hkl : k < lbi
          · have hkli : (k : Int) < (lbi : Int) := by omega
            obtain ⟨qb, csb, rfl, hqb, hBb, hLo⟩ := HMB.out (by omega)
            obtain ⟨⟨x0, l0⟩, ⟨Aa5, m5, c5, l5, ha5⟩, ⟨Ab6, m6, c6, l6, hb6⟩⟩ := hLo k hkl
            obtain ⟨x1, hx1, fx, zb⟩ := hD.out.int l0 hBb
            go_upto_region 19 with (fail)
            have HD1 := Lib.hid (hD.out.setInt l0 hqb ((x1 + 1) % 256))
            generalize wr.setCell ⟨qb, k * 7, none⟩ (.int .u8 ((x1 + 1) % 256)) = wk at *
            have HA5 := Lib.hid ha5
            have HB6' := Lib.hid hb6
            have HL5 := Lib.hid l5
            have HL6 := Lib.hid l6
            clear hD g2 g4 zc zf hx1 fx zb ha5 hb6 hLo l0
            have g5 := HD1.out.slices _ _ _ _ _ HL5.out
            have zb : qb < wk.heap.size := World.block_lt_of_cell? wk _ g5
            clear l5 l6 hBb
            go_upto_if 89 with (fail)
            go_cut [] (fun wz => Hid (Drift w4.heap.size w7 w9 wz))
            case first =>
              by_cases hm : 0 < m5
              · have hmi : (0 : Int) < (m5 : Int) := by omega
                obtain ⟨b5, y5, T5, cs5, rfl, hb5, hB5, _, hc5⟩ := HA5.out hm
                obtain ⟨y6, hy6, f6, z6⟩ := HD1.out.int hc5 hB5
                have HD2 := Lib.hid (HD1.out.setInt hc5 hb5 (wrap64 (y6 + 1)))
                clear hc5 hB5
                go_wp2
                go_meet
                case rel => exact HD2
              · obtain rfl : m5 = 0 := by omega
                go_wp2
                go_meet
                case rel => exact HD1
            case rest =>
              have HD2 := hcut
              clear HD1 g5 zb hcut
              have g6 := HD2.out.slices _ _ _ _ _ HL6.out
              have zb : qb < wc.heap.size := World.block_lt_of_cell? wc _ g6
              by_cases hm : 0 < m6
              · have hmi : (0 : Int) < (m6 : Int) := by omega
                obtain ⟨b5, y5, T5, cs5, rfl, hb5, hB5, _, hc5⟩ := HB6'.out hm
                obtain ⟨y6, hy6, f6, z6⟩ := HD2.out.int hc5 hB5
                have HD3 := Lib.hid (HD2.out.setInt hc5 hb5 ((y6 + 1) % 256))
                clear hc5 hB5
                go_wp2
                go_roundw
                case rel => exact ⟨k + 1, by omega, by go_num, HD3⟩
                case measure => simp [intOf]; omega
              · obtain rfl : m6 = 0 := by omega
                go_wp2
                go_roundw
                case rel => exact ⟨k + 1, by omega, by go_num, HD2⟩
                case measure => simp [intOf]; omega
          · obtain rfl : k = lbi := by omega
            go_wp2
            go_roundw
            case rel => exact ⟨i + 1, by omega, by go_num, hD⟩
            case measure => simp [intOf]; omega
      · obtain rfl : lf = i := by omega
        have HBel := Lib.hid hD.out.bel
        have hb4w : Below w4.heap.size w4 wr := ((((HBw5.out.trans (HB57.out.mono HBw5.out.size)).trans (HB79.out.mono (by have := HBw5.out.size; have := HB57.out.size; omega))))).trans HBel.out
        have HRm := Lib.hid (HRx.out.old (HB4.out.trans (hb4w.mono HB4.out.size)))
        have HRe : Hid (MdR wr Es Eg Ef Ee M) := HRw.out wr (fun k hk hlt => (hD.out.hi k hk).trans (HB89.out.block k hlt))
        have KXw := Lib.hid (KX.out.old hb4w)
        have KWw : Hid (Blk wr q8 32 #[.slice Es ls es, .slice Eg lg eg, .slice Ef lf ef, .slice Ee le ee]) := (hD.out.hi q8 (by rw [HQ8.out]; exact HB78.out.size)).trans KW.out
        have HBf := Lib.hid (HBw4.out.trans (hb4w.mono HBw4.out.size))
        have HB3w := Lib.hid (HB4.out.trans (hb4w.mono HB4.out.size))
        clear hD hb4w
        obtain ⟨x, hx⟩ : ∃ x, (if 0 ≤ n ∧ n < M.strs.length then M.strs.getD n.toNat [] else []) = x := ⟨_, rfl⟩
        have hstr := fun wx (hxb : Below wr.heap.size wr wx) => string_any M As cs (.slice Ag lg cg) (.slice Af lf cf) (.slice Ae le ce) n wx hn1 hn2 ((HRm.out.old hxb).strs) (by rw [← HLx.out.1]; exact hxs2) x hx
        rw [← HLx.out.1] at hstr
        have HStr := Lib.hid hstr
        have HX := Lib.hid hx
        have hS2 := HSm.out wr HB3w.out Es Eg Ef Ee es eg ef ee HRe.out
        have HS2 := Lib.hid hS2
        clear hstr hx hS2 HRe HSm HMa HXm HXp HBs HCp HXf HRx HRw HFm HRc K17 KX7 KC7 KX K14 HK7 HBqs HBqf
        obtain ⟨x0, x1, x2, x3⟩ := KXw.out.c4
        obtain ⟨y0, y1', y2, y3⟩ := KWw.out.c4
        have zx : q5 < wr.heap.size := KXw.out.lt
        have zw : q8 < wr.heap.size := KWw.out.lt
        by_cases hn0 : 0 ≤ n
        · by_cases hnl2 : n < ls
          · obtain ⟨kk, rfl⟩ : ∃ kk : Nat, n = kk := ⟨n.toNat, by omega⟩
            have hkM : kk < M.strs.length := by rw [← HLx.out.1]; omega
            obtain ⟨b, o, rfl, _, hc⟩ := HRm.out.strs.2 (by omega)
            have hcell := hc kk _ (strV_get M.strs kk hkM)
            have hbl := World.block_lt_of_cell? wr ⟨b, o + kk, none⟩ hcell
            have e : M.strs[kk] = x := by
              rw [← HX.out, if_pos (by rw [← HLx.out.1]; omega)]
              simp [List.getD, hkM]
            rw [e] at hcell
            clear hc e
            go_wp2_with fail
            refine HS2.out.mono ?_
            rintro e w10 ⟨rfl, hb10⟩
            have KXa := Lib.hid (KXw.out.old hb10)
            have HSt := Lib.hid (HStr.out w10 hb10)
            have HBa := Lib.hid (HBf.out.trans (hb10.mono HBf.out.size))
            clear hb10 x0 x1 x2 x3 y0 y1' y2 y3 zx zw g2 zc HS2 hcell hbl
            obtain ⟨x0, x1, x2, x3⟩ := KXa.out.c4
            have zx : q5 < w10.heap.size := KXa.out.lt
            go_wp2_with fail
            refine HSt.out.mono ?_
            rintro e w11 ⟨rfl, hb11⟩
            have HBb := Lib.hid (HBa.out.trans (hb11.mono HBa.out.size))
            clear hb11 x0 x1 x2 x3 zx
            go_wp2
            go_ret
            exact ⟨by simp, HBb.out⟩
          · have hx2 : x = [] := by rw [← HX.out, if_neg (by rw [← HLx.out.1]; omega)]
            subst hx2
            go_wp2_with fail
            refine HS2.out.mono ?_
            rintro e w10 ⟨rfl, hb10⟩
            have KXa := Lib.hid (KXw.out.old hb10)
            have HSt := Lib.hid (HStr.out w10 hb10)
            have HBa := Lib.hid (HBf.out.trans (hb10.mono HBf.out.size))
            clear hb10 x0 x1 x2 x3 y0 y1' y2 y3 zx zw g2 zc HS2
            obtain ⟨x0, x1, x2, x3⟩ := KXa.out.c4
            have zx : q5 < w10.heap.size := KXa.out.lt
            go_wp2_with fail
            refine HSt.out.mono ?_
            rintro e w11 ⟨rfl, hb11⟩
            have HBb := Lib.hid (HBa.out.trans (hb11.mono HBa.out.size))
            clear hb11 x0 x1 x2 x3 zx
            go_wp2
            go_ret
            exact ⟨by simp [bs_toList], HBb.out⟩
        · have hx2 : x = [] := by rw [← HX.out, if_neg (by omega)]
          subst hx2
          go_wp2_with fail
          refine HS2.out.mono ?_
          rintro e w10 ⟨rfl, hb10⟩
          have KXa := Lib.hid (KXw.out.old hb10)
          have HSt := Lib.hid (HStr.out w10 hb10)
          have HBa := Lib.hid (HBf.out.trans (hb10.mono HBf.out.size))
          clear hb10 x0 x1 x2 x3 y0 y1' y2 y3 zx zw g2 zc HS2
          obtain ⟨x0, x1, x2, x3⟩ := KXa.out.c4
          have zx : q5 < w10.heap.size := KXa.out.lt
          go_wp2_with fail
          refine HSt.out.mono ?_
          rintro e w11 ⟨rfl, hb11⟩
          have HBb := Lib.hid (HBa.out.trans (hb11.mono HBa.out.size))
          clear hb11 x0 x1 x2 x3 zx
          go_wp2
          go_ret
          exact ⟨by simp [bs_toList], HBb.out⟩
end Go.Proofs.Ytpjoggefklohjaa
