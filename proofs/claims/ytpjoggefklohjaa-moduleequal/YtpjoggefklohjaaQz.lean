/-
  The walk of ModuleEqual.
-/
import Derived.Test.YtpjoggefklohjaaQn
import Derived.Test.YtpjoggefklohjaaMk
import Derived.Test.YtpjoggefklohjaaFp
import Derived.Deep.DeepCutAuto
import Derived.Deep.CutBlock
import Derived.Deep.RegionHeld
namespace Go.Proofs.Ytpjoggefklohjaa
open Go.RowKit
set_option linter.unusedVariables false
set_option linter.unusedSimpArgs false

/-- What several ways come to, shown once. -/
theorem later0 {A X : Prop} (h1 : X → A) (h2 : X) : A := h1 h2

set_option maxRecDepth 20000 in
set_option maxHeartbeats 20000000 in
theorem equal_walk (G F E G' F' E' H : Nat) (Aa Ab : Option Addr) (na ca nb cb : Nat) (acts acts' : List Ac) (w : World) (hG : G < 256) (hF : F < 256) (hE : E < 256) (hG' : G' < 256) (hF' : F' < 256) (hE' : E' < 256) (hH : H < 256) (hna : acts.length = na) (hnb : acts'.length = nb) (hnl : na ≤ 9223372036854775807) (hnl' : nb ≤ 9223372036854775807) (hacts : AcsAt w Aa acts) (hacts' : AcsAt w Ab acts') (hac : ∀ x ∈ acts, x.k < 256 ∧ x.a < 256 ∧ x.b < 256 ∧ x.c < 256) (hac' : ∀ x ∈ acts', x.k < 256 ∧ x.a < 256 ∧ x.b < 256 ∧ x.c < 256) :
    Calls Try.prog 5 #[.agg #[.int .u8 (G : Int), .int .u8 (F : Int), .int .u8 (E : Int), .slice Aa na ca], .agg #[.int .u8 (G' : Int), .int .u8 (F' : Int), .int .u8 (E' : Int), .slice Ab nb cb], .int .u8 (H : Int)] w fun e w' => e = .returned (.bool true) ∧ Below w.heap.size w w' := by
  have old : ∀ {wx : World} {A : Option Addr} {l : List Ac}, Below w.heap.size w wx → AcsAt w A l → AcsAt wx A l := fun hx h hp => by
    obtain ⟨b, o, hA, hc⟩ := h hp
    refine ⟨b, o, hA, fun i hi => ?_⟩
    obtain ⟨x0, x1, x2, x3⟩ := hc i hi
    have hl := World.block_lt_of_cell? w ⟨b, o + i * 4, none⟩ x0
    exact ⟨cell_old hx hl x0, cell_old hx hl x1, cell_old hx hl x2, cell_old hx hl x3⟩
  have hMa := fun wx (hx : Below w.heap.size w wx) => make_any G F E Aa na ca acts wx hG hF hE hna (old hx hacts) hac
  have hMb := fun wx (hx : Below w.heap.size w wx) => make_any G' F' E' Ab nb cb acts' wx hG' hF' hE' hnb (old hx hacts') hac'
  have hXm := mk_made (gnames (1 + G / 4 % 3) (G % 4)) F E G acts (gnames_len _ _)
  have hYm := mk_made (gnames (1 + G' / 4 % 3) (G' % 4)) F' E' G' acts' (gnames_len _ _)
  generalize canM (mkM (gnames (1 + G / 4 % 3) (G % 4)) (ints (G % 4)) F E acts) = Mx at hMa hXm
  generalize canM (mkM (gnames (1 + G' / 4 % 3) (G' % 4)) (ints (G' % 4)) F' E' acts') = My at hMb hYm
  have HMa := Lib.hid hMa
  have HMb := Lib.hid hMb
  have HXm := Lib.hid hXm
  have HYm := Lib.hid hYm
  have HB : Hid (Below w.heap.size w ((w.alloc (.cells #[.int .u8 (G : Int), .int .u8 (F : Int), .int .u8 (E : Int), .slice Aa na ca] 25)).alloc (.cells #[.int .u8 (G' : Int), .int .u8 (F' : Int), .int .u8 (E' : Int), .slice Ab nb cb] 25))) := ((Below.refl _ _).alloc (Nat.le_refl _) _).alloc (by simp) _
  have K1 : Hid (Blk ((w.alloc (.cells #[.int .u8 (G : Int), .int .u8 (F : Int), .int .u8 (E : Int), .slice Aa na ca] 25)).alloc (.cells #[.int .u8 (G' : Int), .int .u8 (F' : Int), .int .u8 (E' : Int), .slice Ab nb cb] 25)) w.heap.size 25 #[.int .u8 (G : Int), .int .u8 (F : Int), .int .u8 (E : Int), .slice Aa na ca]) := (Blk.new w 25 _).alloc _
  have K2 : Hid (Blk ((w.alloc (.cells #[.int .u8 (G : Int), .int .u8 (F : Int), .int .u8 (E : Int), .slice Aa na ca] 25)).alloc (.cells #[.int .u8 (G' : Int), .int .u8 (F' : Int), .int .u8 (E' : Int), .slice Ab nb cb] 25)) (w.heap.size + 1) 25 #[.int .u8 (G' : Int), .int .u8 (F' : Int), .int .u8 (E' : Int), .slice Ab nb cb]) := Blk.new' _ 25 _ _ (by simp)
  clear hMa hMb hXm hYm old hna hnb hacts hacts' hac hac'
  go_enter Try.func5, Try.ntmps5
  go_upto_region 1 with (fail)
  generalize (w.alloc (.cells #[.int .u8 (G : Int), .int .u8 (F : Int), .int .u8 (E : Int), .slice Aa na ca] 25)).alloc (.cells #[.int .u8 (G' : Int), .int .u8 (F' : Int), .int .u8 (E' : Int), .slice Ab nb cb] 25) = w1 at *
  go_wp2_with fail
  refine (awake_any _).mono ?_
  rintro e w2 ⟨rfl, hb2⟩
  have HB2 := Lib.hid (HB.out.trans (hb2.mono HB.out.size))
  have K12 := Lib.hid (K1.out.old hb2)
  have K22 := Lib.hid (K2.out.old hb2)
  clear hb2 K1 K2 HB
  obtain ⟨c0, c1, c2, c3⟩ := K12.out.c4
  obtain ⟨d0, d1, d2, d3⟩ := K22.out.c4
  have z1 : w.heap.size < w2.heap.size := K12.out.lt
  have z2 : w.heap.size + 1 < w2.heap.size := K22.out.lt
  have hout : ∀ (wx : World), Below w.heap.size w wx → Calls Try.prog 8 #[] wx fun e w' => e = .returned (.bool true) ∧ Below w.heap.size w w' := fun wx hx => (awake_any wx).mono fun e w' ⟨he, hb⟩ => ⟨he, hx.trans (hb.mono hx.size)⟩
  have HOut := Lib.hid hout
  clear hout
  by_cases h60 : 60 < na
  · have h60i : (60 : Int) < (na : Int) := by omega
    go_wp2_with fail
    refine (HOut.out _ HB2.out).mono ?_
    rintro e w3 ⟨rfl, hb3⟩
    have HB3 := Lib.hid hb3
    clear hb3
    go_wp2
    go_ret
    exact ⟨rfl, HB3.out⟩
  · have h60i : ¬ (60 : Int) < (na : Int) := by omega
    by_cases h61 : 60 < nb
    · have h61i : (60 : Int) < (nb : Int) := by omega
      go_wp2_with fail
      refine (HOut.out _ HB2.out).mono ?_
      rintro e w3 ⟨rfl, hb3⟩
      have HB3 := Lib.hid hb3
      clear hb3
      go_wp2
      go_ret
      exact ⟨rfl, HB3.out⟩
    · have h61i : ¬ (60 : Int) < (nb : Int) := by omega
      go_wp2_with fail
      refine (HMa.out w2 HB2.out).mono ?_
      intro e w3 hP
      obtain ⟨As, cs, Ag, cg, Af, cf, Ae, ce, rfl, hRx, hb3⟩ := hP.read
      have HRx := Lib.hid hRx
      have HXf := Lib.hid HXm.out.fit
      have HXp : Hid (0 < Mx.funcs.length) := HXm.out.small.fns.1
      have HBs : Hid (∀ f ∈ Mx.funcs, f.body.size ≤ 1000 ∧ f.body.wide ≤ 1000) := HXm.out.small.body
      have hxf4 : 0 < Mx.funcs.length ∧ Mx.funcs.length ≤ 4 := HXm.out.small.fns
      obtain ⟨ls, hls⟩ : ∃ ls, ls = Mx.strs.length := ⟨_, rfl⟩
      obtain ⟨lg, hlg⟩ : ∃ lg, lg = Mx.globs.length := ⟨_, rfl⟩
      obtain ⟨lf, hlf⟩ : ∃ lf, lf = Mx.funcs.length := ⟨_, rfl⟩
      obtain ⟨le, hle⟩ : ∃ le, le = Mx.ents.length := ⟨_, rfl⟩
      have HLx : Hid (ls = Mx.strs.length ∧ lg = Mx.globs.length ∧ lf = Mx.funcs.length ∧ le = Mx.ents.length) := ⟨hls, hlg, hlf, hle⟩
      rw [← hls, ← hlg, ← hlf, ← hle]
      rw [← hlf] at hxf4
      have HB3 := Lib.hid (HB2.out.trans (hb3.mono HB2.out.size))
      have K13 := Lib.hid (K12.out.old hb3)
      have K23 := Lib.hid (K22.out.old hb3)
      clear hP hRx hb3 hls hlg hlf hle c0 c1 c2 c3 d0 d1 d2 d3 z1 z2 K12 K22
      obtain ⟨w4, hw4⟩ : ∃ w4, w4 = w3.alloc (.cells #[.slice As ls cs, .slice Ag lg cg, .slice Af lf cf, .slice Ae le ce] 32) := ⟨_, rfl⟩
      have HB4 : Hid (Below w3.heap.size w3 w4) := by rw [hw4]; exact (Below.refl _ _).alloc (Nat.le_refl _) _
      have KX : Hid (Blk w4 w3.heap.size 32 #[.slice As ls cs, .slice Ag lg cg, .slice Af lf cf, .slice Ae le ce]) := by rw [hw4]; exact Blk.new w3 32 _
      go_upto_region 4 with (fail)
      rw [← hw4]
      clear hw4
      have HBw4 := Lib.hid (HB3.out.trans (HB4.out.mono HB3.out.size))
      have HRx4 := Lib.hid (HRx.out.old HB4.out)
      have K14 := Lib.hid (K13.out.old HB4.out)
      have K24 := Lib.hid (K23.out.old HB4.out)
      clear K13 K23 HRx HB3
      obtain ⟨c0, c1, c2, c3⟩ := K14.out.c4
      obtain ⟨d0, d1, d2, d3⟩ := K24.out.c4
      have z1 : w.heap.size < w4.heap.size := K14.out.lt
      have z2 : w.heap.size + 1 < w4.heap.size := K24.out.lt
      have zx : w3.heap.size < w4.heap.size := KX.out.lt
      generalize w3.heap.size = q7 at *
      go_wp2_with fail
      refine (HMb.out w4 HBw4.out).mono ?_
      intro e w5 hP
      obtain ⟨Bs, ds, Bg, dg, Bf, df, Be, de, rfl, hY, hb5⟩ := hP.boxed HYm.out
      have HY := Lib.hid hY
      have HB5 := Lib.hid hb5
      clear hP hY hb5 c0 c1 c2 c3 d0 d1 d2 d3 z1 z2 HMb
      have hm3 : (H : Int).tmod 3 = ((H % 3 : Nat) : Int) := by rw [Int.tmod_eq_emod_of_nonneg (by omega)]; omega
      obtain ⟨r3, hr3⟩ : ∃ r3, r3 = H % 3 := ⟨_, rfl⟩
      have hr3l : r3 < 3 := by omega
      rw [← hr3] at hm3
      clear hr3
      go_upto_if 32 with (fail)
      generalize w5.alloc (.cells #[.slice Bs My.strs.length ds, .slice Bg My.globs.length dg, .slice Bf My.funcs.length df, .slice Be My.ents.length de] 32) = w6 at *
      have z8 : w5.heap.size < w6.heap.size := HY.out.box.lt
      have z4 : w4.heap.size ≤ w5.heap.size := HB5.out.size
      generalize w5.heap.size = q8 at *
      go_cut [] (fun wz => ∃ (N : Md) (Bs Bg Bf Be : Option Addr) (ds dg df de : Nat), Hid (YI w4 wz q8 N Bs Bg Bf Be ds dg df de))
      case first =>
        by_cases h0 : r3 = 0
        · subst h0
          go_wp2
          go_meet
          case rel => exact ⟨My, Bs, Bg, Bf, Be, ds, dg, df, de, HY⟩
        · have h0i : (0 : Int) < (r3 : Int) := by omega
          have K16 := Lib.hid (K14.out.old HY.out.bel)
          obtain ⟨c0, c1, c2, c3⟩ := K16.out.c4
          have z1 : w.heap.size < w6.heap.size := K16.out.lt
          have hBw6 := HBw4.out.trans (HY.out.bel.mono HBw4.out.size)
          go_wp2_with fail
          refine (HMa.out w6 hBw6).mono ?_
          intro e w7 hP
          obtain ⟨Bs', ds', Bg', dg', Bf', df', Be', de', rfl, hbx, hY'⟩ := hP.stored HY.out HXm.out
          obtain ⟨e0, e1, e2, e3⟩ := hbx.c4
          have y0 := hbx.frozen 0
          have y1 := hbx.frozen 1
          have y2 := hbx.frozen 2
          have y3 := hbx.frozen 3
          have z7 : q8 < w7.heap.size := hbx.lt
          have HY' := Lib.hid hY'
          clear hP hbx hY' c0 c1 c2 c3 z1 hBw6
          go_wp2
          go_meet
          case rel => exact ⟨Mx, Bs', Bg', Bf', Be', ds', dg', df', de', HY'⟩
      case rest =>
        clear HY
        obtain ⟨N, Bs', Bg', Bf', Be', ds', dg', df', de', HN⟩ := hcut
        go_upto_if 37 with (fail)
        go_cut [] (fun wz => Hid (Yz w4 wz q8))
        case first =>
          by_cases h2 : r3 = 2
          · subst h2
            obtain ⟨qf, f, l, Al, cl, At, ct, Ab0, cb0, rfl, hfl, hqf, hqb, hne8, hp4, ⟨k0, k1, k2, k3, k4⟩, hfz, r1, r2, rb, hfit, hloc, hnum, hbs, hbw⟩ := HN.out.first
            obtain ⟨d0, d1, d2, d3⟩ := HN.out.box.c4
            have zy : q8 < wc.heap.size := HN.out.box.lt
            have y0 := HN.out.box.frozen 0
            have x0 := hfz 0
            have x1 := hfz 1
            have x2 := hfz 2
            have x4 := hfz 4
            have hT5 := fun (wA : World) (hb : Below wc.heap.size wc wA) (j : Nat) (hj : j < 5) (u : Value) (f' : Fn) => HN.out.turn5 (f' := f') hfl hb [.int .i64 f.name, .int .i64 f.params, .slice Al f.locals.length cl, .slice At f.sites.length ct, .slice Ab0 f.body.len cb0] rfl (fun i v hv => by
              match i, hv with
              | 0, hv => simp at hv; subst hv; exact k0
              | 1, hv => simp at hv; subst hv; exact k1
              | 2, hv => simp at hv; subst hv; exact k2
              | 3, hv => simp at hv; subst hv; exact k3
              | 4, hv => simp at hv; subst hv; exact k4
              | i + 5, hv => simp at hv) j hj u
            have HT5 := Lib.hid hT5
            have hfi := hfit
            obtain ⟨ft1, ft2, ft3, ft4⟩ := hfi
            have hlb0 : f.body.len ≤ 1000 := by have := Bd.len_le f.body; omega
            obtain ⟨h3, hh3⟩ : ∃ h3, h3 = H / 3 := ⟨_, rfl⟩
            have q1 : (H : Int) / 3 = (h3 : Int) := by omega
            have q2 : (H : Int).tdiv 3 = (h3 : Int) := by rw [Int.tdiv_eq_ediv_of_nonneg (by omega)]; omega
            have h3l : h3 < 256 := by omega
            clear hh3
            obtain ⟨r6, hr6⟩ : ∃ r6, r6 = h3 % 6 := ⟨_, rfl⟩
            have q3 : (h3 : Int).tmod 6 = (r6 : Int) := by rw [Int.tmod_eq_emod_of_nonneg (by omega)]; omega
            have q4 : (h3 : Int) % 6 = (r6 : Int) := by omega
            have hr6l : r6 < 6 := by omega
            clear hr6 hT5
            have HR1 := Lib.hid r1
            have HR2 := Lib.hid r2
            have HRB := Lib.hid rb
            clear r1 r2 rb
            by_cases c6 : r6 = 0
            · subst c6
              have HTurn : Hid (Yz w4 (wc.setCell ⟨qf, 0, none⟩ (.int .i64 (f.name + 1))) q8) := HT5.out wc (Below.refl _ _) 0 (by omega) _ ⟨f.name + 1, f.params, f.locals, f.sites, f.body⟩ ⟨Al, cl, At, ct, Ab0, cb0, rfl, HR1.out, HR2.out, HRB.out⟩ ⟨ft1, ft2, ft3, ft4⟩
              generalize f.name = fname at *
              go_wp2
              go_meet
              case rel => exact HTurn
            by_cases c61 : r6 = 1
            · subst c61
              have HTurn : Hid (Yz w4 (wc.setCell ⟨qf, 1, none⟩ (.int .i64 (f.params + 1))) q8) := HT5.out wc (Below.refl _ _) 1 (by omega) _ ⟨f.name, f.params + 1, f.locals, f.sites, f.body⟩ ⟨Al, cl, At, ct, Ab0, cb0, rfl, HR1.out, HR2.out, HRB.out⟩ ⟨ft1, ft2, ft3, ft4⟩
              generalize f.params = fpar at *
              go_wp2
              go_meet
              case rel => exact HTurn
            by_cases c62 : r6 = 2
            · subst c62
              obtain ⟨ba, oa, rfl, hbaq, hca⟩ := HR1.out.2 hloc
              have hbal : ba < wc.heap.size := World.block_lt_of_cell? wc ⟨ba, oa + 0, none⟩ (hca 0 _ (intV_get f.locals 0 hloc))
              obtain ⟨nl, hnl⟩ : ∃ nl, nl = f.locals.length := ⟨_, rfl⟩
              have key : ∀ (o' : Nat) (L : List Int), L.length = nl - 1 → (∀ j u, (intV L)[j]? = some u → wc.cell? ⟨ba, o' + j, none⟩ = some u) → ∃ A' c' wA, (Builtin.append_ #[29, 29] 29 #[.slice none 0 0, .slice (some ⟨ba, o', none⟩) (nl - 1) (cl - 1)]).run Try.prog wc = .ok (.slice A' (nl - 1) c') wA ∧ wA.cell? ⟨qf, 2, none⟩ = some (.slice (some ⟨ba, oa, none⟩) nl cl) ∧ wA.frozen? ⟨qf, 2, none⟩ = false ∧ qf < wA.heap.size ∧ Hid (Yz w4 (wA.setCell ⟨qf, 2, none⟩ (.slice A' (nl - 1) c')) q8) := fun o' L hL hc => by
                obtain ⟨A', c', wA, hr, hO, hb⟩ := app_ints wc ba o' (nl - 1) (cl - 1) L hL (by omega) hc
                obtain ⟨_, _, cur, hBq⟩ := HN.out.fns.blk qf rfl
                refine ⟨A', c', wA, hr, (cell_old hb hqf k2).trans (by rw [hnl]), (hBq.old hb).frozen 2, Nat.lt_of_lt_of_le hqf hb.size, ?_⟩
                refine HT5.out wA hb 2 (by omega) _ ⟨f.name, f.params, L, f.sites, f.body⟩ ⟨A', c', At, ct, Ab0, cb0, by simp [hL], ?_, HR2.out.old hb (by omega), HRB.out.kept (fun k _ hk => hb.block k hk) (fun _ h _ => h)⟩ ⟨by dsimp only; omega, ft2, ft3, ft4⟩
                exact (hL ▸ RdS.own hO : RdS (fun k => wc.heap.size ≤ k) wA A' L.length 1 (intV L)).below (fun k hk => by omega)
              rw [← hnl] at k2 hloc ft1
              by_cases hc1 : cl = 1
              · subst hc1
                obtain ⟨A', c', wA, hr, g1, g2, g3, HTurn⟩ := key oa (f.locals.take (nl - 1)) (by simp; omega) (fun j u hj => hca j u (by
                  simp only [intV, List.map_take] at hj ⊢
                  rw [List.getElem?_take] at hj
                  split at hj
                  · exact hj
                  · cases hj))
                clear key hca hnl
                go_wp2_with (at_builtin; refine Lib.wpList_append_run _ rfl _ _ 29 29 rfl _ _ rfl rfl _ _ hr ?_)
                go_meet
                case rel => exact HTurn
              · obtain ⟨A', c', wA, hr, g1, g2, g3, HTurn⟩ := key (oa + 1) (f.locals.drop 1) (by simp; omega) (fun j u hj => by
                  have := hca (1 + j) u (by simp only [intV, List.map_drop] at hj ⊢; rw [List.getElem?_drop] at hj; exact hj)
                  rwa [show oa + 1 + j = oa + (1 + j) from by omega])
                clear key hca hnl
                go_wp2_with (at_builtin; refine Lib.wpList_append_run _ rfl _ _ 29 29 rfl _ _ rfl rfl _ _ hr ?_)
                go_meet
                case rel => exact HTurn
            by_cases c63 : r6 = 3
            · subst c63
              obtain ⟨A', c', wA, hr, hBd, hb⟩ := app_body (fun k => k ≠ qf) wc 6 none 0 0 .nil f.body rfl (fun hp => by simp [Bd.len] at hp) Ab0 f.body.len cb0 rfl HRB.out (by omega) (fun k hk => by omega)
              obtain ⟨_, _, cur, hBq⟩ := HN.out.fns.blk qf rfl
              have g1 := cell_old hb hqf k4
              have g2 := (hBq.old hb).frozen 4
              have g3 : qf < wA.heap.size := Nat.lt_of_lt_of_le hqf hb.size
              have HTurn : Hid (Yz w4 (wA.setCell ⟨qf, 4, none⟩ (.slice A' (1 + f.body.len) c')) q8) := HT5.out wA hb 4 (by omega) _ ⟨f.name, f.params, f.locals, f.sites, .cons 6 0 0 0 0 [] .nil f.body⟩ ⟨Al, cl, At, ct, A', c', by simp [Bd.len, Nat.add_comm], HR1.out.old hb (by omega), HR2.out.old hb (by omega), hBd⟩ ⟨ft1, ft2, by simp [Bd.size]; omega, by simp [Bd.wide]; omega⟩
              clear hb hBd hBq
              generalize f.body.len = nb0 at *
              go_wp2_with (at_builtin; refine Lib.wpList_append_run _ rfl _ _ 22 22 rfl _ _ rfl rfl _ _ hr ?_)
              go_meet
              case rel => exact HTurn
            by_cases c64 : r6 = 4
            · subst c64
              obtain ⟨qs, cap, hvs, hqs, hqsl⟩ := own_formM HN.out.strs HN.out.made.strs
              injection hvs with hvs1 _ hvs3
              subst hvs1 hvs3
              have hcs := own_cellsM HN.out.strs
              have hns0 := HN.out.made.strs
              have hnsl := HN.out.made.fit.strs
              obtain ⟨ns, hns⟩ : ∃ ns, ns = N.strs.length := ⟨_, rfl⟩
              have key : ∀ (o' : Nat) (L : List (List UInt8)), L.length = ns - 1 → (∀ j u, (strV L)[j]? = some u → wc.cell? ⟨qs, o' + j, none⟩ = some u) → ∃ A' c' wA, (Builtin.append_ #[28, 28] 28 #[.slice none 0 0, .slice (some ⟨qs, o', none⟩) (ns - 1) (ds' - 1)]).run Try.prog wc = .ok (.slice A' (ns - 1) c') wA ∧ wA.cell? ⟨q8, 0, none⟩ = some (.slice (some ⟨qs, 0, none⟩) ns ds') ∧ wA.frozen? ⟨q8, 0, none⟩ = false ∧ q8 < wA.heap.size ∧ Hid (Yz w4 (wA.setCell ⟨q8, 0, none⟩ (.slice A' (ns - 1) c')) q8) := fun o' L hL hc => by
                obtain ⟨A', c', wA, hr, hO, hb⟩ := app_strs wc qs o' (ns - 1) (ds' - 1) L hL (by omega) hc
                exact ⟨A', c', wA, hr, (cell_old hb zy d0).trans (by rw [hns]), (HN.out.box.old hb).frozen 0, Nat.lt_of_lt_of_le zy hb.size, HN.out.names hb L A' (ns - 1) c' hL.symm (by omega) hO⟩
              rw [← hns] at d0 hns0 hnsl
              by_cases hc1 : ds' = 1
              · obtain ⟨A', c', wA, hr, g1, g2, g3, HTurn⟩ := key 0 (N.strs.take (ns - 1)) (by simp; omega) (fun j u hj => hcs j u (by
                  simp only [strV, List.map_take] at hj ⊢
                  rw [List.getElem?_take] at hj
                  split at hj
                  · exact hj
                  · cases hj))
                subst hc1
                clear key hcs hns
                go_wp2_with (at_builtin; refine Lib.wpList_append_run _ rfl _ _ 28 28 rfl _ _ rfl rfl _ _ hr ?_)
                go_meet
                case rel => exact HTurn
              · obtain ⟨A', c', wA, hr, g1, g2, g3, HTurn⟩ := key 1 (N.strs.drop 1) (by simp; omega) (fun j u hj => by
                  have := hcs (1 + j) u (by simp only [strV, List.map_drop] at hj ⊢; rw [List.getElem?_drop] at hj; exact hj)
                  rwa [Nat.zero_add] at this)
                clear key hcs hns
                go_wp2_with (at_builtin; refine Lib.wpList_append_run _ rfl _ _ 28 28 rfl _ _ rfl rfl _ _ hr ?_)
                go_meet
                case rel => exact HTurn
            · obtain rfl : r6 = 5 := by omega
              have hRd : BodyS (fun k => k ≠ qf) wc.drew Ab0 f.body := HRB.out.kept (fun _ _ _ => rfl) (fun _ h _ => h)
              obtain ⟨A', c', wA, hr, hBd, hb⟩ := app_body (fun k => k ≠ qf) wc.drew 7 Ab0 f.body.len cb0 f.body f.body rfl hRd Ab0 f.body.len cb0 rfl hRd (by omega) (fun k hk => by have : wc.heap.size ≤ k := hk; omega)
              have hb' : Below wc.heap.size wc wA := (Below.refl _ wc).drew.trans hb
              obtain ⟨_, _, cur, hBq⟩ := HN.out.fns.blk qf rfl
              have g1 := cell_old hb' hqf k4
              have g2 := (hBq.old hb').frozen 4
              have g3 : qf < wA.heap.size := Nat.lt_of_lt_of_le hqf hb'.size
              have HTurn : Hid (Yz w4 (wA.setCell ⟨qf, 4, none⟩ (.slice A' (1 + f.body.len) c')) q8) := HT5.out wA hb' 4 (by omega) _ ⟨f.name, f.params, f.locals, f.sites, .cons 7 0 0 0 0 [] f.body f.body⟩ ⟨Al, cl, At, ct, A', c', by simp [Bd.len, Nat.add_comm], HR1.out.old hb' (by omega), HR2.out.old hb' (by omega), hBd⟩ ⟨ft1, ft2, by simp [Bd.size]; omega, by simp [Bd.wide]; omega⟩
              have hr5 : (Builtin.append_ #[22, 22] 22 #[.slice (some ⟨wc.heap.size, 0, none⟩) 1 1, .slice Ab0 f.body.len cb0]).run Try.prog (wc.alloc (.cells #[.int .u8 7, .int .u8 0, .int .i64 0, .int .u8 0, .int .i64 0, .slice none 0 0, .slice Ab0 f.body.len cb0] 46)).drew = .ok (.slice A' (1 + f.body.len) c') wA := hr
              clear hb hBd hBq hb' hr hRd
              generalize f.body.len = nb0 at *
              go_upto_region 10 with (fail)
              refine wp_region_held_drew (S := fun W => True) (by kernel_rfl) trivial (fun hHeld => ?_)
              refine wpAnyH_take (i := 0) (oi := { dst := some 44, op := Op.move (Operand.tmp 9), type := 54, pos := "law.go:86", after := #[], guard := none }) (v := ?_) rfl (by kernel_rfl) (by kernel_rfl) (by kernel_rfl) (fun _ _ _ h => h) (Or.inl ⟨by rfl, ?_⟩) (by assumption) ?_
              rotate_left
              · (intro W hSW; (try dsimp only at hSW); go_simp; first | done | with_reducible rfl)
              try simp only [Act.put, List.setIfInBounds_toArray, List.set_cons_zero, List.set_cons_succ]
              refine wpAnyH_take (i := 1) (oi := { dst := some 45, op := Op.move (Operand.tmp 9), type := 54, pos := "law.go:86", after := #[], guard := none }) (v := ?_) rfl (by kernel_rfl) (by kernel_rfl) (by kernel_rfl) (fun _ _ _ h => h) (Or.inl ⟨by rfl, ?_⟩) (by assumption) ?_
              rotate_left
              · (intro W hSW; (try dsimp only at hSW); go_simp; first | done | with_reducible rfl)
              try simp only [Act.put, List.setIfInBounds_toArray, List.set_cons_zero, List.set_cons_succ]
              refine wpAnyH_take (i := 2) (oi := { dst := some 46, op := Op.nilCheck (Operand.tmp 45), type := 0, pos := "law.go:86", after := #[{ on := 1, ground := Ground.data }], guard := none }) (v := ?_) rfl (by kernel_rfl) (by kernel_rfl) (by kernel_rfl) (fun _ _ _ h => h) (Or.inl ⟨by rfl, ?_⟩) (by assumption) ?_
              rotate_left
              · (intro W hSW; (try dsimp only at hSW); go_simp; first | done | with_reducible rfl)
              try simp only [Act.put, List.setIfInBounds_toArray, List.set_cons_zero, List.set_cons_succ]
              refine wpAnyH_take (i := 3) (oi := { dst := some 47, op := Op.fieldAddr 35 (Operand.tmp 46) 4, type := 0, pos := "law.go:86", after := #[{ on := 2, ground := Ground.data }], guard := none }) (v := ?_) rfl (by kernel_rfl) (by kernel_rfl) (by kernel_rfl) (fun _ _ _ h => h) (Or.inl ⟨by rfl, ?_⟩) (by assumption) ?_
              rotate_left
              · (intro W hSW; (try dsimp only at hSW); go_simp; first | done | with_reducible rfl)
              try simp only [Act.put, List.setIfInBounds_toArray, List.set_cons_zero, List.set_cons_succ]
              refine wpAnyH_take (i := 7) (oi := { dst := some 51, op := Op.move (Operand.tmp 9), type := 54, pos := "law.go:86", after := #[], guard := none }) (v := ?_) rfl (by kernel_rfl) (by kernel_rfl) (by kernel_rfl) (fun _ _ _ h => h) (Or.inl ⟨by rfl, ?_⟩) (by assumption) ?_
              rotate_left
              · (intro W hSW; (try dsimp only at hSW); go_simp; first | done | with_reducible rfl)
              try simp only [Act.put, List.setIfInBounds_toArray, List.set_cons_zero, List.set_cons_succ]
              refine wpAnyH_take (i := 8) (oi := { dst := some 52, op := Op.nilCheck (Operand.tmp 51), type := 0, pos := "law.go:86", after := #[{ on := 7, ground := Ground.data }], guard := none }) (v := ?_) rfl (by kernel_rfl) (by kernel_rfl) (by kernel_rfl) (fun _ _ _ h => h) (Or.inl ⟨by rfl, ?_⟩) (by assumption) ?_
              rotate_left
              · (intro W hSW; (try dsimp only at hSW); go_simp; first | done | with_reducible rfl)
              try simp only [Act.put, List.setIfInBounds_toArray, List.set_cons_zero, List.set_cons_succ]
              refine wpAnyH_take (i := 9) (oi := { dst := some 53, op := Op.fieldAddr 35 (Operand.tmp 52) 4, type := 0, pos := "law.go:86", after := #[{ on := 8, ground := Ground.data }], guard := none }) (v := ?_) rfl (by kernel_rfl) (by kernel_rfl) (by kernel_rfl) (fun _ _ _ h => h) (Or.inl ⟨by rfl, ?_⟩) (by assumption) ?_
              rotate_left
              · (intro W hSW; (try dsimp only at hSW); go_simp; first | done | with_reducible rfl)
              try simp only [Act.put, List.setIfInBounds_toArray, List.set_cons_zero, List.set_cons_succ]
              apply later0
              case h1 =>
                intro key
                refine wpAnyH_ready (rs := [4, 10]) (by kernel_rfl) (by simp) ?_
                refine AllReadyH.cons (o := { dst := some 48, op := Op.load 22 (Operand.tmp 47), type := 22, pos := "law.go:86", after := #[{ on := 3, ground := Ground.data }], guard := none }) rfl (fun KQ hKQ => ?_) (AllReadyH.cons (o := { dst := some 54, op := Op.load 22 (Operand.tmp 53), type := 22, pos := "law.go:86", after := #[{ on := 9, ground := Ground.data }], guard := none }) rfl (fun KQ hKQ => ?_) AllReadyH.nil)
                · go_simp
                  refine hKQ.out _ _ trivial (fun _ => ?_)
                  clear hKQ KQ
                  try simp only [Act.put, List.setIfInBounds_toArray, List.set_cons_zero, List.set_cons_succ]
                  refine wpAnyH_take (i := 5) (oi := { dst := some 49, op := Op.build 46 #[(0, Operand.const (Value.int IntKind.u8 7)), (4, Operand.tmp 48)], type := 46, pos := "law.go:86", after := #[{ on := 4, ground := Ground.data }], guard := none }) (v := ?_) rfl (by kernel_rfl) (by kernel_rfl) (by kernel_rfl) (fun _ _ _ h => h) (Or.inl ⟨by rfl, ?_⟩) (by assumption) ?_
                  rotate_left
                  · (intro W hSW; (try dsimp only at hSW); go_simp; first | done | with_reducible rfl)
                  try simp only [Act.put, List.setIfInBounds_toArray, List.set_cons_zero, List.set_cons_succ]
                  refine wpAnyH_ready (rs := [6, 10]) (by kernel_rfl) (by simp) ?_
                  refine AllReadyH.cons (o := { dst := some 50, op := Op.buildSlice 22 1 #[(0, Operand.tmp 49)], type := 22, pos := "law.go:86", after := #[{ on := 5, ground := Ground.data }], guard := none }) rfl (fun KQ hKQ => ?_) (AllReadyH.cons (o := { dst := some 54, op := Op.load 22 (Operand.tmp 53), type := 22, pos := "law.go:86", after := #[{ on := 9, ground := Ground.data }], guard := none }) rfl (fun KQ hKQ => ?_) AllReadyH.nil)
                  · go_simp
                    refine hKQ.out _ _ trivial (fun _ => ?_)
                    clear hKQ KQ
                    try simp only [Act.put, List.setIfInBounds_toArray, List.set_cons_zero, List.set_cons_succ]
                    refine wpAnyH_ready (rs := [10]) (by kernel_rfl) (by simp) ?_
                    refine AllReadyH.cons (o := { dst := some 54, op := Op.load 22 (Operand.tmp 53), type := 22, pos := "law.go:86", after := #[{ on := 9, ground := Ground.data }], guard := none }) rfl (fun KQ hKQ => ?_) AllReadyH.nil
                    go_simp
                    refine hKQ.out _ _ trivial (fun _ => ?_)
                    clear hKQ KQ
                    try simp only [Act.put, List.setIfInBounds_toArray, List.set_cons_zero, List.set_cons_succ]
                    refine listed_eq (l' := #[true, true, true, true, true, true, true, true, true, true, true, false, false, false, false]) (by kernel_rfl) ?_
                    exact key
                  · go_simp
                    refine hKQ.out _ _ trivial (fun _ => ?_)
                    clear hKQ KQ
                    try simp only [Act.put, List.setIfInBounds_toArray, List.set_cons_zero, List.set_cons_succ]
                    refine wpAnyH_ready (rs := [6]) (by kernel_rfl) (by simp) ?_
                    refine AllReadyH.cons (o := { dst := some 50, op := Op.buildSlice 22 1 #[(0, Operand.tmp 49)], type := 22, pos := "law.go:86", after := #[{ on := 5, ground := Ground.data }], guard := none }) rfl (fun KQ hKQ => ?_) AllReadyH.nil
                    go_simp
                    refine hKQ.out _ _ trivial (fun _ => ?_)
                    clear hKQ KQ
                    try simp only [Act.put, List.setIfInBounds_toArray, List.set_cons_zero, List.set_cons_succ]
                    refine listed_eq (l' := #[true, true, true, true, true, true, true, true, true, true, true, false, false, false, false]) (by kernel_rfl) ?_
                    exact key
                · go_simp
                  refine hKQ.out _ _ trivial (fun _ => ?_)
                  clear hKQ KQ
                  try simp only [Act.put, List.setIfInBounds_toArray, List.set_cons_zero, List.set_cons_succ]
                  refine wpAnyH_ready (rs := [4]) (by kernel_rfl) (by simp) ?_
                  refine AllReadyH.cons (o := { dst := some 48, op := Op.load 22 (Operand.tmp 47), type := 22, pos := "law.go:86", after := #[{ on := 3, ground := Ground.data }], guard := none }) rfl (fun KQ hKQ => ?_) AllReadyH.nil
                  go_simp
                  refine hKQ.out _ _ trivial (fun _ => ?_)
                  clear hKQ KQ
                  try simp only [Act.put, List.setIfInBounds_toArray, List.set_cons_zero, List.set_cons_succ]
                  refine wpAnyH_take (i := 5) (oi := { dst := some 49, op := Op.build 46 #[(0, Operand.const (Value.int IntKind.u8 7)), (4, Operand.tmp 48)], type := 46, pos := "law.go:86", after := #[{ on := 4, ground := Ground.data }], guard := none }) (v := ?_) rfl (by kernel_rfl) (by kernel_rfl) (by kernel_rfl) (fun _ _ _ h => h) (Or.inl ⟨by rfl, ?_⟩) (by assumption) ?_
                  rotate_left
                  · (intro W hSW; (try dsimp only at hSW); go_simp; first | done | with_reducible rfl)
                  try simp only [Act.put, List.setIfInBounds_toArray, List.set_cons_zero, List.set_cons_succ]
                  refine wpAnyH_ready (rs := [6]) (by kernel_rfl) (by simp) ?_
                  refine AllReadyH.cons (o := { dst := some 50, op := Op.buildSlice 22 1 #[(0, Operand.tmp 49)], type := 22, pos := "law.go:86", after := #[{ on := 5, ground := Ground.data }], guard := none }) rfl (fun KQ hKQ => ?_) AllReadyH.nil
                  go_simp
                  refine hKQ.out _ _ trivial (fun _ => ?_)
                  clear hKQ KQ
                  try simp only [Act.put, List.setIfInBounds_toArray, List.set_cons_zero, List.set_cons_succ]
                  refine listed_eq (l' := #[true, true, true, true, true, true, true, true, true, true, true, false, false, false, false]) (by kernel_rfl) ?_
                  exact key
              case h2 =>
                refine wpAnyH_ready (rs := [11]) (by kernel_rfl) (by simp) ?_
                refine AllReadyH.cons (o := { dst := some 55, op := Op.call { callee := Callee.builtin Builtin.append, args := #[Operand.tmp 50, Operand.tmp 54], argTypes := #[22, 22] }, type := 22, pos := "law.go:86", after := #[{ on := 6, ground := Ground.data }, { on := 10, ground := Ground.data }], guard := none }) rfl (fun KQ hKQ => ?_) AllReadyH.nil
                refine step_append_run _ (by rfl) _ _ _ (by rfl) _ _ (by rfl) (by rfl) _ _ hr5 ?_
                refine hKQ.out _ _ trivial (fun _ => ?_)
                clear hKQ KQ
                try simp only [Act.put, List.setIfInBounds_toArray, List.set_cons_zero, List.set_cons_succ]
                refine wpAnyH_take (i := 12) (oi := { dst := some 56, op := Op.nilCheck (Operand.tmp 44), type := 0, pos := "law.go:86", after := #[{ on := 0, ground := Ground.data }, { on := 0, ground := Ground.phase }, { on := 1, ground := Ground.phase }, { on := 2, ground := Ground.phase }, { on := 3, ground := Ground.phase }, { on := 4, ground := Ground.phase }, { on := 5, ground := Ground.phase }, { on := 6, ground := Ground.phase }, { on := 7, ground := Ground.phase }, { on := 8, ground := Ground.phase }, { on := 9, ground := Ground.phase }, { on := 10, ground := Ground.phase }, { on := 11, ground := Ground.phase }], guard := none }) (v := ?_) rfl (by kernel_rfl) (by kernel_rfl) (by kernel_rfl) (fun _ _ _ h => h) (Or.inl ⟨by rfl, ?_⟩) (by assumption) ?_
                rotate_left
                · (intro W hSW; (try dsimp only at hSW); go_simp; first | done | with_reducible rfl)
                try simp only [Act.put, List.setIfInBounds_toArray, List.set_cons_zero, List.set_cons_succ]
                refine wpAnyH_take (i := 13) (oi := { dst := some 57, op := Op.fieldAddr 35 (Operand.tmp 56) 4, type := 0, pos := "law.go:86", after := #[{ on := 12, ground := Ground.data }, { on := 0, ground := Ground.phase }, { on := 1, ground := Ground.phase }, { on := 2, ground := Ground.phase }, { on := 3, ground := Ground.phase }, { on := 4, ground := Ground.phase }, { on := 5, ground := Ground.phase }, { on := 6, ground := Ground.phase }, { on := 7, ground := Ground.phase }, { on := 8, ground := Ground.phase }, { on := 9, ground := Ground.phase }, { on := 10, ground := Ground.phase }, { on := 11, ground := Ground.phase }], guard := none }) (v := ?_) rfl (by kernel_rfl) (by kernel_rfl) (by kernel_rfl) (fun _ _ _ h => h) (Or.inl ⟨by rfl, ?_⟩) (by assumption) ?_
                rotate_left
                · (intro W hSW; (try dsimp only at hSW); go_simp; first | done | with_reducible rfl)
                try simp only [Act.put, List.setIfInBounds_toArray, List.set_cons_zero, List.set_cons_succ]
                refine wpAnyH_ready (rs := [14]) (by kernel_rfl) (by simp) ?_
                refine AllReadyH.cons (o := { dst := none, op := Op.store 22 (Operand.tmp 57) (Operand.tmp 55), type := 0, pos := "law.go:86", after := #[{ on := 13, ground := Ground.data }, { on := 11, ground := Ground.data }, { on := 11, ground := Ground.chain }, { on := 0, ground := Ground.phase }, { on := 1, ground := Ground.phase }, { on := 2, ground := Ground.phase }, { on := 3, ground := Ground.phase }, { on := 4, ground := Ground.phase }, { on := 5, ground := Ground.phase }, { on := 6, ground := Ground.phase }, { on := 7, ground := Ground.phase }, { on := 8, ground := Ground.phase }, { on := 9, ground := Ground.phase }, { on := 10, ground := Ground.phase }, { on := 11, ground := Ground.phase }], guard := none }) rfl (fun KQ hKQ => ?_) AllReadyH.nil
                go_simp
                refine hKQ.out _ _ trivial (fun _ => ?_)
                clear hKQ KQ
                try simp only [Act.put, List.setIfInBounds_toArray, List.set_cons_zero, List.set_cons_succ]
                refine wpAnyH_done (by kernel_rfl) ?_ _
                go_wp2
                go_meet
                case rel => exact HTurn
          · have h2i : ((r3 : Int) == 2) = false := by simp; omega
            go_wp2
            go_meet
            case rel => exact HN.out.done
        case rest =>
          clear HN
          obtain ⟨N, Bs, Bg, Bf, Be, ds, dg, df, de, hbx, hRy, hFy, hpy, hbz⟩ := hcut.out
          have hKX := KX.out.old hbz
          have hRx := HRx4.out.old hbz
          obtain ⟨hl1, hl2, hl3, hl4⟩ := HLx.out
          have hSv := fun wx (hx : Below wc.heap.size wc wx) => same_any Mx N As Ag Af Ae Bs Bg Bf Be cs cg cf ce ds dg df de wx HXf.out hFy (hRx.old hx) (hRy.old hx)
          have hEq := fun wx (hx : Below wc.heap.size wc wx) => equal_any Mx N As Ag Af Ae Bs Bg Bf Be cs cg cf ce ds dg df de wx HXf.out hFy (hRx.old hx) (hRy.old hx)
          have hEx := fun wx (hx : Below wc.heap.size wc wx) => equal_any Mx Mx As Ag Af Ae As Ag Af Ae cs cg cf ce cs cg cf ce wx HXf.out HXf.out (hRx.old hx) (hRx.old hx)
          rw [mdSame_refl] at hEx
          rw [← hl1, ← hl2, ← hl3, ← hl4] at hSv hEq hEx
          clear hl1 hl2 hl3 hl4
          have hfx := HXf.out.fns _ (List.getElem_mem HXp.out)
          have hfy := hFy.fns _ (List.getElem_mem hpy)
          have hfn := hFy.funcs
          generalize mdSame Mx N = sv at *
          have HSv := Lib.hid hSv
          have HEq := Lib.hid hEq
          have HEx := Lib.hid hEx
          have HRx5 := Lib.hid hRx
          have HRy5 := Lib.hid hRy
          have HBZ := Lib.hid hbz
          have HKX5 := Lib.hid hKX
          have HKY5 := Lib.hid hbx
          clear hSv hEq hEx hRx hRy hbz hKX hbx hcut
          obtain ⟨c0, c1, c2, c3⟩ := HKX5.out.c4
          obtain ⟨d0, d1, d2, d3⟩ := HKY5.out.c4
          have zxc : q7 < wc.heap.size := HKX5.out.lt
          have zyc : q8 < wc.heap.size := HKY5.out.lt
          go_wp2_with fail
          refine (HSv.out wc (Below.refl _ _)).mono ?_
          rintro e w8 ⟨rfl, hb8⟩
          clear c0 c1 c2 c3 d0 d1 d2 d3 zxc zyc HSv
          have hKX8 := HKX5.out.old hb8
          have hKY8 := HKY5.out.old hb8
          obtain ⟨c0, c1, c2, c3⟩ := hKX8.c4
          obtain ⟨d0, d1, d2, d3⟩ := hKY8.c4
          have zx8 : q7 < w8.heap.size := hKX8.lt
          have zy8 : q8 < w8.heap.size := hKY8.lt
          obtain ⟨bx, ox, _, _, _, _, A3, a3, rfl, zfx, ⟨_, _, _, _, fx4⟩, _, _, r3⟩ := HRx5.out.funcs.at_ hb8 0 HXp.out
          obtain ⟨by_, oy, _, _, _, _, B3, b3, rfl, zfy, ⟨_, _, _, _, fy4⟩, _, _, s3⟩ := HRy5.out.funcs.at_ hb8 0 hpy
          simp only [Nat.zero_mul, Nat.add_zero] at fx4 fy4
          have hC2 := fun wx (hx : Below w8.heap.size w8 wx) => sameB_any A3 B3 a3 b3 Mx.funcs[0].body N.funcs[0].body wx (r3.old hx) (s3.old hx) (by have := hfx.size; have := hfy.size; omega) (by have := hfx.wide; omega) (by have := hfy.wide; omega)
          have hC3 := fun wx (hx : Below w8.heap.size w8 wx) => (rsame_any _ Mx.funcs[0].body N.funcs[0].body A3 B3 a3 b3 _ wx (Nat.le_refl _) (by have := hfx.size; omega) (by have := hfy.size; omega) (by have := hfx.wide; omega) (by have := hfy.wide; omega) (r3.old hx) (s3.old hx) rfl).mono fun e w' h => QuB.bo h
          have HC1 := Lib.hid (fun wx (hx : Below w8.heap.size w8 wx) => HEq.out wx (hb8.trans (hx.mono hb8.size)))
          have HC4 := Lib.hid (fun wx (hx : Below w8.heap.size w8 wx) => HEx.out wx (hb8.trans (hx.mono hb8.size)))
          have HB8w := Lib.hid ((HBw4.out.trans (HBZ.out.mono HBw4.out.size)).trans (hb8.mono (Nat.le_trans HBw4.out.size HBZ.out.size)))
          have lbx : Mx.funcs[0].body.len ≤ 10000000 := by have := Bd.len_le Mx.funcs[0].body; have := hfx.size; omega
          have lby : N.funcs[0].body.len ≤ 10000000 := by have := Bd.len_le N.funcs[0].body; have := hfy.size; omega
          clear hb8 hKX8 hKY8 r3 s3 HEq HEx HRx5 HRy5 HKX5 HKY5 hfx hfy
          generalize Mx.funcs[0].body.same N.funcs[0].body = bv at *
          generalize Mx.funcs[0].body.len = lbx' at *
          generalize N.funcs[0].body.len = lby' at *
          have HC2 := Lib.hid hC2
          have HC3 := Lib.hid hC3
          clear hC2 hC3
          generalize N.strs.length = ks at *
          generalize N.globs.length = kg at *
          generalize N.ents.length = ke at *
          have hsv : (sv == sv) = true := by simp
          have hbv : (bv == bv) = true := by simp
          obtain ⟨kf, hkf⟩ : ∃ kf, kf = N.funcs.length := ⟨_, rfl⟩
          rw [← hkf] at HC1 d2 hpy hfn
          clear hFy hkf
          go_upto_region 22 with (fail)
          refine wp_region_held_drew (S := fun W => Below w8.heap.size w8 W) (by kernel_rfl) (Below.refl _ _).drew (fun hHeld => ?_)
          refine wpAnyH_take (i := 0) (oi := { dst := some 109, op := Op.load 32 (Operand.tmp 7), type := 32, pos := "law.go:90", after := #[], guard := none }) (v := ?_) rfl (by kernel_rfl) (by kernel_rfl) (by kernel_rfl) (fun _ _ _ h => h) (Or.inl ⟨by rfl, ?_⟩) (by assumption) ?_
          rotate_left
          · (intro W hSW; (try dsimp only at hSW); have c0' := cell_old hSW zx8 c0; have c1' := cell_old hSW zx8 c1; have c2' := cell_old hSW zx8 c2; have c3' := cell_old hSW zx8 c3; go_simp; first | done | with_reducible rfl)
          try simp only [Act.put, List.setIfInBounds_toArray, List.set_cons_zero, List.set_cons_succ]
          refine wpAnyH_take (i := 1) (oi := { dst := some 110, op := Op.load 32 (Operand.tmp 8), type := 32, pos := "law.go:90", after := #[], guard := none }) (v := ?_) rfl (by kernel_rfl) (by kernel_rfl) (by kernel_rfl) (fun _ _ _ h => h) (Or.inl ⟨by rfl, ?_⟩) (by assumption) ?_
          rotate_left
          · (intro W hSW; (try dsimp only at hSW); have d0' := cell_old hSW zy8 d0; have d1' := cell_old hSW zy8 d1; have d2' := cell_old hSW zy8 d2; have d3' := cell_old hSW zy8 d3; go_simp; first | done | with_reducible rfl)
          try simp only [Act.put, List.setIfInBounds_toArray, List.set_cons_zero, List.set_cons_succ]
          refine wpAnyH_take (i := 3) (oi := { dst := some 112, op := Op.move (Operand.tmp 10), type := 4, pos := "law.go:90", after := #[], guard := none }) (v := ?_) rfl (by kernel_rfl) (by kernel_rfl) (by kernel_rfl) (fun _ _ _ h => h) (Or.inl ⟨by rfl, ?_⟩) (by assumption) ?_
          rotate_left
          · (intro W hSW; (try dsimp only at hSW); go_simp; first | done | with_reducible rfl)
          try simp only [Act.put, List.setIfInBounds_toArray, List.set_cons_zero, List.set_cons_succ]
          refine wpAnyH_ready (rs := [2]) (by kernel_rfl) (by simp) ?_
          refine AllReadyH.cons (o := { dst := some 111, op := Op.call { callee := Callee.value (Operand.func 16), args := #[Operand.tmp 109, Operand.tmp 110], argTypes := #[32, 32] }, type := 4, pos := "law.go:90", after := #[{ on := 0, ground := Ground.data }, { on := 1, ground := Ground.data }], guard := none }) rfl (fun KQ hKQ => ?_) AllReadyH.nil
          go_simp
          refine (HC1.out _ hHeld).mono ?_
          rintro e wz2 ⟨rfl, hb2⟩
          have hS2 : Below w8.heap.size w8 wz2 := hHeld.trans (hb2.mono hHeld.size)
          refine hKQ.out _ _ hS2 (fun _ => ?_)
          clear hKQ KQ
          try simp only [Act.put, List.setIfInBounds_toArray, List.set_cons_zero, List.set_cons_succ]
          refine wpAnyH_take (i := 4) (oi := { dst := some 113, op := Op.binOp BinOp.eql 4 (Operand.tmp 111) (Operand.tmp 112) 4, type := 4, pos := "law.go:90", after := #[{ on := 2, ground := Ground.data }, { on := 3, ground := Ground.data }], guard := none }) (v := ?_) rfl (by kernel_rfl) (by kernel_rfl) (by kernel_rfl) (fun _ _ _ h => h) (Or.inl ⟨by rfl, ?_⟩) (by assumption) ?_
          rotate_left
          · (intro W hSW; (try dsimp only at hSW); go_simp; first | done | with_reducible rfl)
          try simp only [Act.put, List.setIfInBounds_toArray, List.set_cons_zero, List.set_cons_succ]
          refine wpAnyH_take (i := 5) (oi := { dst := some 114, op := Op.move (Operand.tmp 113), type := 4, pos := "law.go:90", after := #[{ on := 4, ground := Ground.data }, { on := 2, ground := Ground.chain }], guard := none }) (v := ?_) rfl (by kernel_rfl) (by kernel_rfl) (by kernel_rfl) (fun _ _ _ h => h) (Or.inl ⟨by rfl, ?_⟩) (by assumption) ?_
          rotate_left
          · (intro W hSW; (try dsimp only at hSW); go_simp; first | done | with_reducible rfl)
          try simp only [Act.put, List.setIfInBounds_toArray, List.set_cons_zero, List.set_cons_succ]
          refine wpAnyH_take (i := 6) (oi := { dst := some 115, op := Op.fieldAddr 32 (Operand.tmp 7) 2, type := 0, pos := "law.go:90", after := #[{ on := 5, ground := Ground.guard }], guard := some (5, true) }) (v := ?_) rfl (by kernel_rfl) (by kernel_rfl) (by kernel_rfl) (fun _ _ _ h => h) (Or.inl ⟨by rfl, ?_⟩) (by assumption) ?_
          rotate_left
          · (intro W hSW; (try dsimp only at hSW); go_simp; first | done | with_reducible rfl)
          try simp only [Act.put, List.setIfInBounds_toArray, List.set_cons_zero, List.set_cons_succ]
          refine wpAnyH_take (i := 7) (oi := { dst := some 116, op := Op.load 30 (Operand.tmp 115), type := 30, pos := "law.go:90", after := #[{ on := 6, ground := Ground.data }, { on := 5, ground := Ground.guard }], guard := some (5, true) }) (v := ?_) rfl (by kernel_rfl) (by kernel_rfl) (by kernel_rfl) (fun _ _ _ h => h) (Or.inl ⟨by rfl, ?_⟩) (by assumption) ?_
          rotate_left
          · (intro W hSW; (try dsimp only at hSW); have c0' := cell_old hSW zx8 c0; have c1' := cell_old hSW zx8 c1; have c2' := cell_old hSW zx8 c2; have c3' := cell_old hSW zx8 c3; go_simp; first | done | with_reducible rfl)
          try simp only [Act.put, List.setIfInBounds_toArray, List.set_cons_zero, List.set_cons_succ]
          refine wpAnyH_take (i := 8) (oi := { dst := some 117, op := Op.indexAddr 30 (Operand.tmp 116) (Operand.const (Value.int IntKind.i64 0)), type := 0, pos := "law.go:90", after := #[{ on := 7, ground := Ground.data }, { on := 5, ground := Ground.guard }], guard := some (5, true) }) (v := ?_) rfl (by kernel_rfl) (by kernel_rfl) (by kernel_rfl) (fun _ _ _ h => h) (Or.inl ⟨by rfl, ?_⟩) (by assumption) ?_
          rotate_left
          · (intro W hSW; (try dsimp only at hSW); go_simp; first | done | with_reducible rfl)
          try simp only [Act.put, List.setIfInBounds_toArray, List.set_cons_zero, List.set_cons_succ]
          refine wpAnyH_take (i := 9) (oi := { dst := some 118, op := Op.fieldAddr 35 (Operand.tmp 117) 4, type := 0, pos := "law.go:90", after := #[{ on := 8, ground := Ground.data }, { on := 5, ground := Ground.guard }], guard := some (5, true) }) (v := ?_) rfl (by kernel_rfl) (by kernel_rfl) (by kernel_rfl) (fun _ _ _ h => h) (Or.inl ⟨by rfl, ?_⟩) (by assumption) ?_
          rotate_left
          · (intro W hSW; (try dsimp only at hSW); go_simp; first | done | with_reducible rfl)
          try simp only [Act.put, List.setIfInBounds_toArray, List.set_cons_zero, List.set_cons_succ]
          refine wpAnyH_take (i := 10) (oi := { dst := some 119, op := Op.load 22 (Operand.tmp 118), type := 22, pos := "law.go:90", after := #[{ on := 9, ground := Ground.data }, { on := 5, ground := Ground.guard }], guard := some (5, true) }) (v := ?_) rfl (by kernel_rfl) (by kernel_rfl) (by kernel_rfl) (fun _ _ _ h => h) (Or.inl ⟨by rfl, ?_⟩) (by assumption) ?_
          rotate_left
          · (intro W hSW; (try dsimp only at hSW); have fx4' := cell_old hSW zfx fx4; go_simp; first | done | with_reducible rfl)
          try simp only [Act.put, List.setIfInBounds_toArray, List.set_cons_zero, List.set_cons_succ]
          refine wpAnyH_take (i := 11) (oi := { dst := some 120, op := Op.fieldAddr 32 (Operand.tmp 8) 2, type := 0, pos := "law.go:90", after := #[{ on := 5, ground := Ground.guard }], guard := some (5, true) }) (v := ?_) rfl (by kernel_rfl) (by kernel_rfl) (by kernel_rfl) (fun _ _ _ h => h) (Or.inl ⟨by rfl, ?_⟩) (by assumption) ?_
          rotate_left
          · (intro W hSW; (try dsimp only at hSW); go_simp; first | done | with_reducible rfl)
          try simp only [Act.put, List.setIfInBounds_toArray, List.set_cons_zero, List.set_cons_succ]
          refine wpAnyH_take (i := 12) (oi := { dst := some 121, op := Op.load 30 (Operand.tmp 120), type := 30, pos := "law.go:90", after := #[{ on := 11, ground := Ground.data }, { on := 5, ground := Ground.guard }], guard := some (5, true) }) (v := ?_) rfl (by kernel_rfl) (by kernel_rfl) (by kernel_rfl) (fun _ _ _ h => h) (Or.inl ⟨by rfl, ?_⟩) (by assumption) ?_
          rotate_left
          · (intro W hSW; (try dsimp only at hSW); have d0' := cell_old hSW zy8 d0; have d1' := cell_old hSW zy8 d1; have d2' := cell_old hSW zy8 d2; have d3' := cell_old hSW zy8 d3; go_simp; first | done | with_reducible rfl)
          try simp only [Act.put, List.setIfInBounds_toArray, List.set_cons_zero, List.set_cons_succ]
          refine wpAnyH_take (i := 13) (oi := { dst := some 122, op := Op.indexAddr 30 (Operand.tmp 121) (Operand.const (Value.int IntKind.i64 0)), type := 0, pos := "law.go:90", after := #[{ on := 12, ground := Ground.data }, { on := 5, ground := Ground.guard }], guard := some (5, true) }) (v := ?_) rfl (by kernel_rfl) (by kernel_rfl) (by kernel_rfl) (fun _ _ _ h => h) (Or.inl ⟨by rfl, ?_⟩) (by assumption) ?_
          rotate_left
          · (intro W hSW; (try dsimp only at hSW); go_simp; first | done | with_reducible rfl)
          try simp only [Act.put, List.setIfInBounds_toArray, List.set_cons_zero, List.set_cons_succ]
          refine wpAnyH_take (i := 14) (oi := { dst := some 123, op := Op.fieldAddr 35 (Operand.tmp 122) 4, type := 0, pos := "law.go:90", after := #[{ on := 13, ground := Ground.data }, { on := 5, ground := Ground.guard }], guard := some (5, true) }) (v := ?_) rfl (by kernel_rfl) (by kernel_rfl) (by kernel_rfl) (fun _ _ _ h => h) (Or.inl ⟨by rfl, ?_⟩) (by assumption) ?_
          rotate_left
          · (intro W hSW; (try dsimp only at hSW); go_simp; first | done | with_reducible rfl)
          try simp only [Act.put, List.setIfInBounds_toArray, List.set_cons_zero, List.set_cons_succ]
          refine wpAnyH_take (i := 15) (oi := { dst := some 124, op := Op.load 22 (Operand.tmp 123), type := 22, pos := "law.go:90", after := #[{ on := 14, ground := Ground.data }, { on := 5, ground := Ground.guard }], guard := some (5, true) }) (v := ?_) rfl (by kernel_rfl) (by kernel_rfl) (by kernel_rfl) (fun _ _ _ h => h) (Or.inl ⟨by rfl, ?_⟩) (by assumption) ?_
          rotate_left
          · (intro W hSW; (try dsimp only at hSW); have fy4' := cell_old hSW zfy fy4; go_simp; first | done | with_reducible rfl)
          try simp only [Act.put, List.setIfInBounds_toArray, List.set_cons_zero, List.set_cons_succ]
          refine wpAnyH_take (i := 17) (oi := { dst := some 126, op := Op.fieldAddr 32 (Operand.tmp 7) 2, type := 0, pos := "law.go:90", after := #[{ on := 5, ground := Ground.guard }], guard := some (5, true) }) (v := ?_) rfl (by kernel_rfl) (by kernel_rfl) (by kernel_rfl) (fun _ _ _ h => h) (Or.inl ⟨by rfl, ?_⟩) (by assumption) ?_
          rotate_left
          · (intro W hSW; (try dsimp only at hSW); go_simp; first | done | with_reducible rfl)
          try simp only [Act.put, List.setIfInBounds_toArray, List.set_cons_zero, List.set_cons_succ]
          refine wpAnyH_take (i := 18) (oi := { dst := some 127, op := Op.load 30 (Operand.tmp 126), type := 30, pos := "law.go:90", after := #[{ on := 17, ground := Ground.data }, { on := 5, ground := Ground.guard }], guard := some (5, true) }) (v := ?_) rfl (by kernel_rfl) (by kernel_rfl) (by kernel_rfl) (fun _ _ _ h => h) (Or.inl ⟨by rfl, ?_⟩) (by assumption) ?_
          rotate_left
          · (intro W hSW; (try dsimp only at hSW); have c0' := cell_old hSW zx8 c0; have c1' := cell_old hSW zx8 c1; have c2' := cell_old hSW zx8 c2; have c3' := cell_old hSW zx8 c3; go_simp; first | done | with_reducible rfl)
          try simp only [Act.put, List.setIfInBounds_toArray, List.set_cons_zero, List.set_cons_succ]
          refine wpAnyH_take (i := 19) (oi := { dst := some 128, op := Op.indexAddr 30 (Operand.tmp 127) (Operand.const (Value.int IntKind.i64 0)), type := 0, pos := "law.go:90", after := #[{ on := 18, ground := Ground.data }, { on := 5, ground := Ground.guard }], guard := some (5, true) }) (v := ?_) rfl (by kernel_rfl) (by kernel_rfl) (by kernel_rfl) (fun _ _ _ h => h) (Or.inl ⟨by rfl, ?_⟩) (by assumption) ?_
          rotate_left
          · (intro W hSW; (try dsimp only at hSW); go_simp; first | done | with_reducible rfl)
          try simp only [Act.put, List.setIfInBounds_toArray, List.set_cons_zero, List.set_cons_succ]
          refine wpAnyH_take (i := 20) (oi := { dst := some 129, op := Op.fieldAddr 35 (Operand.tmp 128) 4, type := 0, pos := "law.go:90", after := #[{ on := 19, ground := Ground.data }, { on := 5, ground := Ground.guard }], guard := some (5, true) }) (v := ?_) rfl (by kernel_rfl) (by kernel_rfl) (by kernel_rfl) (fun _ _ _ h => h) (Or.inl ⟨by rfl, ?_⟩) (by assumption) ?_
          rotate_left
          · (intro W hSW; (try dsimp only at hSW); go_simp; first | done | with_reducible rfl)
          try simp only [Act.put, List.setIfInBounds_toArray, List.set_cons_zero, List.set_cons_succ]
          refine wpAnyH_take (i := 21) (oi := { dst := some 130, op := Op.load 22 (Operand.tmp 129), type := 22, pos := "law.go:90", after := #[{ on := 20, ground := Ground.data }, { on := 5, ground := Ground.guard }], guard := some (5, true) }) (v := ?_) rfl (by kernel_rfl) (by kernel_rfl) (by kernel_rfl) (fun _ _ _ h => h) (Or.inl ⟨by rfl, ?_⟩) (by assumption) ?_
          rotate_left
          · (intro W hSW; (try dsimp only at hSW); have fx4' := cell_old hSW zfx fx4; go_simp; first | done | with_reducible rfl)
          try simp only [Act.put, List.setIfInBounds_toArray, List.set_cons_zero, List.set_cons_succ]
          refine wpAnyH_take (i := 22) (oi := { dst := some 131, op := Op.fieldAddr 32 (Operand.tmp 8) 2, type := 0, pos := "law.go:90", after := #[{ on := 5, ground := Ground.guard }], guard := some (5, true) }) (v := ?_) rfl (by kernel_rfl) (by kernel_rfl) (by kernel_rfl) (fun _ _ _ h => h) (Or.inl ⟨by rfl, ?_⟩) (by assumption) ?_
          rotate_left
          · (intro W hSW; (try dsimp only at hSW); go_simp; first | done | with_reducible rfl)
          try simp only [Act.put, List.setIfInBounds_toArray, List.set_cons_zero, List.set_cons_succ]
          refine wpAnyH_take (i := 23) (oi := { dst := some 132, op := Op.load 30 (Operand.tmp 131), type := 30, pos := "law.go:90", after := #[{ on := 22, ground := Ground.data }, { on := 5, ground := Ground.guard }], guard := some (5, true) }) (v := ?_) rfl (by kernel_rfl) (by kernel_rfl) (by kernel_rfl) (fun _ _ _ h => h) (Or.inl ⟨by rfl, ?_⟩) (by assumption) ?_
          rotate_left
          · (intro W hSW; (try dsimp only at hSW); have d0' := cell_old hSW zy8 d0; have d1' := cell_old hSW zy8 d1; have d2' := cell_old hSW zy8 d2; have d3' := cell_old hSW zy8 d3; go_simp; first | done | with_reducible rfl)
          try simp only [Act.put, List.setIfInBounds_toArray, List.set_cons_zero, List.set_cons_succ]
          refine wpAnyH_take (i := 24) (oi := { dst := some 133, op := Op.indexAddr 30 (Operand.tmp 132) (Operand.const (Value.int IntKind.i64 0)), type := 0, pos := "law.go:90", after := #[{ on := 23, ground := Ground.data }, { on := 5, ground := Ground.guard }], guard := some (5, true) }) (v := ?_) rfl (by kernel_rfl) (by kernel_rfl) (by kernel_rfl) (fun _ _ _ h => h) (Or.inl ⟨by rfl, ?_⟩) (by assumption) ?_
          rotate_left
          · (intro W hSW; (try dsimp only at hSW); go_simp; first | done | with_reducible rfl)
          try simp only [Act.put, List.setIfInBounds_toArray, List.set_cons_zero, List.set_cons_succ]
          refine wpAnyH_take (i := 25) (oi := { dst := some 134, op := Op.fieldAddr 35 (Operand.tmp 133) 4, type := 0, pos := "law.go:90", after := #[{ on := 24, ground := Ground.data }, { on := 5, ground := Ground.guard }], guard := some (5, true) }) (v := ?_) rfl (by kernel_rfl) (by kernel_rfl) (by kernel_rfl) (fun _ _ _ h => h) (Or.inl ⟨by rfl, ?_⟩) (by assumption) ?_
          rotate_left
          · (intro W hSW; (try dsimp only at hSW); go_simp; first | done | with_reducible rfl)
          try simp only [Act.put, List.setIfInBounds_toArray, List.set_cons_zero, List.set_cons_succ]
          refine wpAnyH_take (i := 26) (oi := { dst := some 135, op := Op.load 22 (Operand.tmp 134), type := 22, pos := "law.go:90", after := #[{ on := 25, ground := Ground.data }, { on := 5, ground := Ground.guard }], guard := some (5, true) }) (v := ?_) rfl (by kernel_rfl) (by kernel_rfl) (by kernel_rfl) (fun _ _ _ h => h) (Or.inl ⟨by rfl, ?_⟩) (by assumption) ?_
          rotate_left
          · (intro W hSW; (try dsimp only at hSW); have fy4' := cell_old hSW zfy fy4; go_simp; first | done | with_reducible rfl)
          try simp only [Act.put, List.setIfInBounds_toArray, List.set_cons_zero, List.set_cons_succ]
          refine wpAnyH_ready (rs := [16]) (by kernel_rfl) (by simp) ?_
          refine AllReadyH.cons (o := { dst := some 125, op := Op.call { callee := Callee.value (Operand.func 17), args := #[Operand.tmp 119, Operand.tmp 124], argTypes := #[22, 22] }, type := 4, pos := "law.go:90", after := #[{ on := 10, ground := Ground.data }, { on := 15, ground := Ground.data }, { on := 5, ground := Ground.chain }, { on := 5, ground := Ground.guard }], guard := some (5, true) }) rfl (fun KQ hKQ => ?_) AllReadyH.nil
          go_simp
          refine (HC2.out _ hS2).mono ?_
          rintro e wz16 ⟨rfl, hb16⟩
          have hS16 : Below w8.heap.size w8 wz16 := hS2.trans (hb16.mono hS2.size)
          refine hKQ.out _ _ hS16 (fun _ => ?_)
          clear hKQ KQ
          try simp only [Act.put, List.setIfInBounds_toArray, List.set_cons_zero, List.set_cons_succ]
          refine wpAnyH_ready (rs := [27]) (by kernel_rfl) (by simp) ?_
          refine AllReadyH.cons (o := { dst := some 136, op := Op.call { callee := Callee.value (Operand.func 14), args := #[Operand.tmp 130, Operand.tmp 135], argTypes := #[22, 22] }, type := 4, pos := "law.go:90", after := #[{ on := 21, ground := Ground.data }, { on := 26, ground := Ground.data }, { on := 16, ground := Ground.chain }, { on := 5, ground := Ground.guard }], guard := some (5, true) }) rfl (fun KQ hKQ => ?_) AllReadyH.nil
          go_simp
          refine (HC3.out _ hS16).mono ?_
          rintro e wz27 ⟨rfl, hb27⟩
          have hS27 : Below w8.heap.size w8 wz27 := hS16.trans (hb27.mono hS16.size)
          refine hKQ.out _ _ hS27 (fun _ => ?_)
          clear hKQ KQ
          try simp only [Act.put, List.setIfInBounds_toArray, List.set_cons_zero, List.set_cons_succ]
          refine wpAnyH_take (i := 28) (oi := { dst := some 137, op := Op.binOp BinOp.eql 4 (Operand.tmp 125) (Operand.tmp 136) 4, type := 4, pos := "law.go:90", after := #[{ on := 16, ground := Ground.data }, { on := 27, ground := Ground.data }, { on := 5, ground := Ground.guard }], guard := some (5, true) }) (v := ?_) rfl (by kernel_rfl) (by kernel_rfl) (by kernel_rfl) (fun _ _ _ h => h) (Or.inl ⟨by rfl, ?_⟩) (by assumption) ?_
          rotate_left
          · (intro W hSW; (try dsimp only at hSW); go_simp; first | done | with_reducible rfl)
          try simp only [Act.put, List.setIfInBounds_toArray, List.set_cons_zero, List.set_cons_succ]
          refine wpAnyH_take (i := 29) (oi := { dst := some 138, op := Op.pick (Operand.tmp 114) (Operand.tmp 137) (Operand.const (Value.bool false)), type := 4, pos := "law.go:90", after := #[{ on := 5, ground := Ground.data }, { on := 28, ground := Ground.data }], guard := none }) (v := ?_) rfl (by kernel_rfl) (by kernel_rfl) (by kernel_rfl) (fun _ _ _ h => h) (Or.inl ⟨by rfl, ?_⟩) (by assumption) ?_
          rotate_left
          · (intro W hSW; (try dsimp only at hSW); go_simp; first | done | with_reducible rfl)
          try simp only [Act.put, List.setIfInBounds_toArray, List.set_cons_zero, List.set_cons_succ]
          refine wpAnyH_take (i := 30) (oi := { dst := some 139, op := Op.move (Operand.tmp 138), type := 4, pos := "law.go:90", after := #[{ on := 29, ground := Ground.data }, { on := 27, ground := Ground.chain }], guard := none }) (v := ?_) rfl (by kernel_rfl) (by kernel_rfl) (by kernel_rfl) (fun _ _ _ h => h) (Or.inl ⟨by rfl, ?_⟩) (by assumption) ?_
          rotate_left
          · (intro W hSW; (try dsimp only at hSW); go_simp; first | done | with_reducible rfl)
          try simp only [Act.put, List.setIfInBounds_toArray, List.set_cons_zero, List.set_cons_succ]
          refine wpAnyH_take (i := 31) (oi := { dst := some 140, op := Op.load 32 (Operand.tmp 7), type := 32, pos := "law.go:90", after := #[{ on := 30, ground := Ground.guard }], guard := some (30, true) }) (v := ?_) rfl (by kernel_rfl) (by kernel_rfl) (by kernel_rfl) (fun _ _ _ h => h) (Or.inl ⟨by rfl, ?_⟩) (by assumption) ?_
          rotate_left
          · (intro W hSW; (try dsimp only at hSW); have c0' := cell_old hSW zx8 c0; have c1' := cell_old hSW zx8 c1; have c2' := cell_old hSW zx8 c2; have c3' := cell_old hSW zx8 c3; go_simp; first | done | with_reducible rfl)
          try simp only [Act.put, List.setIfInBounds_toArray, List.set_cons_zero, List.set_cons_succ]
          refine wpAnyH_take (i := 32) (oi := { dst := some 141, op := Op.load 32 (Operand.tmp 7), type := 32, pos := "law.go:90", after := #[{ on := 30, ground := Ground.guard }], guard := some (30, true) }) (v := ?_) rfl (by kernel_rfl) (by kernel_rfl) (by kernel_rfl) (fun _ _ _ h => h) (Or.inl ⟨by rfl, ?_⟩) (by assumption) ?_
          rotate_left
          · (intro W hSW; (try dsimp only at hSW); have c0' := cell_old hSW zx8 c0; have c1' := cell_old hSW zx8 c1; have c2' := cell_old hSW zx8 c2; have c3' := cell_old hSW zx8 c3; go_simp; first | done | with_reducible rfl)
          try simp only [Act.put, List.setIfInBounds_toArray, List.set_cons_zero, List.set_cons_succ]
          refine wpAnyH_ready (rs := [33]) (by kernel_rfl) (by simp) ?_
          refine AllReadyH.cons (o := { dst := some 142, op := Op.call { callee := Callee.value (Operand.func 16), args := #[Operand.tmp 140, Operand.tmp 141], argTypes := #[32, 32] }, type := 4, pos := "law.go:90", after := #[{ on := 31, ground := Ground.data }, { on := 32, ground := Ground.data }, { on := 30, ground := Ground.chain }, { on := 30, ground := Ground.guard }], guard := some (30, true) }) rfl (fun KQ hKQ => ?_) AllReadyH.nil
          go_simp
          refine (HC4.out _ hS27).mono ?_
          rintro e wz33 ⟨rfl, hb33⟩
          have hS33 : Below w8.heap.size w8 wz33 := hS27.trans (hb33.mono hS27.size)
          refine hKQ.out _ _ hS33 (fun _ => ?_)
          clear hKQ KQ
          try simp only [Act.put, List.setIfInBounds_toArray, List.set_cons_zero, List.set_cons_succ]
          refine wpAnyH_take (i := 34) (oi := { dst := some 143, op := Op.pick (Operand.tmp 139) (Operand.tmp 142) (Operand.const (Value.bool false)), type := 4, pos := "law.go:90", after := #[{ on := 30, ground := Ground.data }, { on := 33, ground := Ground.data }], guard := none }) (v := ?_) rfl (by kernel_rfl) (by kernel_rfl) (by kernel_rfl) (fun _ _ _ h => h) (Or.inl ⟨by rfl, ?_⟩) (by assumption) ?_
          rotate_left
          · (intro W hSW; (try dsimp only at hSW); go_simp; first | done | with_reducible rfl)
          try simp only [Act.put, List.setIfInBounds_toArray, List.set_cons_zero, List.set_cons_succ]
          refine wpAnyH_take (i := 35) (oi := { dst := some 6, op := Op.assign (Operand.tmp 143), type := 4, pos := "law.go:90", after := #[{ on := 34, ground := Ground.data }, { on := 33, ground := Ground.chain }, { on := 0, ground := Ground.phase }, { on := 1, ground := Ground.phase }, { on := 2, ground := Ground.phase }, { on := 3, ground := Ground.phase }, { on := 4, ground := Ground.phase }, { on := 5, ground := Ground.phase }, { on := 6, ground := Ground.phase }, { on := 7, ground := Ground.phase }, { on := 8, ground := Ground.phase }, { on := 9, ground := Ground.phase }, { on := 10, ground := Ground.phase }, { on := 11, ground := Ground.phase }, { on := 12, ground := Ground.phase }, { on := 13, ground := Ground.phase }, { on := 14, ground := Ground.phase }, { on := 15, ground := Ground.phase }, { on := 16, ground := Ground.phase }, { on := 17, ground := Ground.phase }, { on := 18, ground := Ground.phase }, { on := 19, ground := Ground.phase }, { on := 20, ground := Ground.phase }, { on := 21, ground := Ground.phase }, { on := 22, ground := Ground.phase }, { on := 23, ground := Ground.phase }, { on := 24, ground := Ground.phase }, { on := 25, ground := Ground.phase }, { on := 26, ground := Ground.phase }, { on := 27, ground := Ground.phase }, { on := 28, ground := Ground.phase }, { on := 29, ground := Ground.phase }, { on := 30, ground := Ground.phase }, { on := 31, ground := Ground.phase }, { on := 32, ground := Ground.phase }, { on := 33, ground := Ground.phase }, { on := 34, ground := Ground.phase }], guard := none }) (v := ?_) rfl (by kernel_rfl) (by kernel_rfl) (by kernel_rfl) (fun _ _ _ h => h) (Or.inl ⟨by rfl, ?_⟩) (by assumption) ?_
          rotate_left
          · (intro W hSW; (try dsimp only at hSW); go_simp; first | done | with_reducible rfl)
          try simp only [Act.put, List.setIfInBounds_toArray, List.set_cons_zero, List.set_cons_succ]
          refine wpAnyH_done (by kernel_rfl) ?_ _
          have HF := Lib.hid hS33
          clear hHeld hS2 hS16 hS27 hS33 hb2 hb16 hb27 hb33
          go_wp2
          go_ret
          exact ⟨rfl, HB8w.out.trans (HF.out.mono HB8w.out.size)⟩
end Go.Proofs.Ytpjoggefklohjaa
