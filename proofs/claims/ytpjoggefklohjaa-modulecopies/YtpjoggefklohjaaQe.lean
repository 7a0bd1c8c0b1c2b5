/-
  What the comparison of two lists of functions leaves, and of two modules.
-/
import Derived.Test.YtpjoggefklohjaaQf
namespace Go.Proofs.Ytpjoggefklohjaa
open Go.RowKit
set_option linter.unusedVariables false
set_option linter.unusedSimpArgs false

theorem FnsS.at_ {S : Nat → Prop} {w w' : World} {A : Option Addr} {L : List Fn} (h : FnsS S w A L) (hb : Below w.heap.size w w') (i : Nat) (hi : i < L.length) : ∃ b o A1 a1 A2 a2 A3 a3, A = some ⟨b, o, none⟩ ∧ b < w'.heap.size ∧ (w'.cell? ⟨b, o + i * 5, none⟩ = some (.int .i64 L[i].name) ∧ w'.cell? ⟨b, o + i * 5 + 1, none⟩ = some (.int .i64 L[i].params) ∧ w'.cell? ⟨b, o + i * 5 + 2, none⟩ = some (.slice A1 L[i].locals.length a1) ∧ w'.cell? ⟨b, o + i * 5 + 3, none⟩ = some (.slice A2 L[i].sites.length a2) ∧ w'.cell? ⟨b, o + i * 5 + 4, none⟩ = some (.slice A3 L[i].body.len a3)) ∧ RdS (fun _ => True) w' A1 L[i].locals.length 1 (intV L[i].locals) ∧ RdS (fun _ => True) w' A2 L[i].sites.length 1 (intV L[i].sites) ∧ BodyV w' A3 L[i].body := by
  obtain ⟨b, o, hA, _, hc⟩ := h (by omega)
  obtain ⟨cs, ⟨A1, a1, A2, a2, A3, a3, rfl, r1, r2, r3⟩, hat⟩ := hc i hi
  have hl : b < w.heap.size := World.block_lt_of_cell? w ⟨b, o + i * 5 + 0, none⟩ (hat 0 _ rfl)
  refine ⟨b, o, A1, a1, A2, a2, A3, a3, hA, Nat.lt_of_lt_of_le hl hb.size, ⟨cell_old hb hl (hat 0 _ rfl), cell_old hb hl (hat 1 _ rfl), cell_old hb hl (hat 2 _ rfl), cell_old hb hl (hat 3 _ rfl), cell_old hb hl (hat 4 _ rfl)⟩, (r1.old hb (by omega)).below (fun _ _ => trivial), (r2.old hb (by omega)).below (fun _ _ => trivial), r3.at_.old hb⟩

set_option maxRecDepth 20000 in
set_option maxHeartbeats 2000000 in
theorem eqFuncs_any (L M : List Fn) (A B : Option Addr) (ca cb : Nat) (w : World) (hL : ∀ f ∈ L, f.Fit) (hM : ∀ f ∈ M, f.Fit) (h1 : FnsS (fun _ => True) w A L) (h2 : FnsS (fun _ => True) w B M) (hl1 : L.length ≤ 1000000) (hl2 : M.length ≤ 1000000) :
    Calls Try.prog 32 #[.slice A L.length ca, .slice B M.length cb, .func (.func 33) #[] #[]] w (BoB w (fnsSame L M)) := by
  by_cases hlen : L.length = M.length
  · have H1 := Lib.hid h1
    have H2 := Lib.hid h2
    have HL := Lib.hid hL
    have HM := Lib.hid hM
    obtain ⟨v, hv⟩ : ∃ v, v = fnsSame L M := ⟨_, rfl⟩
    have HV : Hid (fnsSame (L.drop 0) (M.drop 0) = v) := hv.symm
    rw [← hv]
    obtain ⟨N, hN⟩ : ∃ N, N = L.length := ⟨_, rfl⟩
    have HL1 : Hid (L.length = N) := hN.symm
    have HL2 : Hid (M.length = N) := hlen.symm.trans hN.symm
    rw [← hlen, ← hN]
    rw [← hN] at hl1
    clear hN hlen hl2 h1 h2 hv hL hM
    go_enter Try.func32, Try.ntmps32
    go_wp2_with fail
    go_loopw [17] (fun s wr => ∃ (i : Nat), i ≤ N ∧ s = .int .i64 (i : Int) ∧ Hid (Below w.heap.size w wr) ∧ Hid (fnsSame (L.drop i) (M.drop i) = v)) (fun s _ => N - (intOf s).toNat)
    case atStart => exact ⟨0, Nat.zero_le _, rfl, Below.refl _ _, HV⟩
    case round =>
      obtain ⟨i, hi, rfl, hB, hE⟩ := hrel
      by_cases hlt : i < N
      · have hia : i < L.length := by have := HL1.out; omega
        have hib : i < M.length := by have := HL2.out; omega
        obtain ⟨b, o, A1, a1, A2, a2, A3, a3, rfl, hbl, ⟨c0, c1, c2, c3, c4⟩, r1, r2, r3⟩ := H1.out.at_ hB.out i hia
        obtain ⟨b', o', B1, b1, B2, b2, B3, b3, rfl, hbl', ⟨d0, d1, d2, d3, d4⟩, s1, s2, s3⟩ := H2.out.at_ hB.out i hib
        have hE2 := hE.out
        rw [fnsSame_drop hia hib] at hE2
        have hfF := HL.out _ (List.getElem_mem hia)
        have hgF := HM.out _ (List.getElem_mem hib)
        have hC := fun wx (hx : Below wr.heap.size wr wx) => sameFunc_any L[i] M[i] A1 A2 A3 B1 B2 B3 a1 a2 a3 b1 b2 b3 wx hfF hgF (r1.old hx (by omega)) (r2.old hx (by omega)) (r3.old hx) (s1.old hx (by omega)) (s2.old hx (by omega)) (s3.old hx)
        have l1 := hfF.locals
        have l2 := hfF.sites
        have l3 : L[i].body.len ≤ 10000000 := by have := Bd.len_le L[i].body; have := hfF.size; omega
        have m1 := hgF.locals
        have m2 := hgF.sites
        have m3 : M[i].body.len ≤ 10000000 := by have := Bd.len_le M[i].body; have := hgF.size; omega
        clear hE HV r1 r2 r3 s1 s2 s3 hfF hgF
        generalize fnSame L[i] M[i] = vf at *
        have HE2 := Lib.hid hE2
        generalize L[i].name = x0 at *
        generalize L[i].params = x1 at *
        generalize L[i].locals.length = x2 at *
        generalize L[i].sites.length = x3 at *
        generalize L[i].body.len = x4 at *
        generalize M[i].name = y0 at *
        generalize M[i].params = y1 at *
        generalize M[i].locals.length = y2 at *
        generalize M[i].sites.length = y3 at *
        generalize M[i].body.len = y4 at *
        have hli : (i : Int) < (N : Int) := by omega
        have HC := Lib.hid (hC ((wr.alloc (.cells #[.int .i64 x0, .int .i64 x1, .slice A1 x2 a1, .slice A2 x3 a2, .slice A3 x4 a3] 35)).alloc (.cells #[.int .i64 y0, .int .i64 y1, .slice B1 y2 b1, .slice B2 y3 b2, .slice B3 y4 b3] 35)) (((Below.refl _ _).alloc (Nat.le_refl _) _).alloc (by simp) _))
        have HBx := Lib.hid (hB.out.trans ((((Below.refl wr.heap.size wr).alloc (Nat.le_refl _) (.cells #[.int .i64 x0, .int .i64 x1, .slice A1 x2 a1, .slice A2 x3 a2, .slice A3 x4 a3] 35)).alloc (by simp) (.cells #[.int .i64 y0, .int .i64 y1, .slice B1 y2 b1, .slice B2 y3 b2, .slice B3 y4 b3] 35)).mono hB.out.size))
        clear hC hE2
        go_wp2_with fail
        refine HC.out.mono ?_
        rintro e w3 ⟨rfl, hb3⟩
        have HB3 := Lib.hid (HBx.out.trans (hb3.mono HBx.out.size))
        clear hb3 c0 c1 c2 c3 c4 d0 d1 d2 d3 d4
        cases vf with
        | false =>
          obtain rfl : v = false := by rw [← HE2.out]; rfl
          go_wp2
          go_ret
          exact ⟨rfl, HB3.out⟩
        | true =>
          have HE3 : Hid (fnsSame (L.drop (i + 1)) (M.drop (i + 1)) = v) := by show _ = _; simpa using HE2.out
          go_wp2
          go_roundw
          case rel => exact ⟨i + 1, by omega, by go_num, HB3, HE3⟩
          case measure => simp [intOf]; omega
      · obtain rfl : i = N := by omega
        obtain rfl : v = true := by rw [← hE.out, List.drop_of_length_le (by have := HL1.out; omega), List.drop_of_length_le (by have := HL2.out; omega)]; rfl
        clear hE HV
        go_wp2
        go_ret
        exact ⟨rfl, hB.out⟩
  · rw [fnsSame_len _ _ hlen]
    have hli : ((L.length : Int) == (M.length : Int)) = false := by simp; omega
    have hlj : ((L.length : Int) != (M.length : Int)) = true := by simp; omega
    clear h1 h2
    generalize L.length = la at *
    generalize M.length = lb at *
    go_enter Try.func32, Try.ntmps32
    go_wp2
    go_ret
    exact ⟨rfl, Below.refl _ _⟩

/-- A module that is read. -/
structure MdR (w : World) (As Ag Af Ae : Option Addr) (M : Md) : Prop where
  strs : RdS (fun _ => True) w As M.strs.length 1 (strV M.strs)
  globs : RdS (fun _ => True) w Ag M.globs.length 1 (intV M.globs)
  funcs : FnsS (fun _ => True) w Af M.funcs
  ents : RdS (fun _ => True) w Ae M.ents.length 1 (intV M.ents)
theorem MdR.old {w w' : World} {As Ag Af Ae : Option Addr} {M : Md} (h : MdR w As Ag Af Ae M) (hb : Below w.heap.size w w') : MdR w' As Ag Af Ae M :=
  ⟨h.strs.old hb (by omega), h.globs.old hb (by omega), h.funcs.old hb, h.ents.old hb (by omega)⟩
structure Md.Fit (M : Md) : Prop where
  strs : M.strs.length ≤ 1000000
  globs : M.globs.length ≤ 1000000
  funcs : M.funcs.length ≤ 1000000
  ents : M.ents.length ≤ 1000000
  fns : ∀ f ∈ M.funcs, f.Fit
def mdSame (M N : Md) : Bool := decide (M.strs = N.strs) && (decide (M.globs = N.globs) && (fnsSame M.funcs N.funcs && decide (M.ents = N.ents)))
theorem mdSame_refl (M : Md) : mdSame M M = true := by simp [mdSame, fnsSame_refl]

set_option maxRecDepth 20000 in
set_option maxHeartbeats 2000000 in
theorem equal_any (M N : Md) (As Ag Af Ae Bs Bg Bf Be : Option Addr) (cs cg cf ce ds dg df de : Nat) (w : World) (hM : M.Fit) (hN : N.Fit) (h1 : MdR w As Ag Af Ae M) (h2 : MdR w Bs Bg Bf Be N) :
    Calls Try.prog 16 #[.agg #[.slice As M.strs.length cs, .slice Ag M.globs.length cg, .slice Af M.funcs.length cf, .slice Ae M.ents.length ce], .agg #[.slice Bs N.strs.length ds, .slice Bg N.globs.length dg, .slice Bf N.funcs.length df, .slice Be N.ents.length de]] w (BoB w (mdSame M N)) := by
  obtain ⟨m1, m2, m3, m4, m5⟩ := hM
  obtain ⟨n1, n2, n3, n4, n5⟩ := hN
  have hC1 := fun wx (hx : Below w.heap.size w wx) => (eqStr_any M.strs N.strs As Bs cs ds wx (h1.old hx).strs (h2.old hx).strs m1 n1).mono fun e w' h => h.bo
  have hC2 := fun wx (hx : Below w.heap.size w wx) => (eqInt_any M.globs N.globs Ag Bg cg dg wx (h1.old hx).globs (h2.old hx).globs m2 n2).mono fun e w' h => h.bo
  have hC3 := fun wx (hx : Below w.heap.size w wx) => eqFuncs_any M.funcs N.funcs Af Bf cf df wx m5 n5 (h1.old hx).funcs (h2.old hx).funcs m3 n3
  have hC4 := fun wx (hx : Below w.heap.size w wx) => (eqInt_any M.ents N.ents Ae Be ce de wx (h1.old hx).ents (h2.old hx).ents m4 n4).mono fun e w' h => h.bo
  have e : mdSame M N = (decide (M.strs = N.strs) && (decide (M.globs = N.globs) && (fnsSame M.funcs N.funcs && decide (M.ents = N.ents)))) := rfl
  rw [e]
  obtain ⟨v1, hv1⟩ : ∃ v, v = decide (M.strs = N.strs) := ⟨_, rfl⟩
  obtain ⟨v2, hv2⟩ : ∃ v, v = decide (M.globs = N.globs) := ⟨_, rfl⟩
  obtain ⟨v4, hv4⟩ : ∃ v, v = decide (M.ents = N.ents) := ⟨_, rfl⟩
  rw [← hv1] at hC1 ⊢
  rw [← hv2] at hC2 ⊢
  rw [← hv4] at hC4 ⊢
  clear e h1 h2 hv1 hv2 hv4 m5 n5
  generalize fnsSame M.funcs N.funcs = v3 at *
  generalize M.strs.length = ls at *
  generalize M.globs.length = lg at *
  generalize M.funcs.length = lf at *
  generalize M.ents.length = le at *
  generalize N.strs.length = ks at *
  generalize N.globs.length = kg at *
  generalize N.funcs.length = kf at *
  generalize N.ents.length = ke at *
  have HC1 := Lib.hid hC1
  have HC2 := Lib.hid hC2
  have HC3 := Lib.hid hC3
  have HC4 := Lib.hid hC4
  clear hC1 hC2 hC3 hC4
  have HB : Hid (Below w.heap.size w ((w.alloc (.cells #[.slice As ls cs, .slice Ag lg cg, .slice Af lf cf, .slice Ae le ce] 32)).alloc (.cells #[.slice Bs ks ds, .slice Bg kg dg, .slice Bf kf df, .slice Be ke de] 32))) := ((Below.refl _ _).alloc (Nat.le_refl _) _).alloc (by simp) _
  have K1 : Hid (Blk ((w.alloc (.cells #[.slice As ls cs, .slice Ag lg cg, .slice Af lf cf, .slice Ae le ce] 32)).alloc (.cells #[.slice Bs ks ds, .slice Bg kg dg, .slice Bf kf df, .slice Be ke de] 32)) w.heap.size 32 #[.slice As ls cs, .slice Ag lg cg, .slice Af lf cf, .slice Ae le ce]) := (Blk.new w 32 _).alloc _
  have K2 : Hid (Blk ((w.alloc (.cells #[.slice As ls cs, .slice Ag lg cg, .slice Af lf cf, .slice Ae le ce] 32)).alloc (.cells #[.slice Bs ks ds, .slice Bg kg dg, .slice Bf kf df, .slice Be ke de] 32)) (w.heap.size + 1) 32 #[.slice Bs ks ds, .slice Bg kg dg, .slice Bf kf df, .slice Be ke de]) := Blk.new' _ 32 _ _ (by simp)
  go_enter Try.func16, Try.ntmps16
  go_upto_region 1 with (fail)
  generalize (w.alloc (.cells #[.slice As ls cs, .slice Ag lg cg, .slice Af lf cf, .slice Ae le ce] 32)).alloc (.cells #[.slice Bs ks ds, .slice Bg kg dg, .slice Bf kf df, .slice Be ke de] 32) = w2 at *
  obtain ⟨c0, c1, c2, c3⟩ := K1.out.c4
  obtain ⟨d0, d1, d2, d3⟩ := K2.out.c4
  have z1 : w.heap.size < w2.heap.size := K1.out.lt
  have z2 : w.heap.size + 1 < w2.heap.size := K2.out.lt
  go_wp2_with fail
  refine (HC1.out w2 HB.out).mono ?_
  rintro e w3 ⟨rfl, hb3⟩
  have HB3 := Lib.hid (HB.out.trans (hb3.mono HB.out.size))
  have K13 := Lib.hid (K1.out.old hb3)
  have K23 := Lib.hid (K2.out.old hb3)
  clear hb3 c0 c1 c2 c3 d0 d1 d2 d3 z1 z2 K1 K2
  obtain ⟨c0, c1, c2, c3⟩ := K13.out.c4
  obtain ⟨d0, d1, d2, d3⟩ := K23.out.c4
  have z1 : w.heap.size < w3.heap.size := K13.out.lt
  have z2 : w.heap.size + 1 < w3.heap.size := K23.out.lt
  cases v1 with
  | false =>
    go_wp2
    go_ret
    exact ⟨by simp, HB3.out⟩
  | true =>
    go_wp2_with fail
    refine (HC2.out w3 HB3.out).mono ?_
    rintro e w4 ⟨rfl, hb4⟩
    have HB4 := Lib.hid (HB3.out.trans (hb4.mono HB3.out.size))
    have K14 := Lib.hid (K13.out.old hb4)
    have K24 := Lib.hid (K23.out.old hb4)
    clear hb4 c0 c1 c2 c3 d0 d1 d2 d3 z1 z2 K13 K23
    obtain ⟨c0, c1, c2, c3⟩ := K14.out.c4
    obtain ⟨d0, d1, d2, d3⟩ := K24.out.c4
    have z1 : w.heap.size < w4.heap.size := K14.out.lt
    have z2 : w.heap.size + 1 < w4.heap.size := K24.out.lt
    cases v2 with
    | false =>
      go_wp2
      go_ret
      exact ⟨by simp, HB4.out⟩
    | true =>
      go_wp2_with fail
      refine (HC3.out w4 HB4.out).mono ?_
      rintro e w5 ⟨rfl, hb5⟩
      have HB5 := Lib.hid (HB4.out.trans (hb5.mono HB4.out.size))
      have K15 := Lib.hid (K14.out.old hb5)
      have K25 := Lib.hid (K24.out.old hb5)
      clear hb5 c0 c1 c2 c3 d0 d1 d2 d3 z1 z2 K14 K24
      obtain ⟨c0, c1, c2, c3⟩ := K15.out.c4
      obtain ⟨d0, d1, d2, d3⟩ := K25.out.c4
      have z1 : w.heap.size < w5.heap.size := K15.out.lt
      have z2 : w.heap.size + 1 < w5.heap.size := K25.out.lt
      cases v3 with
      | false =>
        go_wp2
        go_ret
        exact ⟨by simp, HB5.out⟩
      | true =>
        go_wp2_with fail
        refine (HC4.out w5 HB5.out).mono ?_
        rintro e w6 ⟨rfl, hb6⟩
        have HB6 := Lib.hid (HB5.out.trans (hb6.mono HB5.out.size))
        clear hb6 c0 c1 c2 c3 d0 d1 d2 d3 z1 z2
        go_wp2
        go_ret
        exact ⟨by simp, HB6.out⟩
end Go.Proofs.Ytpjoggefklohjaa
