/-
  What the comparison of two functions leaves, and of two lists of functions.
-/
import Derived.Test.YtpjoggefklohjaaQs
namespace Go.Proofs.Ytpjoggefklohjaa
open Go.RowKit
set_option linter.unusedVariables false
set_option linter.unusedSimpArgs false

def fnSame (f g : Fn) : Bool := decide (f.name = g.name) && (decide (f.params = g.params) && (decide (f.locals = g.locals) && (decide (f.sites = g.sites) && f.body.same g.body)))
def fnsSame : List Fn → List Fn → Bool
  | [], [] => true
  | f :: l, g :: m => fnSame f g && fnsSame l m
  | _, _ => false
theorem fnsSame_len : ∀ l m : List Fn, l.length ≠ m.length → fnsSame l m = false
  | [], [], h => by simp at h
  | [], _ :: _, _ => rfl
  | _ :: _, [], _ => rfl
  | f :: l, g :: m, h => by simp only [fnsSame, fnsSame_len l m (by simpa using h), Bool.and_false]
theorem fnsSame_drop {l m : List Fn} {i : Nat} (h1 : i < l.length) (h2 : i < m.length) : fnsSame (l.drop i) (m.drop i) = (fnSame l[i] m[i] && fnsSame (l.drop (i + 1)) (m.drop (i + 1))) := by
  have e1 : l.drop i = l[i] :: l.drop (i + 1) := List.drop_eq_getElem_cons h1
  have e2 : m.drop i = m[i] :: m.drop (i + 1) := List.drop_eq_getElem_cons h2
  rw [e1, e2]
  rfl
theorem fnSame_refl (f : Fn) : fnSame f f = true := by simp [fnSame, Bd.same_refl]
theorem fnsSame_refl : ∀ l : List Fn, fnsSame l l = true
  | [] => rfl
  | f :: l => by simp [fnsSame, fnSame_refl, fnsSame_refl l]
/-- A truth, and what was there is as it was. -/
def BoB (w : World) (v : Bool) (e : Ending) (w' : World) : Prop := e = .returned (.bool v) ∧ Below w.heap.size w w'
theorem QuB.bo {w w' : World} {v : Bool} {e : Ending} (h : QuB w v e w') : BoB w v e w' := by
  obtain ⟨he, k, rfl⟩ := h
  exact ⟨he, below_dN _ _ _⟩
/-- No list is too long. -/
structure Fn.Fit (f : Fn) : Prop where
  locals : f.locals.length ≤ 1000000
  sites : f.sites.length ≤ 1000000
  size : f.body.size ≤ 10000000
  wide : f.body.wide ≤ 10000000

set_option maxRecDepth 20000 in
set_option maxHeartbeats 2000000 in
theorem sameFunc_any (f g : Fn) (A1 A2 A3 B1 B2 B3 : Option Addr) (a1 a2 a3 b1 b2 b3 : Nat) (w : World) (hf : f.Fit) (hg : g.Fit) (r1 : RdS (fun _ => True) w A1 f.locals.length 1 (intV f.locals)) (r2 : RdS (fun _ => True) w A2 f.sites.length 1 (intV f.sites)) (r3 : BodyV w A3 f.body) (s1 : RdS (fun _ => True) w B1 g.locals.length 1 (intV g.locals)) (s2 : RdS (fun _ => True) w B2 g.sites.length 1 (intV g.sites)) (s3 : BodyV w B3 g.body) :
    Calls Try.prog 33 #[.agg #[.int .i64 f.name, .int .i64 f.params, .slice A1 f.locals.length a1, .slice A2 f.sites.length a2, .slice A3 f.body.len a3], .agg #[.int .i64 g.name, .int .i64 g.params, .slice B1 g.locals.length b1, .slice B2 g.sites.length b2, .slice B3 g.body.len b3]] w (BoB w (fnSame f g)) := by
  obtain ⟨fn, fp, fl, fs, fb⟩ := f
  obtain ⟨gn, gp, gl, gs, gb⟩ := g
  obtain ⟨hf1, hf2, hf3, hf4⟩ := hf
  obtain ⟨hg1, hg2, hg3, hg4⟩ := hg
  dsimp only at *
  have HB : Hid (Below w.heap.size w ((w.alloc (.cells #[.int .i64 fn, .int .i64 fp, .slice A1 fl.length a1, .slice A2 fs.length a2, .slice A3 fb.len a3] 35)).alloc (.cells #[.int .i64 gn, .int .i64 gp, .slice B1 gl.length b1, .slice B2 gs.length b2, .slice B3 gb.len b3] 35))) := ((Below.refl _ _).alloc (Nat.le_refl _) _).alloc (by simp) _
  have K1 : Hid (Blk ((w.alloc (.cells #[.int .i64 fn, .int .i64 fp, .slice A1 fl.length a1, .slice A2 fs.length a2, .slice A3 fb.len a3] 35)).alloc (.cells #[.int .i64 gn, .int .i64 gp, .slice B1 gl.length b1, .slice B2 gs.length b2, .slice B3 gb.len b3] 35)) w.heap.size 35 #[.int .i64 fn, .int .i64 fp, .slice A1 fl.length a1, .slice A2 fs.length a2, .slice A3 fb.len a3]) := (Blk.new w 35 _).alloc _
  have K2 : Hid (Blk ((w.alloc (.cells #[.int .i64 fn, .int .i64 fp, .slice A1 fl.length a1, .slice A2 fs.length a2, .slice A3 fb.len a3] 35)).alloc (.cells #[.int .i64 gn, .int .i64 gp, .slice B1 gl.length b1, .slice B2 gs.length b2, .slice B3 gb.len b3] 35)) (w.heap.size + 1) 35 #[.int .i64 gn, .int .i64 gp, .slice B1 gl.length b1, .slice B2 gs.length b2, .slice B3 gb.len b3]) := Blk.new' _ 35 _ _ (by simp)
  have hC1 := fun wx (hx : Below w.heap.size w wx) => (eqInt_any fl gl A1 B1 a1 b1 wx (r1.old hx (by omega)) (s1.old hx (by omega)) hf1 hg1).mono fun e w' h => h.bo
  have hC2 := fun wx (hx : Below w.heap.size w wx) => (eqInt_any fs gs A2 B2 a2 b2 wx (r2.old hx (by omega)) (s2.old hx (by omega)) hf2 hg2).mono fun e w' h => h.bo
  have hC3 := fun wx (hx : Below w.heap.size w wx) => sameB_any A3 B3 a3 b3 fb gb wx (r3.old hx) (s3.old hx) (by omega) (by omega) (by omega)
  have e : fnSame ⟨fn, fp, fl, fs, fb⟩ ⟨gn, gp, gl, gs, gb⟩ = (decide (fn = gn) && (decide (fp = gp) && (decide (fl = gl) && (decide (fs = gs) && fb.same gb)))) := rfl
  rw [e]
  obtain ⟨vl, hvl⟩ : ∃ v, v = decide (fl = gl) := ⟨_, rfl⟩
  obtain ⟨vs, hvs⟩ : ∃ v, v = decide (fs = gs) := ⟨_, rfl⟩
  rw [← hvl] at hC1 ⊢
  rw [← hvs] at hC2 ⊢
  clear e r1 r2 r3 s1 s2 s3 hvl hvs
  generalize fb.same gb = vb at *
  generalize fl.length = lfl at *
  generalize gl.length = lgl at *
  generalize fs.length = lfs at *
  generalize gs.length = lgs at *
  have hlf : fb.len ≤ 10000000 := by have := Bd.len_le fb; omega
  have hlg : gb.len ≤ 10000000 := by have := Bd.len_le gb; omega
  generalize fb.len = lfb at *
  generalize gb.len = lgb at *
  have HC1 := Lib.hid hC1
  have HC2 := Lib.hid hC2
  have HC3 := Lib.hid hC3
  have hz0 : w.heap.size + 1 + 1 = ((w.alloc (.cells #[.int .i64 fn, .int .i64 fp, .slice A1 lfl a1, .slice A2 lfs a2, .slice A3 lfb a3] 35)).alloc (.cells #[.int .i64 gn, .int .i64 gp, .slice B1 lgl b1, .slice B2 lgs b2, .slice B3 lgb b3] 35)).heap.size := by simp
  clear hC1 hC2 hC3
  go_enter Try.func33, Try.ntmps33
  go_upto_region 1 with (fail)
  generalize (w.alloc (.cells #[.int .i64 fn, .int .i64 fp, .slice A1 lfl a1, .slice A2 lfs a2, .slice A3 lfb a3] 35)).alloc (.cells #[.int .i64 gn, .int .i64 gp, .slice B1 lgl b1, .slice B2 lgs b2, .slice B3 lgb b3] 35) = w2 at *
  obtain ⟨c0, c1, c2, c3, c4⟩ := K1.out.c5
  obtain ⟨d0, d1, d2, d3, d4⟩ := K2.out.c5
  have z1 : w.heap.size < w2.heap.size := by omega
  have z2 : w.heap.size + 1 < w2.heap.size := by omega
  by_cases hn : fn = gn
  · subst hn
    by_cases hp : fp = gp
    · subst hp
      go_wp2_with fail
      refine (HC1.out w2 HB.out).mono ?_
      rintro e w3 ⟨rfl, hb3⟩
      have HB3 := Lib.hid (HB.out.trans (hb3.mono HB.out.size))
      have K13 := Lib.hid (K1.out.old hb3)
      have K23 := Lib.hid (K2.out.old hb3)
      clear hb3 c0 c1 c2 c3 c4 d0 d1 d2 d3 d4 z1 z2 K1 K2
      obtain ⟨c0, c1, c2, c3, c4⟩ := K13.out.c5
      obtain ⟨d0, d1, d2, d3, d4⟩ := K23.out.c5
      have z1 : w.heap.size < w3.heap.size := K13.out.lt
      have z2 : w.heap.size + 1 < w3.heap.size := K23.out.lt
      cases vl with
      | false =>
        go_wp2
        go_ret
        exact ⟨by simp, HB3.out⟩
      | true =>
        go_wp2_with fail
        refine (HC2.out w3 HB3.out).mono ?_
        rintro e w4 ⟨rfl, hb4⟩
        have HB4 := Lib.hid (HB3.out.trans (hb4.mono HB3.out.size))
        have K14 := Lib.hid (K13.out.old hb4)
        have K24 := Lib.hid (K23.out.old hb4)
        clear hb4 c0 c1 c2 c3 c4 d0 d1 d2 d3 d4 z1 z2 K13 K23
        obtain ⟨c0, c1, c2, c3, c4⟩ := K14.out.c5
        obtain ⟨d0, d1, d2, d3, d4⟩ := K24.out.c5
        have z1 : w.heap.size < w4.heap.size := K14.out.lt
        have z2 : w.heap.size + 1 < w4.heap.size := K24.out.lt
        cases vs with
        | false =>
          go_wp2
          go_ret
          exact ⟨by simp, HB4.out⟩
        | true =>
          go_wp2_with fail
          refine (HC3.out w4 HB4.out).mono ?_
          rintro e w5 ⟨rfl, hb5⟩
          have HB5 := Lib.hid (HB4.out.trans (hb5.mono HB4.out.size))
          clear hb5 c0 c1 c2 c3 c4 d0 d1 d2 d3 d4 z1 z2
          go_wp2
          go_ret
          exact ⟨by simp, HB5.out⟩
    · have hpi : (fp == gp) = false := by simpa using hp
      go_wp2
      go_ret
      exact ⟨by simp [hp], HB.out⟩
  · have hni : (fn == gn) = false := by simpa using hn
    go_wp2
    go_ret
    exact ⟨by simp [hn], HB.out⟩
end Go.Proofs.Ytpjoggefklohjaa
