/-
  Canon's law: what awake answers.
-/
import Derived.Test.YtpdebnecfknohaaXf
import Derived.Test.YtpdebnecfknohaaXg
import Derived.Test.YtpdebnecfknohaaTv
import Derived.Deep.RegionHeld
namespace Go.Proofs.Ytpdebnecfknohaa
open Go.RowKit Go.Maps
set_option linter.unusedVariables false
set_option linter.unusedSimpArgs false
set_option maxRecDepth 20000
/-- What Of leaves of a module without functions. -/
def OfB0 (w : World) (Z : List (List UInt8)) (G E : List Int) (e : Ending) (w' : World) : Prop :=
  ∃ A1 c1 A2 c2 A3 c3 A4 c4, e = .returned (.tuple #[.agg #[.slice A1 Z.length c1, .slice A2 G.length c2, .slice A3 0 c3, .slice A4 E.length c4], faultV 0 (-1) (-1)]) ∧ RdS (fun _ => True) w' A1 Z.length 1 (strV Z) ∧ RdS (fun _ => True) w' A2 G.length 1 (intV G) ∧ Below w.heap.size w w'
set_option maxHeartbeats 8000000 in
theorem of0_any (M : Md) (Z : List (List UInt8)) (As Ag Af Ae : Option Addr) (cs cg cf ce : Nat) (w : World) (hW : M.Wf) (hFit : M.Fit) (hF : M.funcs = []) (hT : treeF M = (0, -1, -1)) (h : MdR w As Ag Af Ae M) (hZ : Z = usS M.strs (usedI M.globs M.funcs M.funcs.length)) (hZl : Z.length ≤ 1000000) (hZr : Rising Z) (hZm : ∀ n ∈ M.globs, strF M.strs n ∈ Z)
    (hU : (usedI M.globs M.funcs M.funcs.length).length ≤ 90000) (hr : ∀ n ∈ usedI M.globs M.funcs M.funcs.length, 0 ≤ n ∧ n < (M.strs.length : Int)) (hr2 : ∀ n ∈ M.globs, 0 ≤ n ∧ n < (M.strs.length : Int)) (hs : ∀ n ∈ usedI M.globs M.funcs M.funcs.length, (strF M.strs n).length ≤ 100000) :
    Calls Try.prog 26 #[.agg #[.slice As M.strs.length cs, .slice Ag M.globs.length cg, .slice Af M.funcs.length cf, .slice Ae M.ents.length ce]] w (OfB0 w Z (M.globs.map fun n => numF Z (strF M.strs n) 0) M.ents) := by
  have h19 := fun wx (hx : Below w.heap.size w wx) => tree_any M As Ag Af Ae cs cg cf ce wx hW (h.old hx)
  have h45 := fun wx (hx : Below w.heap.size w wx) => us_any M As Ag Af Ae cs cg cf ce wx hW (h.old hx) hU hr hs
  have h49 := fun wx (hx : Below w.heap.size w wx) => copyG_any M As Ag Af Ae cs cg cf ce wx hFit (by intro f hf; rw [hF] at hf; simp at hf) (h.old hx)
  unfold CopyPostG at h49
  rw [hT] at h19
  simp only [← hZ] at h45
  have hNum := fun wx (gu gm : Nat) (Au : Option Addr) (cu : Nat) (n : Int) (hn : n ∈ M.globs) (hE : NumE wx gu gm Au Z.length cu Z As Ag Af Ae M.strs.length cs M.globs.length cg M.funcs.length cf M.ents.length ce M.strs) => num_any wx gu gm Au Z.length cu Z As Ag Af Ae M.strs.length cs M.globs.length cg M.funcs.length cf M.ents.length ce M.strs n hE rfl hW.strs rfl hZl (hr2 n hn) hZr (hZm n hn)
  obtain ⟨G2, hG2⟩ : ∃ G, G = M.globs.map fun n => numF Z (strF M.strs n) 0 := ⟨_, rfl⟩
  have hG2l : G2.length = M.globs.length := by rw [hG2]; simp
  have hlf : M.funcs.length = 0 := by rw [hF]; rfl
  rw [← hG2]
  have HR := Lib.hid (show RdS (fun _ => True) w As M.strs.length 1 (strV M.strs) from h.strs)
  have hgl := hW.globs.1
  clear hZ hZr hZm hU hr hr2 hs hT h hW hFit
  obtain ⟨ls, hls⟩ : ∃ n, n = M.strs.length := ⟨_, rfl⟩
  obtain ⟨lg, hlg⟩ : ∃ n, n = M.globs.length := ⟨_, rfl⟩
  obtain ⟨lf, hlfe⟩ : ∃ n, n = M.funcs.length := ⟨_, rfl⟩
  obtain ⟨le, hle⟩ : ∃ n, n = M.ents.length := ⟨_, rfl⟩
  obtain ⟨m, hm⟩ : ∃ n, n = Z.length := ⟨_, rfl⟩
  have HL : Hid (ls = M.strs.length ∧ lg = M.globs.length ∧ le = M.ents.length ∧ m = Z.length ∧ G2.length = M.globs.length) := ⟨hls, hlg, hle, hm, hG2l⟩
  simp only [← hls, ← hlg, ← hlfe, ← hle, ← hm] at h19 h45 h49 hNum HR hgl hZl hlf ⊢
  have HG2 := Lib.hid hG2
  clear hG2 hls hlg hlfe hle hm hG2l hF
  subst hlf
  have H19 := Lib.hid h19
  have H45 := Lib.hid h45
  have H49 := Lib.hid h49
  have HNum := Lib.hid hNum
  clear h19 h45 h49 hNum
  obtain ⟨w1, hw1⟩ : ∃ w1, w1 = ((w.alloc (.cells #[.slice As ls cs, .slice Ag lg cg, .slice Af 0 cf, .slice Ae le ce] 30)).alloc (.cells #[.slice none 0 0, .slice none 0 0, .slice none 0 0, .slice none 0 0] 30)).alloc (.cells #[.int .i64 0, .int .i64 0, .int .i64 0, .int .i64 0, .int .i64 0, .int .i64 0, .int .i64 0] 35) := ⟨_, rfl⟩
  have HB1 : Hid (Below w.heap.size w w1) := by rw [hw1]; exact (((Below.refl _ _).alloc (Nat.le_refl _) _).alloc (by simp) _).alloc (by simp; omega) _
  have KM : Hid (Blk w1 w.heap.size 30 #[.slice As ls cs, .slice Ag lg cg, .slice Af 0 cf, .slice Ae le ce]) := by rw [hw1]; exact ((Blk.new w 30 _).alloc _).alloc _
  have KA : Hid (Blk w1 (w.heap.size + 1) 30 #[.slice none 0 0, .slice none 0 0, .slice none 0 0, .slice none 0 0]) := by rw [hw1]; exact (Blk.new' _ 30 _ _ (by simp)).alloc _
  have KF : Hid (Blk w1 (w.heap.size + 2) 35 #[.int .i64 0, .int .i64 0, .int .i64 0, .int .i64 0, .int .i64 0, .int .i64 0, .int .i64 0]) := by rw [hw1]; exact Blk.new' _ 35 _ _ (by simp)
  go_enter Try.func26, Try.ntmps26
  go_upto_region 1 with (fail)
  rw [← hw1]
  clear hw1
  obtain ⟨gm, hgm⟩ : ∃ g, g = w.heap.size := ⟨_, rfl⟩
  obtain ⟨ga, hga⟩ : ∃ g, g = gm + 1 := ⟨_, rfl⟩
  obtain ⟨gf, hgf⟩ : ∃ g, g = ga + 1 := ⟨_, rfl⟩
  have HGG : Hid (gm = w.heap.size ∧ ga = w.heap.size + 1 ∧ gf = w.heap.size + 2) := ⟨hgm, by omega, by omega⟩
  rw [← hgm] at KM
  rw [← hgm, ← hga] at KA
  rw [show w.heap.size + 2 = gf by omega] at KF
  simp only [← hgm, ← hga, ← hgf]
  clear hgm hga hgf
  obtain ⟨k0, k1, k2, k3⟩ := KM.out.c4
  have z1 : gm < w1.heap.size := KM.out.lt
  go_wp2_with fail
  refine (H19.out _ HB1.out).mono ?_
  rintro e w2 ⟨rfl, hb2⟩
  have HB2 := Lib.hid (HB1.out.trans (hb2.mono HB1.out.size))
  have KM2 := Lib.hid (KM.out.old hb2)
  have KA2 := Lib.hid (KA.out.old hb2)
  have KF2 := Lib.hid (KF.out.old hb2)
  clear hb2 HB1 KM KA KF k0 k1 k2 k3 z1
  dsimp only
  rw [show faultV 0 (-1) (-1) = .agg #[.int .i64 0, .int .i64 0, .int .i64 0, .int .i64 0, .int .i64 0, .int .i64 (-1), .int .i64 (-1)] from by simp [faultV]]
  obtain ⟨w3, hw3⟩ : ∃ w3, w3 = w2.alloc (.cells #[.int .i64 0, .int .i64 0, .int .i64 0, .int .i64 0, .int .i64 0, .int .i64 (-1), .int .i64 (-1)] 35) := ⟨_, rfl⟩
  have HB3 : Hid (Below w.heap.size w w3) := by rw [hw3]; exact HB2.out.alloc HB2.out.size _
  have KM3 : Hid (Blk w3 gm 30 #[.slice As ls cs, .slice Ag lg cg, .slice Af 0 cf, .slice Ae le ce]) := by rw [hw3]; exact KM2.out.alloc _
  have KA3 : Hid (Blk w3 ga 30 #[.slice none 0 0, .slice none 0 0, .slice none 0 0, .slice none 0 0]) := by rw [hw3]; exact KA2.out.alloc _
  have KF3 : Hid (Blk w3 gf 35 #[.int .i64 0, .int .i64 0, .int .i64 0, .int .i64 0, .int .i64 0, .int .i64 0, .int .i64 0]) := by rw [hw3]; exact KF2.out.alloc _
  have KX3 : Hid (Blk w3 w2.heap.size 35 #[.int .i64 0, .int .i64 0, .int .i64 0, .int .i64 0, .int .i64 0, .int .i64 (-1), .int .i64 (-1)]) := by rw [hw3]; exact Blk.new w2 35 _
  go_upto_region 2 with (fail)
  rw [← hw3]
  clear hw3
  obtain ⟨gx, hgx⟩ : ∃ g, g = w2.heap.size := ⟨_, rfl⟩
  rw [← hgx] at KX3
  try simp only [← hgx]
  have HGX : Hid (gf < gx) := by rw [hgx]; exact KF2.out.lt
  clear hgx KM2 KA2 KF2 HB2
  obtain ⟨x0, x1, x2, x3, x4, x5, x6⟩ := KX3.out.c7
  have zx : gx < w3.heap.size := KX3.out.lt
  obtain ⟨k0, k1, k2, k3⟩ := KM3.out.c4
  have zm : gm < w3.heap.size := KM3.out.lt
  go_wp2_with fail
  refine (H45.out _ HB3.out).mono ?_
  rintro e w4 ⟨Au, cu, rfl, hOu, hb4⟩
  have HB4 := Lib.hid (HB3.out.trans (hb4.mono HB3.out.size))
  have KM4 := Lib.hid (KM3.out.old hb4)
  have KA4 := Lib.hid (KA3.out.old hb4)
  have KF4 := Lib.hid (KF3.out.old hb4)
  have KX4 := Lib.hid (KX3.out.old hb4)
  have HU4 := Lib.hid hOu
  clear hOu hb4 HB3 KM3 KA3 KF3 KX3 k0 k1 k2 k3 zm x0 x1 x2 x3 x4 x5 x6 zx
  dsimp only
  obtain ⟨w5, hw5⟩ : ∃ w5, w5 = w4.alloc (.cells #[.slice Au m cu] 26) := ⟨_, rfl⟩
  have hb5 : Below w4.heap.size w4 w5 := by rw [hw5]; exact (Below.refl _ _).alloc (Nat.le_refl _) _
  have HB5 := Lib.hid (HB4.out.trans (hb5.mono HB4.out.size))
  have KM5 := Lib.hid (KM4.out.old hb5)
  have KA5 := Lib.hid (KA4.out.old hb5)
  have KF5 := Lib.hid (KF4.out.old hb5)
  have KX5 := Lib.hid (KX4.out.old hb5)
  have HU5 := Lib.hid (own_old HU4.out hb5)
  have KU5 : Hid (Blk w5 w4.heap.size 26 #[.slice Au m cu]) := by rw [hw5]; exact Blk.new w4 26 _
  clear hb5
  go_upto_region 5 with (fail)
  rw [← hw5]
  clear hw5
  obtain ⟨gu, hgu⟩ : ∃ g, g = w4.heap.size := ⟨_, rfl⟩
  rw [← hgu] at KU5
  try simp only [← hgu]
  clear hgu KM4 KA4 KF4 KX4 HU4 HB4
  obtain ⟨k0, k1, k2, k3⟩ := KM5.out.c4
  have zm : gm < w5.heap.size := KM5.out.lt
  go_wp2_with fail
  refine (H49.out _ HB5.out).mono ?_
  rintro e w6 ⟨A1, c1, A2, c2, A3, c3, A4, c4, rfl, hR6, hb6, hO6, -, -⟩
  have HB6 := Lib.hid (HB5.out.trans (hb6.mono HB5.out.size))
  have KM6 := Lib.hid (KM5.out.old hb6)
  have KA6 := Lib.hid (KA5.out.old hb6)
  have KF6 := Lib.hid (KF5.out.old hb6)
  have KX6 := Lib.hid (KX5.out.old hb6)
  have KU6 := Lib.hid (KU5.out.old hb6)
  have HU6 := Lib.hid (own_old HU5.out hb6)
  have HE5 : Hid (NumE w5 gu gm Au m cu Z As Ag Af Ae ls cs lg cg 0 cf le ce M.strs) := ⟨KU5.out, KM5.out, (RdS.own HU5.out).below (fun _ _ => trivial), HR.out.old HB5.out (by omega)⟩
  have HC : Hid (∀ wx, Below w5.heap.size w5 wx → ∀ i ∈ M.globs, Calls Try.prog 46 #[.int .i64 i, .pointer (some ⟨gu, 0, none⟩), .pointer (some ⟨gm, 0, none⟩)] wx fun e w' => e = .returned (.int .i64 (numF Z (strF M.strs i) 0)) ∧ Below wx.heap.size wx w') := fun wx hx i hi => HNum.out wx gu gm Au cu i hi (HE5.out.old hx)
  have HO6 := Lib.hid hO6
  dsimp only
  obtain ⟨w7, hw7⟩ : ∃ w7, w7 = w6.alloc (.cells #[.slice A1 ls c1, .slice A2 lg c2, .slice A3 0 c3, .slice A4 le c4] 30) := ⟨_, rfl⟩
  have hb7 : Below w6.heap.size w6 w7 := by rw [hw7]; exact (Below.refl _ _).alloc (Nat.le_refl _) _
  have HB57 := Lib.hid (hb6.trans (hb7.mono hb6.size))
  have HO7 := Lib.hid (own_old HO6.out hb7)
  have KU7 := Lib.hid (KU6.out.old hb7)
  have KC7 : Hid (Blk w7 w6.heap.size 30 #[.slice A1 ls c1, .slice A2 lg c2, .slice A3 0 c3, .slice A4 le c4]) := by rw [hw7]; exact Blk.new w6 30 _
  have HG7 : Hid (w5.heap.size ≤ w6.heap.size) := hb6.size
  have HGC : Hid (gf < w6.heap.size) := KF6.out.lt
  clear hb6 hb7 hO6 hR6
  go_upto_region 7 with (fail)
  rw [← hw7]
  clear hw7
  obtain ⟨gc, hgc⟩ : ∃ g, g = w6.heap.size := ⟨_, rfl⟩
  rw [← hgc] at KC7 HG7 HGC
  try simp only [← hgc]
  clear hgc KM6 KA6 KF6 KX6 KU6 HU6 HB6 k0 k1 k2 k3 zm HO6
  obtain ⟨q0, q1, q2, q3⟩ := KC7.out.c4
  have zc : gc < w7.heap.size := KC7.out.lt
  have fc := KC7.out.frozen 0
  have u0 : w7.cell? ⟨gu, 0, none⟩ = some (.slice Au m cu) := KU7.out.cell 0
  have zu : gu < w7.heap.size := KU7.out.lt
  have KC8 : Hid (Blk (w7.setCell ⟨gc, 0, none⟩ (.slice Au m cu)) gc 30 #[.slice Au m cu, .slice A2 lg c2, .slice A3 0 c3, .slice A4 le c4]) := KC7.out.set_ 0 _
  have HO8 : Hid ((w7.setCell ⟨gc, 0, none⟩ (.slice Au m cu)).ownsRow w5.heap.size 3 1 (.slice A2 lg c2) lg (intV M.globs)) := own_blocks HO7.out (fun k hk => Below.heap_setCell _ _ _ _ (fun e => own_ne HO7.out KC7.out (by decide) (by have e' : k = gc := e; subst e'; exact hk)))
  have HB58 := Lib.hid (HB57.out.setCell (p := ⟨gc, 0, none⟩) HG7.out (.slice Au m cu))
  go_upto_region 8 with (fail)
  generalize w7.setCell ⟨gc, 0, none⟩ (.slice Au m cu) = w8 at *
  clear q0 q1 q2 q3 zc fc u0 zu KC7 HO7 HB57 KU7
  obtain ⟨q0, q1, q2, q3⟩ := KC8.out.c4
  have zc : gc < w8.heap.size := KC8.out.lt
  go_wp2_with fail
  refine (ren_any w5.heap.size w5 w8 (fun n => numF Z (strF M.strs n) 0) gu gm A2 lg c2 M.globs HB58.out (Nat.le_refl _) HO8.out HL.out.2.1 hgl HC.out).mono ?_
  rintro e w9 ⟨rfl, hO9, hb9, hs9, hk9⟩
  rw [← HG2.out] at hO9
  have HO9 := Lib.hid hO9
  have HB9 := Lib.hid hb9
  have KC9 : Hid (Blk w9 gc 30 #[.slice Au m cu, .slice A2 lg c2, .slice A3 0 c3, .slice A4 le c4]) := (hk9 gc zc (fun e => own_ne HO8.out KC8.out (by decide) e)).trans KC8.out
  have KA9 := Lib.hid (KA5.out.old HB9.out)
  have KF9 := Lib.hid (KF5.out.old HB9.out)
  have KX9 := Lib.hid (KX5.out.old HB9.out)
  have HU9 := Lib.hid (own_old HU5.out HB9.out)
  have HBw := Lib.hid (HB5.out.trans (HB9.out.mono HB5.out.size))
  clear hO9 hb9 hs9 hk9 q0 q1 q2 q3 zc KC8 HO8 HB58 KA5 KF5 KX5 HU5 HB9 HC HE5 KM5 KU5 HB5 HG7
  obtain ⟨q0, q1, q2, q3⟩ := KC9.out.c4
  have zc : gc < w9.heap.size := KC9.out.lt
  obtain ⟨x0, x1, x2, x3, x4, x5, x6⟩ := KX9.out.c7
  have zx : gx < w9.heap.size := KX9.out.lt
  go_wp2_with fail
  go_loopg [31] 1 (fun f s31 wr => s31 = .int .i64 0 ∧ w9 = wr)
  case atStart => exact ⟨rfl, rfl⟩
  case round =>
    obtain ⟨rfl, rfl⟩ := hrel
    go_upto_region 17 with (fail)
    refine wp_region_held_drew (S := (fun W => Blk W gc 30 #[.slice Au m cu, .slice A2 lg c2, .slice A3 0 c3, .slice A4 le c4] ∧ Blk W gx 35 #[.int .i64 0, .int .i64 0, .int .i64 0, .int .i64 0, .int .i64 0, .int .i64 (-1), .int .i64 (-1)])) (by kernel_rfl) ⟨KC9.out, KX9.out⟩ (fun hHeld => ?_)
    try simp only [Act.put, List.setIfInBounds_toArray, List.set_cons_zero, List.set_cons_succ]
    refine wpAnyH_take (i := 0) (oi := { dst := some 60, op := Op.load 30 (Operand.tmp 7), type := 30, pos := "canon.go:34", after := #[], guard := none }) (v := ?_) rfl (by kernel_rfl) (by kernel_rfl) (by kernel_rfl) (fun _ _ _ h => h) (Or.inl ⟨by rfl, ?_⟩) (by assumption) ?_
    rotate_left
    · (intro W hSW; (try dsimp only at hSW); (obtain ⟨q0, q1, q2, q3⟩ := hSW.1.c4); (obtain ⟨x0, x1, x2, x3, x4, x5, x6⟩ := hSW.2.c7); (have zc := hSW.1.lt); (have zx := hSW.2.lt); go_simp; first | done | with_reducible rfl)
    try simp only [Act.put, List.setIfInBounds_toArray, List.set_cons_zero, List.set_cons_succ]
    refine wpAnyH_take (i := 1) (oi := { dst := some 61, op := Op.load 35 (Operand.tmp 4), type := 35, pos := "canon.go:34", after := #[{ on := 2, ground := Ground.gcOnly Departure.lateStores }], guard := none }) (v := ?_) rfl (by kernel_rfl) (by kernel_rfl) (by kernel_rfl) (fun _ _ _ h => h) (Or.inl ⟨by rfl, ?_⟩) (by assumption) ?_
    rotate_left
    · (intro W hSW; (try dsimp only at hSW); (obtain ⟨q0, q1, q2, q3⟩ := hSW.1.c4); (obtain ⟨x0, x1, x2, x3, x4, x5, x6⟩ := hSW.2.c7); (have zc := hSW.1.lt); (have zx := hSW.2.lt); go_simp; first | done | with_reducible rfl)
    try simp only [Act.put, List.setIfInBounds_toArray, List.set_cons_zero, List.set_cons_succ]
    have kA : Blk w9.drew ga 30 #[.slice none 0 0, .slice none 0 0, .slice none 0 0, .slice none 0 0] := KA9.out
    have kF : Blk w9.drew gf 35 #[.int .i64 0, .int .i64 0, .int .i64 0, .int .i64 0, .int .i64 0, .int .i64 0, .int .i64 0] := KF9.out
    have hBd : Below w.heap.size w w9.drew := HBw.out.drew
    have hUd := own_old HU9.out (Below.refl _ _).drew
    have hOd := own_old HO9.out (Below.refl _ _).drew
    have HN : Hid (gf ≠ ga ∧ gc ≠ ga ∧ gx ≠ ga ∧ gc ≠ gf ∧ gx ≠ gf ∧ w.heap.size ≤ ga ∧ w.heap.size ≤ gf) := by (have hgx := HGX.out; have hgc := HGC.out; obtain ⟨g1, g2, g3⟩ := HGG.out; exact ⟨by omega, by omega, by omega, by omega, by omega, by omega, by omega⟩)
    generalize w9.drew = wd at *
    obtain ⟨a0, a1, a2, a3⟩ := kA.c4
    have f0 := kA.frozen 0
    have f1 := kA.frozen 1
    have f2 := kA.frozen 2
    have f3 := kA.frozen 3
    have za : ga < wd.heap.size := kA.lt
    refine wpAnyH_ready (rs := [2]) (by kernel_rfl) (by simp) ?_
    refine AllReadyH.cons (o := { dst := none, op := Op.store 30 (Operand.tmp 2) (Operand.tmp 60), type := 0, pos := "canon.go:34", after := #[{ on := 0, ground := Ground.data }, { on := 0, ground := Ground.phase }, { on := 1, ground := Ground.textOnly Departure.lateStores }], guard := none }) rfl (fun KQ hKQ => ?_) AllReadyH.nil
    go_simp
    have kA4 : Blk ((((wd.setCell ⟨ga, 0, none⟩ (.slice Au m cu)).setCell ⟨ga, 1, none⟩ (.slice A2 lg c2)).setCell ⟨ga, 2, none⟩ (.slice A3 0 c3)).setCell ⟨ga, 3, none⟩ (.slice A4 le c4)) ga 30 #[.slice Au m cu, .slice A2 lg c2, .slice A3 0 c3, .slice A4 le c4] := ((((kA.set_ 0 (.slice Au m cu)).set_ 1 (.slice A2 lg c2)).set_ 2 (.slice A3 0 c3)).set_ 3 (.slice A4 le c4))
    have hk4 : ∀ k, k ≠ ga → (((((wd.setCell ⟨ga, 0, none⟩ (.slice Au m cu)).setCell ⟨ga, 1, none⟩ (.slice A2 lg c2)).setCell ⟨ga, 2, none⟩ (.slice A3 0 c3)).setCell ⟨ga, 3, none⟩ (.slice A4 le c4))).heap[k]? = wd.heap[k]? := fun k hk => set4_far _ _ _ _ hk
    have hB4 : Below w.heap.size w ((((wd.setCell ⟨ga, 0, none⟩ (.slice Au m cu)).setCell ⟨ga, 1, none⟩ (.slice A2 lg c2)).setCell ⟨ga, 2, none⟩ (.slice A3 0 c3)).setCell ⟨ga, 3, none⟩ (.slice A4 le c4)) := set4 hBd HN.out.2.2.2.2.2.1 (.slice Au m cu) (.slice A2 lg c2) (.slice A3 0 c3) (.slice A4 le c4)
    generalize ((((wd.setCell ⟨ga, 0, none⟩ (.slice Au m cu)).setCell ⟨ga, 1, none⟩ (.slice A2 lg c2)).setCell ⟨ga, 2, none⟩ (.slice A3 0 c3)).setCell ⟨ga, 3, none⟩ (.slice A4 le c4)) = we at *
    have kF5 : Blk we gf 35 #[.int .i64 0, .int .i64 0, .int .i64 0, .int .i64 0, .int .i64 0, .int .i64 0, .int .i64 0] := (hk4 gf HN.out.1).trans kF
    have hU4 := own_blocks hUd (fun k hk => hk4 k (fun e => by subst e; exact own_ne hUd kA (by decide) hk))
    have hO4 := own_blocks hOd (fun k hk => hk4 k (fun e => by subst e; exact own_ne hOd kA (by decide) hk))
    have kC5 : Blk we gc 30 #[.slice Au m cu, .slice A2 lg c2, .slice A3 0 c3, .slice A4 le c4] := (hk4 gc HN.out.2.1).trans hHeld.1
    have kX5 : Blk we gx 35 #[.int .i64 0, .int .i64 0, .int .i64 0, .int .i64 0, .int .i64 0, .int .i64 (-1), .int .i64 (-1)] := (hk4 gx HN.out.2.2.1).trans hHeld.2
    refine hKQ.out _ _ ⟨kC5, kX5⟩ (fun _ => ?_)
    clear hKQ KQ a0 a1 a2 a3 f0 f1 f2 f3 za hk4
    try simp only [Act.put, List.setIfInBounds_toArray, List.set_cons_zero, List.set_cons_succ]
    obtain ⟨a0, a1, a2, a3, a4, a5, a6⟩ := kF5.c7
    have f0 := kF5.frozen 0
    have f1 := kF5.frozen 1
    have f2 := kF5.frozen 2
    have f3 := kF5.frozen 3
    have f4 := kF5.frozen 4
    have f5 := kF5.frozen 5
    have f6 := kF5.frozen 6
    have zf : gf < we.heap.size := kF5.lt
    refine wpAnyH_ready (rs := [3]) (by kernel_rfl) (by simp) ?_
    refine AllReadyH.cons (o := { dst := none, op := Op.store 35 (Operand.tmp 3) (Operand.tmp 61), type := 0, pos := "canon.go:34", after := #[{ on := 1, ground := Ground.data }, { on := 2, ground := Ground.chain }, { on := 0, ground := Ground.phase }, { on := 1, ground := Ground.phase }, { on := 2, ground := Ground.phase }], guard := none }) rfl (fun KQ hKQ => ?_) AllReadyH.nil
    go_simp
    have kF6 : Blk (((((((we.setCell ⟨gf, 0, none⟩ (.int .i64 0)).setCell ⟨gf, 1, none⟩ (.int .i64 0)).setCell ⟨gf, 2, none⟩ (.int .i64 0)).setCell ⟨gf, 3, none⟩ (.int .i64 0)).setCell ⟨gf, 4, none⟩ (.int .i64 0)).setCell ⟨gf, 5, none⟩ (.int .i64 (-1))).setCell ⟨gf, 6, none⟩ (.int .i64 (-1))) gf 35 #[.int .i64 0, .int .i64 0, .int .i64 0, .int .i64 0, .int .i64 0, .int .i64 (-1), .int .i64 (-1)] := (((((((kF5.set_ 0 (.int .i64 0)).set_ 1 (.int .i64 0)).set_ 2 (.int .i64 0)).set_ 3 (.int .i64 0)).set_ 4 (.int .i64 0)).set_ 5 (.int .i64 (-1))).set_ 6 (.int .i64 (-1)))
    have hk6 : ∀ k, k ≠ gf → ((((((((we.setCell ⟨gf, 0, none⟩ (.int .i64 0)).setCell ⟨gf, 1, none⟩ (.int .i64 0)).setCell ⟨gf, 2, none⟩ (.int .i64 0)).setCell ⟨gf, 3, none⟩ (.int .i64 0)).setCell ⟨gf, 4, none⟩ (.int .i64 0)).setCell ⟨gf, 5, none⟩ (.int .i64 (-1))).setCell ⟨gf, 6, none⟩ (.int .i64 (-1)))).heap[k]? = we.heap[k]? := fun k hk => set7_far _ _ _ _ _ _ _ hk
    have hB6 : Below w.heap.size w (((((((we.setCell ⟨gf, 0, none⟩ (.int .i64 0)).setCell ⟨gf, 1, none⟩ (.int .i64 0)).setCell ⟨gf, 2, none⟩ (.int .i64 0)).setCell ⟨gf, 3, none⟩ (.int .i64 0)).setCell ⟨gf, 4, none⟩ (.int .i64 0)).setCell ⟨gf, 5, none⟩ (.int .i64 (-1))).setCell ⟨gf, 6, none⟩ (.int .i64 (-1))) := set7 hB4 HN.out.2.2.2.2.2.2 (.int .i64 0) (.int .i64 0) (.int .i64 0) (.int .i64 0) (.int .i64 0) (.int .i64 (-1)) (.int .i64 (-1))
    generalize (((((((we.setCell ⟨gf, 0, none⟩ (.int .i64 0)).setCell ⟨gf, 1, none⟩ (.int .i64 0)).setCell ⟨gf, 2, none⟩ (.int .i64 0)).setCell ⟨gf, 3, none⟩ (.int .i64 0)).setCell ⟨gf, 4, none⟩ (.int .i64 0)).setCell ⟨gf, 5, none⟩ (.int .i64 (-1))).setCell ⟨gf, 6, none⟩ (.int .i64 (-1))) = wf at *
    have hU6 := own_blocks hU4 (fun k hk => hk6 k (fun e => by subst e; exact own_ne hU4 kF5 (by decide) hk))
    have hO6 := own_blocks hO4 (fun k hk => hk6 k (fun e => by subst e; exact own_ne hO4 kF5 (by decide) hk))
    have kA6 : Blk wf ga 30 #[.slice Au m cu, .slice A2 lg c2, .slice A3 0 c3, .slice A4 le c4] := (hk6 ga (Ne.symm HN.out.1)).trans kA4
    have kC6 : Blk wf gc 30 #[.slice Au m cu, .slice A2 lg c2, .slice A3 0 c3, .slice A4 le c4] := (hk6 gc HN.out.2.2.2.1).trans kC5
    have kX6 : Blk wf gx 35 #[.int .i64 0, .int .i64 0, .int .i64 0, .int .i64 0, .int .i64 0, .int .i64 (-1), .int .i64 (-1)] := (hk6 gx HN.out.2.2.2.2.1).trans kX5
    refine hKQ.out _ _ ⟨kC6, kX6⟩ (fun _ => ?_)
    clear hKQ KQ a0 a1 a2 a3 a4 a5 a6 f0 f1 f2 f3 f4 f5 f6 zf hk6
    try simp only [Act.put, List.setIfInBounds_toArray, List.set_cons_zero, List.set_cons_succ]
    refine wpAnyH_done (by kernel_rfl) ?_ _
    have HEnd := Lib.hid (And.intro kA6 (And.intro kF6 (And.intro hU6 (And.intro hO6 hB6))))
    clear kA6 kF6 hU6 hO6 hB6 kC6 kX6 kF5 kC5 kX5 hU4 hO4 hB4 kA4 kA kF hUd hOd hBd hHeld HN
    go_wp2
    obtain ⟨kA, kF, hU, hO, hB⟩ := HEnd.out
    obtain ⟨r0, r1, r2, r3⟩ := kA.c4
    obtain ⟨s0, s1, s2, s3, s4, s5, s6⟩ := kF.c7
    refine bodyPost_ret (v := .tuple #[.agg #[.slice Au m cu, .slice A2 lg c2, .slice A3 0 c3, .slice A4 le c4], .agg #[.int .i64 0, .int .i64 0, .int .i64 0, .int .i64 0, .int .i64 0, .int .i64 (-1), .int .i64 (-1)]]) (by simp [results, Try.results26, go_sem, r0, r1, r2, r3, s0, s1, s2, s3, s4, s5, s6]) rfl ?_
    obtain ⟨e1, e2, e3, e4, e5⟩ := HL.out
    have e6 : G2.length = lg := by omega
    refine ⟨Au, cu, A2, c2, A3, c3, A4, c4, ?_, ?_, ?_, hB⟩
    · rw [← e4, e6, ← e3]; simp [faultV]
    · rw [← e4]; exact (RdS.own hU).below (fun _ _ => trivial)
    · rw [e6]; exact (RdS.own hO).below (fun _ _ => trivial)
end Go.Proofs.Ytpdebnecfknohaa
namespace Go.Proofs.Ytpdebnecfknohaa
open Go.RowKit Go.Maps
set_option linter.unusedVariables false
set_option linter.unusedSimpArgs false
set_option maxRecDepth 20000
/-- The module of awake. -/
def MdA : Md := ⟨[[98], [99], [97]], [2, 0], [], []⟩
theorem mdA_tree : treeF MdA = (0, -1, -1) := by decide
theorem risA : Rising [[97], [98]] := by unfold Rising; decide
theorem mdA_us : usS MdA.strs (usedI MdA.globs MdA.funcs MdA.funcs.length) = [[97], [98]] := by
  unfold usS
  have e : addsF [] ((usedI MdA.globs MdA.funcs MdA.funcs.length).map (strF MdA.strs)) = [[97], [98]] := by decide
  rw [e]
  exact rising_eq (srt_rising _ (by decide)) risA (fun x => srt_mem _ x)
theorem mdA_num : MdA.globs.map (fun n => numF [[97], [98]] (strF MdA.strs n) 0) = [0, 1] := by decide
theorem mdA_wf : MdA.Wf := ⟨by decide, ⟨by decide, by intro n hn; simp [MdA] at hn; omega⟩, ⟨by decide, by intro n hn; simp [MdA] at hn⟩, by decide, by intro f hf; simp [MdA] at hf, by intro n hn; simp [MdA, namesL] at hn⟩
theorem ofA_any (g1 g2 : Nat) (w : World) (c0 : w.cell? ⟨g1, 0, none⟩ = some (.string { data := #[98] })) (c1 : w.cell? ⟨g1, 1, none⟩ = some (.string { data := #[99] })) (c2 : w.cell? ⟨g1, 2, none⟩ = some (.string { data := #[97] })) (d0 : w.cell? ⟨g2, 0, none⟩ = some (.int .i64 2)) (d1 : w.cell? ⟨g2, 1, none⟩ = some (.int .i64 0)) :
    Calls Try.prog 26 #[.agg #[.slice (some ⟨g1, 0, none⟩) 3 3, .slice (some ⟨g2, 0, none⟩) 2 2, .slice none 0 0, .slice none 0 0]] w fun e w' => ∃ b1 o1 k1 b2 o2 k2 A3 k3 A4 k4, e = .returned (.tuple #[.agg #[.slice (some ⟨b1, o1, none⟩) 2 k1, .slice (some ⟨b2, o2, none⟩) 2 k2, .slice A3 0 k3, .slice A4 0 k4], .agg #[.int .i64 0, .int .i64 0, .int .i64 0, .int .i64 0, .int .i64 0, .int .i64 (-1), .int .i64 (-1)]]) ∧ w'.cell? ⟨b1, o1, none⟩ = some (.string { data := #[97] }) ∧ w'.cell? ⟨b2, o2 + 1, none⟩ = some (.int .i64 1) ∧ Below w.heap.size w w' := by
  have hr0 : RdS (fun _ => True) w none 0 1 [] := ⟨rfl, fun h => absurd h (by omega)⟩
  have hf0 : FnsS (fun _ => True) w none [] := fun h => absurd h (by simp)
  have h := of0_any MdA [[97], [98]] (some ⟨g1, 0, none⟩) (some ⟨g2, 0, none⟩) none none 3 2 0 0 w mdA_wf ⟨by decide, by decide, by decide, by decide, by intro f hf; simp [MdA] at hf⟩ rfl mdA_tree
    ⟨⟨rfl, fun _ => ⟨g1, 0, rfl, trivial, fun j u hj => by
      match j with
      | 0 => simp [MdA, strV, bs] at hj; subst hj; exact c0
      | 1 => simp [MdA, strV, bs] at hj; subst hj; exact c1
      | 2 => simp [MdA, strV, bs] at hj; subst hj; exact c2
      | j + 3 => simp [MdA, strV] at hj⟩⟩, ⟨rfl, fun _ => ⟨g2, 0, rfl, trivial, fun j u hj => by
      match j with
      | 0 => simp [MdA, intV] at hj; subst hj; exact d0
      | 1 => simp [MdA, intV] at hj; subst hj; exact d1
      | j + 2 => simp [MdA, intV] at hj⟩⟩, hf0, hr0⟩ mdA_us.symm (by decide) risA (by decide) (by decide) (by decide) (by decide) (by decide)
  rw [mdA_num] at h
  refine h.mono ?_
  rintro e w' ⟨A1, c1, A2, c2, A3, c3, A4, c4, rfl, hs, hg, hb⟩
  obtain ⟨b1, o1, rfl, -, h1⟩ := hs.2 (by decide)
  obtain ⟨b2, o2, rfl, -, h2⟩ := hg.2 (by decide)
  exact ⟨b1, o1, c1, b2, o2, c2, A3, c3, A4, c4, by simp [faultV, MdA], h1 0 _ rfl, h2 1 _ rfl, hb⟩
set_option maxHeartbeats 4000000 in
theorem awakeC_any (w : World) : Calls Try.prog 25 #[] w (BlB w true) := by
  go_enter Try.func25, Try.ntmps25
  go_wp2_with fail
  refine (ofA_any w.heap.size (w.heap.size + 1) _ (by go_simp) (by go_simp) (by go_simp) (by go_simp) (by go_simp)).mono ?_
  rintro e w1 ⟨b1, o1, k1, b2, o2, k2, A3, k3, A4, k4, rfl, hs, hg, hb⟩
  have HB1 : Hid (Below w.heap.size w w1) := (((Below.refl _ _).alloc (Nat.le_refl _) _).alloc (by simp) _).trans (hb.mono (by simp; omega))
  clear hb
  dsimp only
  obtain ⟨w2, hw2⟩ : ∃ w2, w2 = (w1.alloc (.cells #[.slice (some ⟨b1, o1, none⟩) 2 k1, .slice (some ⟨b2, o2, none⟩) 2 k2, .slice A3 0 k3, .slice A4 0 k4] 30)).alloc (.cells #[.int .i64 0, .int .i64 0, .int .i64 0, .int .i64 0, .int .i64 0, .int .i64 (-1), .int .i64 (-1)] 35) := ⟨_, rfl⟩
  have hb2 : Below w1.heap.size w1 w2 := by rw [hw2]; exact ((Below.refl _ _).alloc (Nat.le_refl _) _).alloc (by simp) _
  have HB2 := Lib.hid (HB1.out.trans (hb2.mono HB1.out.size))
  have K1 : Hid (Blk w2 w1.heap.size 30 #[.slice (some ⟨b1, o1, none⟩) 2 k1, .slice (some ⟨b2, o2, none⟩) 2 k2, .slice A3 0 k3, .slice A4 0 k4]) := by rw [hw2]; exact (Blk.new w1 30 _).alloc _
  have K2 : Hid (Blk w2 (w1.heap.size + 1) 35 #[.int .i64 0, .int .i64 0, .int .i64 0, .int .i64 0, .int .i64 0, .int .i64 (-1), .int .i64 (-1)]) := by rw [hw2]; exact Blk.new' _ 35 _ _ (by simp)
  have hs2 := cell_old hb2 (World.block_lt_of_cell? w1 _ hs) hs
  have hg2 := cell_old hb2 (World.block_lt_of_cell? w1 _ hg) hg
  go_upto_region 2 with (fail)
  rw [← hw2]
  clear hw2 hb2 hs hg
  obtain ⟨q1, hq1⟩ : ∃ g, g = w1.heap.size := ⟨_, rfl⟩
  rw [← hq1] at K1 K2
  try simp only [← hq1]
  clear hq1
  obtain ⟨k0, k1, k2, k3⟩ := K1.out.c4
  obtain ⟨m0, m1, m2, m3, m4, m5, m6⟩ := K2.out.c7
  have z1 : q1 < w2.heap.size := K1.out.lt
  have z2 : q1 + 1 < w2.heap.size := K2.out.lt
  go_wp2
  go_ret
  exact ⟨rfl, HB2.out⟩
end Go.Proofs.Ytpdebnecfknohaa
