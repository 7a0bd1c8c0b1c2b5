/-
  Parts: Xp Xr Xs Tz Xt Xu Qy Qm Xv Dp Xw.
-/
import Derived.Test.YtpdebnecfknohaaPr00
import Derived.Test.YtpdebnecfknohaaPr01
import Derived.Test.YtpdebnecfknohaaPr02
import Derived.Test.YtpdebnecfknohaaPr03
import Derived.Test.YtpdebnecfknohaaPr04
import Derived.Test.YtpdebnecfknohaaPr05
import Derived.Test.YtpdebnecfknohaaPr06
import Derived.Test.YtpdebnecfknohaaPr07
import Derived.Test.YtpdebnecfknohaaPr08
import Derived.Test.YtpdebnecfknohaaPr09
import Derived.Deep.RegionHeld
import Derived.Laws.OwnMore
import Derived.Deep.RegionLaw
import Derived.Deep.DeepCutAuto
import Derived.Deep.CutBlock
import Derived.Deep.RegionWith
namespace Go.Proofs.Ytpdebnecfknohaa
open Go.RowKit Go.Maps
set_option linter.unusedVariables false
set_option linter.unusedSimpArgs false
set_option maxRecDepth 20000
/-- A name's new number; a function's. -/
def nmG (Z strs : List (List UInt8)) (n : Int) : Int := numF Z (strF strs n) 0
def fnG (F : Int → Int) (f : Fn) : Fn := ⟨F f.name, f.params, f.locals.map F, f.sites.map F, f.body⟩
/-- The first k of the functions have their new numbers. -/
def fnsK (F : Int → Int) (L : List Fn) (k : Nat) : List Fn := (L.take k).map (fnG F) ++ L.drop k
theorem fnsK_len (F : Int → Int) (L : List Fn) (k : Nat) (h : k ≤ L.length) : (fnsK F L k).length = L.length := by simp [fnsK]; omega
theorem fnsK_get (F : Int → Int) (L : List Fn) (k : Nat) (h : k < L.length) (h2 : k < (fnsK F L k).length) : (fnsK F L k)[k] = L[k] := by
  have : (fnsK F L k)[k]? = some L[k] := by
    unfold fnsK
    rw [List.getElem?_append_right (by simp; omega)]
    simp [Nat.min_eq_left (Nat.le_of_lt h), h]
  rw [List.getElem?_eq_getElem h2] at this
  exact Option.some.inj this
theorem fnsK_set (F : Int → Int) (L : List Fn) (k : Nat) (h : k < L.length) : (fnsK F L k).set k (fnG F L[k]) = fnsK F L (k + 1) := by
  unfold fnsK
  have hl : ((L.take k).map (fnG F)).length = k := by simp; omega
  rw [List.set_append_right _ _ (by omega), hl, Nat.sub_self, List.drop_eq_getElem_cons h, List.set_cons_zero, List.take_succ_eq_append_getElem h, List.map_append]
  simp only [List.map_cons, List.map_nil, List.append_assoc, List.cons_append, List.nil_append]
/-- What Of leaves beside no fault. -/
def OfB (w : World) (Z : List (List UInt8)) (F : Int → Int) (M : Md) (e : Ending) (w' : World) : Prop :=
  ∃ A1 c1 A2 c2 A3 c3 A4 c4, e = .returned (.tuple #[.agg #[.slice A1 Z.length c1, .slice A2 M.globs.length c2, .slice A3 M.funcs.length c3, .slice A4 M.ents.length c4], faultV 0 (-1) (-1)]) ∧ RdS (fun _ => True) w' A1 Z.length 1 (strV Z) ∧ RdS (fun _ => True) w' A2 M.globs.length 1 (intV (M.globs.map F)) ∧ RdS (fun _ => True) w' A4 M.ents.length 1 (intV M.ents) ∧
  (0 < M.funcs.length → ∃ lo q T, A3 = some ⟨q, 0, none⟩ ∧ CpT w.heap.size lo T w' q (M.funcs.map (fnG F))) ∧ Below w.heap.size w w'
set_option maxHeartbeats 8000000 in
theorem of_any (M : Md) (Z : List (List UInt8)) (As Ag Af Ae : Option Addr) (cs cg cf ce : Nat) (w : World) (hW : M.Wf) (hFit : M.Fit) (hsz : ∀ f ∈ M.funcs, f.body.size ≤ 1000 ∧ f.body.wide ≤ 1000) (hT : treeF M = (0, -1, -1)) (h : MdR w As Ag Af Ae M) (hZ : Z = usS M.strs (usedI M.globs M.funcs M.funcs.length)) (hZl : Z.length ≤ 1000000) (hZr : Rising Z) (hZm : ∀ n ∈ usedI M.globs M.funcs M.funcs.length, strF M.strs n ∈ Z)
    (hU : (usedI M.globs M.funcs M.funcs.length).length ≤ 90000) (hr : ∀ n ∈ usedI M.globs M.funcs M.funcs.length, 0 ≤ n ∧ n < (M.strs.length : Int)) (hs : ∀ n ∈ usedI M.globs M.funcs M.funcs.length, (strF M.strs n).length ≤ 100000) :
    Calls Try.prog 26 #[.agg #[.slice As M.strs.length cs, .slice Ag M.globs.length cg, .slice Af M.funcs.length cf, .slice Ae M.ents.length ce]] w (OfB w Z (nmG Z M.strs) M) := by
  have h19 := fun wx (hx : Below w.heap.size w wx) => tree_any M As Ag Af Ae cs cg cf ce wx hW (h.old hx)
  have h45 := fun wx (hx : Below w.heap.size w wx) => us_any M As Ag Af Ae cs cg cf ce wx hW (h.old hx) hU hr hs
  have h49 := fun wx (hx : Below w.heap.size w wx) => copyR_any M As Ag Af Ae cs cg cf ce wx hFit hsz (h.old hx) w.heap.size hx.size (h.funcs.low.kept (S' := fun k => k < w.heap.size) (Below.keptS hx) (fun k hk _ => hk.1))
  unfold CopyPostR at h49
  obtain ⟨w0, hw0⟩ : ∃ n, n = w.heap.size := ⟨_, rfl⟩
  simp only [← hw0] at h49
  have HW0 := Lib.hid hw0
  clear hw0
  rw [hT] at h19
  simp only [← hZ] at h45
  have hNum := fun wx (gu gm : Nat) (Au : Option Addr) (cu : Nat) (n : Int) (hn : n ∈ usedI M.globs M.funcs M.funcs.length) (hE : NumE wx gu gm Au Z.length cu Z As Ag Af Ae M.strs.length cs M.globs.length cg M.funcs.length cf M.ents.length ce M.strs) => num_any wx gu gm Au Z.length cu Z As Ag Af Ae M.strs.length cs M.globs.length cg M.funcs.length cf M.ents.length ce M.strs n hE rfl hW.strs rfl hZl (hr n hn) hZr (hZm n hn)
  obtain ⟨F, hFe⟩ : ∃ F, F = nmG Z M.strs := ⟨_, rfl⟩
  rw [← hFe]
  have hNum2 : ∀ wx (gu gm : Nat) (Au : Option Addr) (cu : Nat) (n : Int), n ∈ usedI M.globs M.funcs M.funcs.length → NumE wx gu gm Au Z.length cu Z As Ag Af Ae M.strs.length cs M.globs.length cg M.funcs.length cf M.ents.length ce M.strs → Calls Try.prog 46 #[.int .i64 n, .pointer (some ⟨gu, 0, none⟩), .pointer (some ⟨gm, 0, none⟩)] wx fun e w' => e = .returned (.int .i64 (F n)) ∧ Below wx.heap.size wx w' := by rw [hFe]; exact hNum
  clear hNum hFe
  have hUg : ∀ n ∈ M.globs, n ∈ usedI M.globs M.funcs M.funcs.length := fun n hn => by unfold usedI; exact List.mem_append_left _ hn
  have hUf : ∀ j (h : j < M.funcs.length), ∀ n ∈ M.funcs[j].name :: (M.funcs[j].locals ++ M.funcs[j].sites), n ∈ usedI M.globs M.funcs M.funcs.length := fun j h n hn => by
    unfold usedI
    refine List.mem_append_right _ (List.mem_flatten.2 ⟨_, List.mem_map.2 ⟨M.funcs[j], ?_, rfl⟩, hn⟩)
    rw [List.take_length]
    exact List.getElem_mem h
  obtain ⟨U, hUU⟩ : ∃ U, U = usedI M.globs M.funcs M.funcs.length := ⟨_, rfl⟩
  simp only [← hUU] at hNum2 hUg hUf
  clear hUU
  have HUG := Lib.hid hUg
  have HUF := Lib.hid hUf
  have HWf := Lib.hid hW
  clear hUg hUf
  have HR := Lib.hid (show RdS (fun _ => True) w As M.strs.length 1 (strV M.strs) from h.strs)
  have hgl := hW.globs.1
  have hfl := hW.funcs
  clear hZ hZr hZm hU hr hs hT h hW hFit hsz
  obtain ⟨ls, hls⟩ : ∃ n, n = M.strs.length := ⟨_, rfl⟩
  obtain ⟨lg, hlg⟩ : ∃ n, n = M.globs.length := ⟨_, rfl⟩
  obtain ⟨lf, hlfe⟩ : ∃ n, n = M.funcs.length := ⟨_, rfl⟩
  obtain ⟨le, hle⟩ : ∃ n, n = M.ents.length := ⟨_, rfl⟩
  obtain ⟨m, hm⟩ : ∃ n, n = Z.length := ⟨_, rfl⟩
  have HL : Hid (ls = M.strs.length ∧ lg = M.globs.length ∧ le = M.ents.length ∧ m = Z.length ∧ lf = M.funcs.length) := ⟨hls, hlg, hle, hm, hlfe⟩
  simp only [← hls, ← hlg, ← hlfe, ← hle, ← hm] at h19 h45 h49 hNum2 HR hgl hZl hfl ⊢
  clear hls hlg hlfe hle hm
  have H19 := Lib.hid h19
  have H45 := Lib.hid h45
  have H49 := Lib.hid h49
  have HNum := Lib.hid hNum2
  clear h19 h45 h49 hNum2
  obtain ⟨w1, hw1⟩ : ∃ w1, w1 = ((w.alloc (.cells #[.slice As ls cs, .slice Ag lg cg, .slice Af lf cf, .slice Ae le ce] 30)).alloc (.cells #[.slice none 0 0, .slice none 0 0, .slice none 0 0, .slice none 0 0] 30)).alloc (.cells #[.int .i64 0, .int .i64 0, .int .i64 0, .int .i64 0, .int .i64 0, .int .i64 0, .int .i64 0] 35) := ⟨_, rfl⟩
  have HB1 : Hid (Below w.heap.size w w1) := by rw [hw1]; exact (((Below.refl _ _).alloc (Nat.le_refl _) _).alloc (by simp) _).alloc (by simp; omega) _
  have KM : Hid (Blk w1 w.heap.size 30 #[.slice As ls cs, .slice Ag lg cg, .slice Af lf cf, .slice Ae le ce]) := by rw [hw1]; exact ((Blk.new w 30 _).alloc _).alloc _
  have KA : Hid (Blk w1 (w.heap.size + 1) 30 #[.slice none 0 0, .slice none 0 0, .slice none 0 0, .slice none 0 0]) := by rw [hw1]; exact (Blk.new' _ 30 _ _ (by simp)).alloc _
  have KF : Hid (Blk w1 (w.heap.size + 2) 35 #[.int .i64 0, .int .i64 0, .int .i64 0, .int .i64 0, .int .i64 0, .int .i64 0, .int .i64 0]) := by rw [hw1]; exact Blk.new' _ 35 _ _ (by simp)
  go_enter Try.func26, Try.ntmps26
  go_upto_region 1 with (fail)
  rw [← hw1]
  clear hw1
  obtain ⟨gm, hgm⟩ : ∃ g, g = w.heap.size := ⟨_, rfl⟩
  obtain ⟨ga, hga⟩ : ∃ g, g = gm + 1 := ⟨_, rfl⟩
  obtain ⟨gf, hgf⟩ : ∃ g, g = ga + 1 := ⟨_, rfl⟩
  have HGG : Hid (gm = w.heap.size ∧ ga = w.heap.size + 1 ∧ gf = w.heap.size + 2) := ⟨hgm, by omega, by omega⟩
  rw [← hgm] at KM
  rw [← hgm, ← hga] at KA
  rw [show w.heap.size + 2 = gf by omega] at KF
  simp only [← hgm, ← hga, ← hgf]
  clear hgm hga hgf
  obtain ⟨k0, k1, k2, k3⟩ := KM.out.c4
  have z1 : gm < w1.heap.size := KM.out.lt
  go_wp2_with fail
  refine (H19.out _ HB1.out).mono ?_
  rintro e w2 ⟨rfl, hb2⟩
  have HB2 := Lib.hid (HB1.out.trans (hb2.mono HB1.out.size))
  have KM2 := Lib.hid (KM.out.old hb2)
  have KA2 := Lib.hid (KA.out.old hb2)
  have KF2 := Lib.hid (KF.out.old hb2)
  clear hb2 HB1 KM KA KF k0 k1 k2 k3 z1
  dsimp only
  rw [show faultV 0 (-1) (-1) = .agg #[.int .i64 0, .int .i64 0, .int .i64 0, .int .i64 0, .int .i64 0, .int .i64 (-1), .int .i64 (-1)] from by simp [faultV]]
  obtain ⟨w3, hw3⟩ : ∃ w3, w3 = w2.alloc (.cells #[.int .i64 0, .int .i64 0, .int .i64 0, .int .i64 0, .int .i64 0, .int .i64 (-1), .int .i64 (-1)] 35) := ⟨_, rfl⟩
  have HB3 : Hid (Below w.heap.size w w3) := by rw [hw3]; exact HB2.out.alloc HB2.out.size _
  have KM3 : Hid (Blk w3 gm 30 #[.slice As ls cs, .slice Ag lg cg, .slice Af lf cf, .slice Ae le ce]) := by rw [hw3]; exact KM2.out.alloc _
  have KA3 : Hid (Blk w3 ga 30 #[.slice none 0 0, .slice none 0 0, .slice none 0 0, .slice none 0 0]) := by rw [hw3]; exact KA2.out.alloc _
  have KF3 : Hid (Blk w3 gf 35 #[.int .i64 0, .int .i64 0, .int .i64 0, .int .i64 0, .int .i64 0, .int .i64 0, .int .i64 0]) := by rw [hw3]; exact KF2.out.alloc _
  have KX3 : Hid (Blk w3 w2.heap.size 35 #[.int .i64 0, .int .i64 0, .int .i64 0, .int .i64 0, .int .i64 0, .int .i64 (-1), .int .i64 (-1)]) := by rw [hw3]; exact Blk.new w2 35 _
  go_upto_region 2 with (fail)
  rw [← hw3]
  clear hw3
  obtain ⟨gx, hgx⟩ : ∃ g, g = w2.heap.size := ⟨_, rfl⟩
  rw [← hgx] at KX3
  try simp only [← hgx]
  have HGX : Hid (gf < gx) := by rw [hgx]; exact KF2.out.lt
  clear hgx KM2 KA2 KF2 HB2
  obtain ⟨x0, x1, x2, x3, x4, x5, x6⟩ := KX3.out.c7
  have zx : gx < w3.heap.size := KX3.out.lt
  obtain ⟨k0, k1, k2, k3⟩ := KM3.out.c4
  have zm : gm < w3.heap.size := KM3.out.lt
  go_wp2_with fail
  refine (H45.out _ HB3.out).mono ?_
  rintro e w4 ⟨Au, cu, rfl, hOu, hb4⟩
  have HB4 := Lib.hid (HB3.out.trans (hb4.mono HB3.out.size))
  have KM4 := Lib.hid (KM3.out.old hb4)
  have KA4 := Lib.hid (KA3.out.old hb4)
  have KF4 := Lib.hid (KF3.out.old hb4)
  have KX4 := Lib.hid (KX3.out.old hb4)
  have HU4 := Lib.hid hOu
  clear hOu hb4 HB3 KM3 KA3 KF3 KX3 k0 k1 k2 k3 zm x0 x1 x2 x3 x4 x5 x6 zx
  dsimp only
  obtain ⟨w5, hw5⟩ : ∃ w5, w5 = w4.alloc (.cells #[.slice Au m cu] 26) := ⟨_, rfl⟩
  have hb5 : Below w4.heap.size w4 w5 := by rw [hw5]; exact (Below.refl _ _).alloc (Nat.le_refl _) _
  have HB5 := Lib.hid (HB4.out.trans (hb5.mono HB4.out.size))
  have KM5 := Lib.hid (KM4.out.old hb5)
  have KA5 := Lib.hid (KA4.out.old hb5)
  have KF5 := Lib.hid (KF4.out.old hb5)
  have KX5 := Lib.hid (KX4.out.old hb5)
  have HU5 := Lib.hid (own_old HU4.out hb5)
  have KU5 : Hid (Blk w5 w4.heap.size 26 #[.slice Au m cu]) := by rw [hw5]; exact Blk.new w4 26 _
  clear hb5
  go_upto_region 5 with (fail)
  rw [← hw5]
  clear hw5
  obtain ⟨gu, hgu⟩ : ∃ g, g = w4.heap.size := ⟨_, rfl⟩
  rw [← hgu] at KU5
  try simp only [← hgu]
  clear hgu KM4 KA4 KF4 KX4 HU4 HB4
  obtain ⟨k0, k1, k2, k3⟩ := KM5.out.c4
  have zm : gm < w5.heap.size := KM5.out.lt
  go_wp2_with fail
  refine (H49.out _ (by rw [HW0.out]; exact HB5.out)).mono ?_
  rintro e w6 ⟨A1, c1, A2, c2, A3, c3, A4, c4, rfl, hR6, hb6, hO6, hE6, hap6, hF6⟩
  have HAp := Lib.hid hap6
  have HE6 := Lib.hid hE6
  have HF6 := Lib.hid hF6
  clear hap6 hE6 hF6
  have HB6 := Lib.hid (HB5.out.trans (hb6.mono HB5.out.size))
  have KM6 := Lib.hid (KM5.out.old hb6)
  have KA6 := Lib.hid (KA5.out.old hb6)
  have KF6 := Lib.hid (KF5.out.old hb6)
  have KX6 := Lib.hid (KX5.out.old hb6)
  have KU6 := Lib.hid (KU5.out.old hb6)
  have HU6 := Lib.hid (own_old HU5.out hb6)
  have HE5 : Hid (NumE w5 gu gm Au m cu Z As Ag Af Ae ls cs lg cg lf cf le ce M.strs) := ⟨KU5.out, KM5.out, (RdS.own HU5.out).below (fun _ _ => trivial), HR.out.old HB5.out (by omega)⟩
  have HC : Hid (∀ wx, Below w5.heap.size w5 wx → ∀ i ∈ U, Calls Try.prog 46 #[.int .i64 i, .pointer (some ⟨gu, 0, none⟩), .pointer (some ⟨gm, 0, none⟩)] wx fun e w' => e = .returned (.int .i64 (F i)) ∧ Below wx.heap.size wx w') := fun wx hx i hi => HNum.out wx gu gm Au cu i hi (HE5.out.old hx)
  have HO6 := Lib.hid hO6
  dsimp only
  obtain ⟨w7, hw7⟩ : ∃ w7, w7 = w6.alloc (.cells #[.slice A1 ls c1, .slice A2 lg c2, .slice A3 lf c3, .slice A4 le c4] 30) := ⟨_, rfl⟩
  have hb7 : Below w6.heap.size w6 w7 := by rw [hw7]; exact (Below.refl _ _).alloc (Nat.le_refl _) _
  have HB57 := Lib.hid (hb6.trans (hb7.mono hb6.size))
  have HO7 := Lib.hid (own_old HO6.out hb7)
  have HE7 := Lib.hid (own_old HE6.out hb7)
  obtain ⟨q, lo, T, hF7⟩ : ∃ q lo, ∃ T : Nat → Nat, 0 < lf → A3 = some ⟨q, 0, none⟩ ∧ CpT w0 lo T w7 q M.funcs ∧ (∀ k, some k = (Value.slice A2 lg c2).ownBlock ∨ some k = (Value.slice A4 le c4).ownBlock → k < lo) ∧ T M.funcs.length ≤ w6.heap.size ∧ w5.heap.size ≤ q ∧ w5.heap.size ≤ lo := by
    rcases Nat.eq_zero_or_pos lf with h0 | h0
    · exact ⟨0, 0, fun _ => 0, fun h => by omega⟩
    · obtain ⟨q, lo, h1, h2, h3, h5⟩ := HF6.out h0
      rw [HL.out.2.2.2.2] at h2
      obtain ⟨T, h4⟩ := h2.all
      exact ⟨q, lo, T, fun _ => ⟨h1, h4.old hb7, h3, h4.t2, h5⟩⟩
  have HF7 := Lib.hid hF7
  clear hF7
  have KU7 := Lib.hid (KU6.out.old hb7)
  have KC7 : Hid (Blk w7 w6.heap.size 30 #[.slice A1 ls c1, .slice A2 lg c2, .slice A3 lf c3, .slice A4 le c4]) := by rw [hw7]; exact Blk.new w6 30 _
  have HG7 : Hid (w5.heap.size ≤ w6.heap.size) := hb6.size
  have HGC : Hid (gf < w6.heap.size) := KF6.out.lt
  clear hb6 hb7 hO6 hR6
  go_upto_region 7 with (fail)
  rw [← hw7]
  clear hw7
  obtain ⟨gc, hgc⟩ : ∃ g, g = w6.heap.size := ⟨_, rfl⟩
  rw [← hgc] at KC7 HG7 HGC HF7
  try simp only [← hgc]
  clear hgc KM6 KA6 KF6 KX6 KU6 HU6 HB6 k0 k1 k2 k3 zm HO6
  obtain ⟨q0, q1, q2, q3⟩ := KC7.out.c4
  have zc : gc < w7.heap.size := KC7.out.lt
  have fc := KC7.out.frozen 0
  have u0 : w7.cell? ⟨gu, 0, none⟩ = some (.slice Au m cu) := KU7.out.cell 0
  have zu : gu < w7.heap.size := KU7.out.lt
  have KC8 : Hid (Blk (w7.setCell ⟨gc, 0, none⟩ (.slice Au m cu)) gc 30 #[.slice Au m cu, .slice A2 lg c2, .slice A3 lf c3, .slice A4 le c4]) := KC7.out.set_ 0 _
  have hk8 : ∀ k, k ≠ gc → (w7.setCell ⟨gc, 0, none⟩ (.slice Au m cu)).heap[k]? = w7.heap[k]? := fun k hk => Below.heap_setCell _ _ _ _ hk
  have hn8 : ∀ {e n c Bb : Nat} {A : Option Addr} {xs : List Value}, w7.ownsRow Bb e 1 (.slice A n c) n xs → e ≠ 30 → (w7.setCell ⟨gc, 0, none⟩ (.slice Au m cu)).ownsRow Bb e 1 (.slice A n c) n xs := fun ho he => own_blocks ho (fun k hk => hk8 k (fun e => by subst e; exact own_ne ho KC7.out he hk))
  have HO8 := Lib.hid (hn8 HO7.out (by decide))
  have HE8 := Lib.hid (hn8 HE7.out (by decide))
  have HF8 : Hid (0 < lf → A3 = some ⟨q, 0, none⟩ ∧ CpT w0 lo T (w7.setCell ⟨gc, 0, none⟩ (.slice Au m cu)) q M.funcs ∧ (∀ k, some k = (Value.slice A2 lg c2).ownBlock ∨ some k = (Value.slice A4 le c4).ownBlock → k < lo)) := fun hp => by
    obtain ⟨h1, h2, h3, h4, _⟩ := HF7.out hp
    refine ⟨h1, h2.keptT (by simp [World.setCell]) (fun k hk hlt => hk8 k ?_), h3⟩
    obtain ⟨csr, hR, _⟩ := h2.row
    have h5 := HG7.out
    have h6 := HB5.out.size
    have h7 := HW0.out
    rcases hk with hk | hk | hk
    · omega
    · omega
    · subst hk
      intro e
      subst e
      exact absurd (hR.uniq KC7.out) (by decide)
  have HB58 := Lib.hid (HB57.out.setCell (p := ⟨gc, 0, none⟩) HG7.out (.slice Au m cu))
  have HQ5 : Hid (0 < lf → w5.heap.size ≤ q ∧ w5.heap.size ≤ lo) := fun hp => (HF7.out hp).2.2.2.2
  have HLo : Hid (0 < lf → ∀ k, some k = (Value.slice A2 lg c2).ownBlock ∨ some k = (Value.slice A4 le c4).ownBlock → k < lo) := fun hp => (HF7.out hp).2.2.1
  clear hk8 hn8
  go_upto_region 8 with (fail)
  generalize w7.setCell ⟨gc, 0, none⟩ (.slice Au m cu) = w8 at *
  clear q0 q1 q2 q3 zc fc u0 zu KC7 HO7 HE7 HF7 HB57 KU7
  obtain ⟨q0, q1, q2, q3⟩ := KC8.out.c4
  have zc : gc < w8.heap.size := KC8.out.lt
  go_wp2_with fail
  refine (ren_any w5.heap.size w5 w8 F gu gm A2 lg c2 M.globs HB58.out (Nat.le_refl _) HO8.out HL.out.2.1 hgl (fun wx hx i hi => HC.out wx hx i (HUG.out i hi))).mono ?_
  rintro e w9 ⟨rfl, hO9, hb9, hs9, hk9⟩
  have HO9 := Lib.hid hO9
  have HB9 := Lib.hid hb9
  have KC9 : Hid (Blk w9 gc 30 #[.slice Au m cu, .slice A2 lg c2, .slice A3 lf c3, .slice A4 le c4]) := (hk9 gc zc (fun e => own_ne HO8.out KC8.out (by decide) e)).trans KC8.out
  have HE9 := Lib.hid (own_blocks HE8.out (fun k hk => hk9 k (HE8.out.lt k hk.symm).2 (fun e => HAp.out k e hk)))
  have HF9 : Hid (0 < lf → A3 = some ⟨q, 0, none⟩ ∧ CpT w0 lo T w9 q (fnsK F M.funcs 0)) := fun hp => by
    obtain ⟨h1, h2, h3⟩ := HF8.out hp
    refine ⟨h1, h2.kept hs9 (fun k hk hlt => hk9 k hlt (fun e => ?_))⟩
    obtain ⟨csr, hR, _⟩ := h2.row
    have h4 := h3 k (.inl e)
    have h5 := (HO8.out.lt k e.symm).1
    have h6 := HB5.out.size
    have h7 := HW0.out
    rcases hk with hk | hk | hk
    · omega
    · omega
    · subst hk
      exact own_ne HO8.out hR (by decide) e
  clear hO9 hb9 hs9 hk9 q0 q1 q2 q3 zc KC8 HO8 HE8 HF8 HB58 HE5 KM5 KU5
  obtain ⟨q0, q1, q2, q3⟩ := KC9.out.c4
  have zc : gc < w9.heap.size := KC9.out.lt
  go_wp2_with fail
  clear q0 q1 q2 q3 zc
  go_loopg [31] (lf + 1) (fun f s31 wr => ∃ (k : Nat), s31 = .int .i64 (k : Int) ∧ k ≤ lf ∧ lf - k < f ∧ Hid (Below w5.heap.size w5 wr) ∧ Hid (Blk wr gc 30 #[.slice Au m cu, .slice A2 lg c2, .slice A3 lf c3, .slice A4 le c4]) ∧ Hid (wr.ownsRow w5.heap.size 3 1 (.slice A2 lg c2) lg (intV (M.globs.map F))) ∧ Hid (wr.ownsRow w5.heap.size 3 1 (.slice A4 le c4) le (intV M.ents)) ∧ Hid (0 < lf → A3 = some ⟨q, 0, none⟩ ∧ CpT w0 lo T wr q (fnsK F M.funcs k)))
  case atStart => exact ⟨0, rfl, Nat.zero_le _, by omega, HB9, KC9, HO9, HE9, HF9⟩
  case round =>
    clear HB9 KC9 HO9 HE9 HF9
    obtain ⟨k, rfl, hk, hkf, hB, hK, hO, hE, hF⟩ := hrel
    obtain ⟨f, rfl⟩ : ∃ g, gk = g + 1 := ⟨gk - 1, by omega⟩
    by_cases hlt : k < lf
    · have hki : (k : Int) < (lf : Int) := by omega
      obtain ⟨rfl, hT⟩ := hF.out (by omega)
      have hkM : k < M.funcs.length := by rw [← HL.out.2.2.2.2]; exact hlt
      have hkl : k < (fnsK F M.funcs k).length := by rw [fnsK_len _ _ _ (Nat.le_of_lt hkM)]; exact hkM
      have hget := fnsK_get F M.funcs k hkM hkl
      obtain ⟨Al, cl, As2, cs2, Ab2, cb2, b, c, x1, x2, x3, x4, x5, x6, x7, x8, x9⟩ := hT.fns k hkl
      obtain ⟨csr, hR, hRs⟩ := hT.row
      have hW5 := (HWf.out.fns _ (List.getElem_mem hkM)).2.2
      have HX := Lib.hid (And.intro x1 (And.intro x2 (And.intro x3 (And.intro x4 (And.intro x5 (And.intro x6 (And.intro x7 (And.intro x8 x9))))))))
      have hset := fnsK_set F M.funcs k hkM
      have HSet : Hid ((fnsK F M.funcs k).set k ⟨F (fnsK F M.funcs k)[k].name, (fnsK F M.funcs k)[k].params, (fnsK F M.funcs k)[k].locals.map F, (fnsK F M.funcs k)[k].sites.map F, (fnsK F M.funcs k)[k].body⟩ = fnsK F M.funcs (k + 1)) := by show _ = _; rw [hget]; exact hset
      have hUf := HUF.out k hkM
      rw [← hget] at hW5 hUf
      obtain ⟨g, hg⟩ : ∃ g, g = (fnsK F M.funcs k)[k] := ⟨_, rfl⟩
      rw [← hg] at hW5 hUf x4 x5 x6 x7 x8
      have hgN : ∀ n ∈ g.locals, n ∈ U := fun n hn => hUf n (by simp [hn])
      have hgS : ∀ n ∈ g.sites, n ∈ U := fun n hn => hUf n (by simp [hn])
      have hgn : g.name ∈ U := hUf _ (by simp)
      obtain ⟨nl, hnl⟩ : ∃ n, n = g.locals.length := ⟨_, rfl⟩
      obtain ⟨ns, hns⟩ : ∃ n, n = g.sites.length := ⟨_, rfl⟩
      obtain ⟨nn, hnn⟩ : ∃ n, n = g.name := ⟨_, rfl⟩
      rw [← hnl] at x4 x5 x6
      rw [← hns] at x4 x7 x8
      rw [← hnn] at x4 hgn
      have d0 := x4 0 _ rfl
      have d2 := x4 2 _ rfl
      have d3 := x4 3 _ rfl
      rw [Nat.add_zero] at d0
      have hRl : q < wr.heap.size := hR.lt
      have hqb := hT.qb
      have hti := mono_le hT.t1 k
      have ht0 := hT.t0
      have hqA : some q ≠ (Value.slice Al nl cl).ownBlock := fun e => by have := (x5.lt q e.symm).1; omega
      have hqS : some q ≠ (Value.slice As2 ns cs2).ownBlock := fun e => by have := (x7.lt q e.symm).1; omega
      have hAS : ∀ j, some j = (Value.slice As2 ns cs2).ownBlock → some j ≠ (Value.slice Al nl cl).ownBlock := fun j h1 h2 => by have := (x7.lt j h1.symm).1; have := x6 j h2; omega
      have HCl := Lib.hid (HC.out wr hB.out nn hgn)
      have HQ := Lib.hid (And.intro hqA (And.intro hqS hAS))
      have HI := Lib.hid (And.intro hT (And.intro hR (And.intro x5 (And.intro x7 (And.intro hgN (And.intro hgS (And.intro hW5 (And.intro hnl (And.intro hns (And.intro hnn (And.intro hg (And.intro hkl hqb))))))))))))
      have HK3 := Lib.hid (And.intro d2 d3)
      obtain ⟨k0, k1, k2, k3⟩ := hK.out.c4
      have zc : gc < wr.heap.size := hK.out.lt
      clear x1 x2 x3 x4 x5 x6 x7 x8 x9 hqA hqS hAS hgN hgS hgn hW5 hUf hnl hns hnn hg hset hget hRs hR hT hti ht0 hqb hkM
      go_wp2_with fail
      refine HCl.out.mono ?_
      rintro e wa ⟨rfl, hba⟩
      have Hba := Lib.hid hba
      have HBa := Lib.hid (hB.out.trans (hba.mono hB.out.size))
      have HRa : Hid (Blk wa q 40 csr) := HI.out.2.1.old hba
      have da0 := cell_old hba hRl d0
      have fa := HRa.out.frozen (k * 5)
      have zqa : q < wa.heap.size := HRa.out.lt
      obtain ⟨wb, hwb⟩ : ∃ W, W = wa.setCell ⟨q, k * 5, none⟩ (.int .i64 (F nn)) := ⟨_, rfl⟩
      have HWb := Lib.hid hwb
      have HQw : Hid (w5.heap.size ≤ q ∧ w5.heap.size ≤ T k) := by
        obtain ⟨hT, _⟩ := HI.out
        have h1 := (mono_le hT.t1 k)
        have h2 := hT.t0
        have h3 := hT.qb
        exact ⟨(HQ5.out (by omega)).1, by have := HQ5.out (by omega); omega⟩
      have HBb : Hid (Below w5.heap.size w5 wb) := by rw [hwb]; exact HBa.out.setCell (p := ⟨q, k * 5, none⟩) HQw.out.1 _
      have hRb : Blk wb q 40 (csr.setIfInBounds (k * 5) (.int .i64 (F nn))) := by rw [hwb]; exact HRa.out.set_ (k * 5) _
      have HLb : Hid (wb.ownsRow (T k) 3 1 (.slice Al nl cl) nl (intV g.locals)) := by
        rw [hwb]
        exact own_blocks (own_old HI.out.2.2.1 hba) (fun j hj => Below.heap_setCell _ _ _ _ (fun e => HQ.out.1 (by subst e; exact hj)))
      have HSb : Hid (wb.ownsRow b 3 1 (.slice As2 ns cs2) ns (intV g.sites)) := by
        rw [hwb]
        exact own_blocks (own_old HI.out.2.2.2.1 hba) (fun j hj => Below.heap_setCell _ _ _ _ (fun e => HQ.out.2.1 (by subst e; exact hj)))
      have db2 : wb.cell? ⟨q, k * 5 + 2, none⟩ = some (.slice Al nl cl) := by
        rw [hwb, World.cell?_setCell_other _ _ _ _ (fun e => by injection e with _ e2; omega)]
        exact cell_old hba hRl HK3.out.1
      have db3 : wb.cell? ⟨q, k * 5 + 3, none⟩ = some (.slice As2 ns cs2) := by
        rw [hwb, World.cell?_setCell_other _ _ _ _ (fun e => by injection e with _ e2; omega)]
        exact cell_old hba hRl HK3.out.2
      have zqb : q < wb.heap.size := hRb.lt
      have Hdb3 := Lib.hid db3
      have HBw2 : Hid (w0 ≤ w5.heap.size) := by rw [show w0 = w.heap.size from HW0.out]; exact HB5.out.size
      clear hba d0 hRb db3 k0 k1 k2 k3
      go_upto_region 14 with (fail)
      rw [← hwb]
      clear hwb da0 fa zqa
      go_wp2_with fail
      refine (ren_any w5.heap.size w5 wb F gu gm Al nl cl g.locals HBb.out (Nat.le_refl _) (own_mono HLb.out HQw.out.2) HI.out.2.2.2.2.2.2.2.1 (by rw [HI.out.2.2.2.2.2.2.2.1]; exact HI.out.2.2.2.2.2.2.1.1) (fun wx hx i hi => HC.out wx hx i (HI.out.2.2.2.2.1 i hi))).mono ?_
      rintro e wc ⟨rfl, hOc, hbc, hsc, hkc⟩
      have HOc := Lib.hid hOc
      have HBc := Lib.hid hbc
      have HSc := Lib.hid hsc
      have HKc := Lib.hid hkc
      have dc3 : wc.cell? ⟨q, k * 5 + 3, none⟩ = some (.slice As2 ns cs2) := (World.cell?_of_block (hkc q zqb HQ.out.1)).trans Hdb3.out
      have zqc : q < wc.heap.size := Nat.lt_of_lt_of_le zqb hsc
      have HSx : Hid (wc.ownsRow b 3 1 (.slice As2 ns cs2) ns (intV g.sites)) := own_blocks HSb.out (fun j hj => hkc j (HSb.out.lt j hj.symm).2 (HQ.out.2.2 j hj))
      clear hOc hbc hsc hkc db2 zqb
      go_wp2_with fail
      refine (ren_any w5.heap.size w5 wc F gu gm As2 ns cs2 g.sites HBc.out (Nat.le_refl _) (own_mono HSx.out (Nat.le_trans HQw.out.2 HX.out.2.2.1)) HI.out.2.2.2.2.2.2.2.2.1 (by rw [HI.out.2.2.2.2.2.2.2.2.1]; exact HI.out.2.2.2.2.2.2.1.2.1) (fun wx hx i hi => HC.out wx hx i (HI.out.2.2.2.2.2.1 i hi))).mono ?_
      rintro e wd ⟨rfl, hOd, hbd, hsd, hkd⟩
      have HFin : Hid (CpT w0 lo T wd q (fnsK F M.funcs (k + 1)) ∧ ∀ j, j < wr.heap.size → j ≠ q → some j ≠ (Value.slice Al nl cl).ownBlock → some j ≠ (Value.slice As2 ns cs2).ownBlock → wd.heap[j]? = wr.heap[j]?) := by
        obtain ⟨x1, x2, x3, x4, x5, x6, x7, x8, x9⟩ := HX.out
        obtain ⟨hT, hR, _, _, _, _, _, hnl, hns, hnn, hg, hkl', hqb⟩ := HI.out
        have hOc := own_mono HOc.out HBw2.out
        have hOd := own_mono hOd HBw2.out
        have hsc := HSc.out
        have hkc := HKc.out
        have hw := HWb.out
        rw [hw] at hsc hkc
        subst hnn hnl hns
        subst hg
        have h9 := hT.round hkl' Hba.out x1 x2 x3 x4 x5 x6 x7 x8 x9 (List.length_map _) (List.length_map _) hOc hsc hkc hOd hsd hkd
        rw [HSet.out] at h9
        exact h9
      have HBd := Lib.hid hbd
      have hK5 := HI.out.2.2.1
      have hS5 := HI.out.2.2.2.1
      have hR5 := HI.out.2.1
      have HTlo : Hid (lo ≤ T k ∧ T k ≤ b) := by
        obtain ⟨hT, _⟩ := HI.out
        have h1 := (mono_le hT.t1 k)
        have h2 := hT.t0
        exact ⟨by omega, HX.out.2.2.1⟩
      have KCd : Hid (Blk wd gc 30 #[.slice Au m cu, .slice A2 lg c2, .slice (some ⟨q, 0, none⟩) lf c3, .slice A4 le c4]) := (HFin.out.2 gc zc (fun e => by subst e; exact absurd (hR5.uniq hK.out) (by decide)) (fun e => own_ne hK5 hK.out (by decide) e) (fun e => own_ne hS5 hK.out (by decide) e)).trans hK.out
      have hfar : ∀ j, j < wr.heap.size → (some j = (Value.slice A2 lg c2).ownBlock ∨ some j = (Value.slice A4 le c4).ownBlock) → some j ≠ some q → wd.heap[j]? = wr.heap[j]? := fun j hj h1 hq => by
        have h2 := HLo.out (by omega) j h1
        have h3 := HTlo.out
        exact HFin.out.2 j hj (fun e => hq (by rw [e])) (fun e => by have := (hK5.lt j e.symm).1; omega) (fun e => by have := (hS5.lt j e.symm).1; omega)
      have HOd2 : Hid (wd.ownsRow w5.heap.size 3 1 (.slice A2 lg c2) lg (intV (M.globs.map F))) := own_blocks hO.out (fun j hj => hfar j (hO.out.lt j hj.symm).2 (.inl hj) (fun e => by injection e with e; subst e; exact own_ne hO.out hR5 (by decide) hj))
      have HEd : Hid (wd.ownsRow w5.heap.size 3 1 (.slice A4 le c4) le (intV M.ents)) := own_blocks hE.out (fun j hj => hfar j (hE.out.lt j hj.symm).2 (.inr hj) (fun e => by injection e with e; subst e; exact own_ne hE.out hR5 (by decide) hj))
      clear hOd hbd hsd hkd hK5 hS5 hR5 hfar dc3 zqc zc hRl
      go_wp2
      go_roundg f
      case measure => omega
      case rel => exact ⟨k + 1, by go_num, by omega, by omega, HBd, KCd, HOd2, HEd, fun _ => ⟨trivial, HFin.out.1⟩⟩
    · obtain rfl : lf = k := by omega
      have KC9 := hK
      have HO9 := hO
      have HE9 := hE
      have KA9 := Lib.hid (KA5.out.old hB.out)
      have KF9 := Lib.hid (KF5.out.old hB.out)
      have KX9 := Lib.hid (KX5.out.old hB.out)
      have HU9 := Lib.hid (own_old HU5.out hB.out)
      have HBw := Lib.hid (HB5.out.trans (hB.out.mono HB5.out.size))
      have HT9 : Hid (0 < lf → A3 = some ⟨q, 0, none⟩ ∧ CpT w0 lo T wr q (M.funcs.map (fnG F))) := fun hp => by
        have h1 := hF.out hp
        have h2 : fnsK F M.funcs lf = M.funcs.map (fnG F) := by unfold fnsK; rw [HL.out.2.2.2.2]; simp
        rw [h2] at h1
        exact h1
      have HN2 : Hid (0 < lf → ∀ k, (k < w0 ∨ lo ≤ k ∨ k = q) → k ≠ ga ∧ k ≠ gf) := fun hp k hk => by
        obtain ⟨h1, h2⟩ := HQ5.out hp
        have h3 := KA5.out.lt
        have h4 := KF5.out.lt
        obtain ⟨g1, g2, g3⟩ := HGG.out
        have h5 := HW0.out
        rcases hk with hk | hk | hk <;> exact ⟨by omega, by omega⟩
      clear hK hO hE hF hB
      go_upto_region 17 with (fail)
      refine wp_region_held_drew (S := (fun W => Blk W gc 30 #[.slice Au m cu, .slice A2 lg c2, .slice A3 lf c3, .slice A4 le c4] ∧ Blk W gx 35 #[.int .i64 0, .int .i64 0, .int .i64 0, .int .i64 0, .int .i64 0, .int .i64 (-1), .int .i64 (-1)])) (by kernel_rfl) ⟨KC9.out, KX9.out⟩ (fun hHeld => ?_)
      try simp only [Act.put, List.setIfInBounds_toArray, List.set_cons_zero, List.set_cons_succ]
      refine wpAnyH_take (i := 0) (oi := ⟨_, _, _, _, _, _⟩) (v := ?_) rfl (by kernel_rfl) (by kernel_rfl) (by kernel_rfl) (fun _ _ _ h => h) (Or.inl ⟨by rfl, ?_⟩) (by assumption) ?_
      rotate_left
      · (intro W hSW; (try dsimp only at hSW); (obtain ⟨q0, q1, q2, q3⟩ := hSW.1.c4); (obtain ⟨x0, x1, x2, x3, x4, x5, x6⟩ := hSW.2.c7); (have zc := hSW.1.lt); (have zx := hSW.2.lt); go_simp; first | done | with_reducible rfl)
      try simp only [Act.put, List.setIfInBounds_toArray, List.set_cons_zero, List.set_cons_succ]
      refine wpAnyH_take (i := 1) (oi := ⟨_, _, _, _, _, _⟩) (v := ?_) rfl (by kernel_rfl) (by kernel_rfl) (by kernel_rfl) (fun _ _ _ h => h) (Or.inl ⟨by rfl, ?_⟩) (by assumption) ?_
      rotate_left
      · (intro W hSW; (try dsimp only at hSW); (obtain ⟨q0, q1, q2, q3⟩ := hSW.1.c4); (obtain ⟨x0, x1, x2, x3, x4, x5, x6⟩ := hSW.2.c7); (have zc := hSW.1.lt); (have zx := hSW.2.lt); go_simp; first | done | with_reducible rfl)
      try simp only [Act.put, List.setIfInBounds_toArray, List.set_cons_zero, List.set_cons_succ]
      have kA : Blk wr.drew ga 30 #[.slice none 0 0, .slice none 0 0, .slice none 0 0, .slice none 0 0] := KA9.out
      have kF : Blk wr.drew gf 35 #[.int .i64 0, .int .i64 0, .int .i64 0, .int .i64 0, .int .i64 0, .int .i64 0, .int .i64 0] := KF9.out
      have hBd : Below w.heap.size w wr.drew := HBw.out.drew
      have hUd := own_old HU9.out (Below.refl _ _).drew
      have hOd := own_old HO9.out (Below.refl _ _).drew
      have hEd := own_old HE9.out (Below.refl _ _).drew
      have hTd : 0 < lf → A3 = some ⟨q, 0, none⟩ ∧ CpT w0 lo T wr.drew q (M.funcs.map (fnG F)) := fun hp => ⟨(HT9.out hp).1, (HT9.out hp).2.kept (Nat.le_refl _) (fun _ _ _ => rfl)⟩
      have HN : Hid (gf ≠ ga ∧ gc ≠ ga ∧ gx ≠ ga ∧ gc ≠ gf ∧ gx ≠ gf ∧ w.heap.size ≤ ga ∧ w.heap.size ≤ gf) := by (have hgx := HGX.out; have hgc := HGC.out; obtain ⟨g1, g2, g3⟩ := HGG.out; exact ⟨by omega, by omega, by omega, by omega, by omega, by omega, by omega⟩)
      generalize wr.drew = wd at *
      obtain ⟨a0, a1, a2, a3⟩ := kA.c4
      have f0 := kA.frozen 0
      have f1 := kA.frozen 1
      have f2 := kA.frozen 2
      have f3 := kA.frozen 3
      have za : ga < wd.heap.size := kA.lt
      refine wpAnyH_ready (rs := [2]) (by kernel_rfl) (by simp) ?_
      refine AllReadyH.cons (o := ⟨_, _, _, _, _, _⟩) rfl (fun KQ hKQ => ?_) AllReadyH.nil
      go_simp
      have kA4 : Blk ((((wd.setCell ⟨ga, 0, none⟩ (.slice Au m cu)).setCell ⟨ga, 1, none⟩ (.slice A2 lg c2)).setCell ⟨ga, 2, none⟩ (.slice A3 lf c3)).setCell ⟨ga, 3, none⟩ (.slice A4 le c4)) ga 30 #[.slice Au m cu, .slice A2 lg c2, .slice A3 lf c3, .slice A4 le c4] := ((((kA.set_ 0 (.slice Au m cu)).set_ 1 (.slice A2 lg c2)).set_ 2 (.slice A3 lf c3)).set_ 3 (.slice A4 le c4))
      have hk4 : ∀ k, k ≠ ga → (((((wd.setCell ⟨ga, 0, none⟩ (.slice Au m cu)).setCell ⟨ga, 1, none⟩ (.slice A2 lg c2)).setCell ⟨ga, 2, none⟩ (.slice A3 lf c3)).setCell ⟨ga, 3, none⟩ (.slice A4 le c4))).heap[k]? = wd.heap[k]? := fun k hk => set4_far _ _ _ _ hk
      have hB4 : Below w.heap.size w ((((wd.setCell ⟨ga, 0, none⟩ (.slice Au m cu)).setCell ⟨ga, 1, none⟩ (.slice A2 lg c2)).setCell ⟨ga, 2, none⟩ (.slice A3 lf c3)).setCell ⟨ga, 3, none⟩ (.slice A4 le c4)) := set4 hBd HN.out.2.2.2.2.2.1 (.slice Au m cu) (.slice A2 lg c2) (.slice A3 lf c3) (.slice A4 le c4)
      have hz4 : wd.heap.size ≤ ((((wd.setCell ⟨ga, 0, none⟩ (.slice Au m cu)).setCell ⟨ga, 1, none⟩ (.slice A2 lg c2)).setCell ⟨ga, 2, none⟩ (.slice A3 lf c3)).setCell ⟨ga, 3, none⟩ (.slice A4 le c4)).heap.size := by simp [World.setCell]
      generalize ((((wd.setCell ⟨ga, 0, none⟩ (.slice Au m cu)).setCell ⟨ga, 1, none⟩ (.slice A2 lg c2)).setCell ⟨ga, 2, none⟩ (.slice A3 lf c3)).setCell ⟨ga, 3, none⟩ (.slice A4 le c4)) = we at *
      have kF5 : Blk we gf 35 #[.int .i64 0, .int .i64 0, .int .i64 0, .int .i64 0, .int .i64 0, .int .i64 0, .int .i64 0] := (hk4 gf HN.out.1).trans kF
      have hU4 := own_blocks hUd (fun k hk => hk4 k (fun e => by subst e; exact own_ne hUd kA (by decide) hk))
      have hO4 := own_blocks hOd (fun k hk => hk4 k (fun e => by subst e; exact own_ne hOd kA (by decide) hk))
      have hE4 := own_blocks hEd (fun k hk => hk4 k (fun e => by subst e; exact own_ne hEd kA (by decide) hk))
      have hT4 : 0 < lf → A3 = some ⟨q, 0, none⟩ ∧ CpT w0 lo T we q (M.funcs.map (fnG F)) := fun hp => ⟨(hTd hp).1, (hTd hp).2.kept hz4 (fun k hk _ => hk4 k (HN2.out hp k hk).1)⟩
      clear hz4
      have kC5 : Blk we gc 30 #[.slice Au m cu, .slice A2 lg c2, .slice A3 lf c3, .slice A4 le c4] := (hk4 gc HN.out.2.1).trans hHeld.1
      have kX5 : Blk we gx 35 #[.int .i64 0, .int .i64 0, .int .i64 0, .int .i64 0, .int .i64 0, .int .i64 (-1), .int .i64 (-1)] := (hk4 gx HN.out.2.2.1).trans hHeld.2
      refine hKQ.out _ _ ⟨kC5, kX5⟩ (fun _ => ?_)
      clear hKQ KQ a0 a1 a2 a3 f0 f1 f2 f3 za hk4
      try simp only [Act.put, List.setIfInBounds_toArray, List.set_cons_zero, List.set_cons_succ]
      obtain ⟨a0, a1, a2, a3, a4, a5, a6⟩ := kF5.c7
      have f0 := kF5.frozen 0
      have f1 := kF5.frozen 1
      have f2 := kF5.frozen 2
      have f3 := kF5.frozen 3
      have f4 := kF5.frozen 4
      have f5 := kF5.frozen 5
      have f6 := kF5.frozen 6
      have zf : gf < we.heap.size := kF5.lt
      refine wpAnyH_ready (rs := [3]) (by kernel_rfl) (by simp) ?_
      refine AllReadyH.cons (o := ⟨_, _, _, _, _, _⟩) rfl (fun KQ hKQ => ?_) AllReadyH.nil
      go_simp
      have kF6 : Blk (((((((we.setCell ⟨gf, 0, none⟩ (.int .i64 0)).setCell ⟨gf, 1, none⟩ (.int .i64 0)).setCell ⟨gf, 2, none⟩ (.int .i64 0)).setCell ⟨gf, 3, none⟩ (.int .i64 0)).setCell ⟨gf, 4, none⟩ (.int .i64 0)).setCell ⟨gf, 5, none⟩ (.int .i64 (-1))).setCell ⟨gf, 6, none⟩ (.int .i64 (-1))) gf 35 #[.int .i64 0, .int .i64 0, .int .i64 0, .int .i64 0, .int .i64 0, .int .i64 (-1), .int .i64 (-1)] := (((((((kF5.set_ 0 (.int .i64 0)).set_ 1 (.int .i64 0)).set_ 2 (.int .i64 0)).set_ 3 (.int .i64 0)).set_ 4 (.int .i64 0)).set_ 5 (.int .i64 (-1))).set_ 6 (.int .i64 (-1)))
      have hk6 : ∀ k, k ≠ gf → ((((((((we.setCell ⟨gf, 0, none⟩ (.int .i64 0)).setCell ⟨gf, 1, none⟩ (.int .i64 0)).setCell ⟨gf, 2, none⟩ (.int .i64 0)).setCell ⟨gf, 3, none⟩ (.int .i64 0)).setCell ⟨gf, 4, none⟩ (.int .i64 0)).setCell ⟨gf, 5, none⟩ (.int .i64 (-1))).setCell ⟨gf, 6, none⟩ (.int .i64 (-1)))).heap[k]? = we.heap[k]? := fun k hk => set7_far _ _ _ _ _ _ _ hk
      have hB6 : Below w.heap.size w (((((((we.setCell ⟨gf, 0, none⟩ (.int .i64 0)).setCell ⟨gf, 1, none⟩ (.int .i64 0)).setCell ⟨gf, 2, none⟩ (.int .i64 0)).setCell ⟨gf, 3, none⟩ (.int .i64 0)).setCell ⟨gf, 4, none⟩ (.int .i64 0)).setCell ⟨gf, 5, none⟩ (.int .i64 (-1))).setCell ⟨gf, 6, none⟩ (.int .i64 (-1))) := set7 hB4 HN.out.2.2.2.2.2.2 (.int .i64 0) (.int .i64 0) (.int .i64 0) (.int .i64 0) (.int .i64 0) (.int .i64 (-1)) (.int .i64 (-1))
      have hz6 : we.heap.size ≤ (((((((we.setCell ⟨gf, 0, none⟩ (.int .i64 0)).setCell ⟨gf, 1, none⟩ (.int .i64 0)).setCell ⟨gf, 2, none⟩ (.int .i64 0)).setCell ⟨gf, 3, none⟩ (.int .i64 0)).setCell ⟨gf, 4, none⟩ (.int .i64 0)).setCell ⟨gf, 5, none⟩ (.int .i64 (-1))).setCell ⟨gf, 6, none⟩ (.int .i64 (-1))).heap.size := by simp [World.setCell]
      generalize (((((((we.setCell ⟨gf, 0, none⟩ (.int .i64 0)).setCell ⟨gf, 1, none⟩ (.int .i64 0)).setCell ⟨gf, 2, none⟩ (.int .i64 0)).setCell ⟨gf, 3, none⟩ (.int .i64 0)).setCell ⟨gf, 4, none⟩ (.int .i64 0)).setCell ⟨gf, 5, none⟩ (.int .i64 (-1))).setCell ⟨gf, 6, none⟩ (.int .i64 (-1))) = wf at *
      have hU6 := own_blocks hU4 (fun k hk => hk6 k (fun e => by subst e; exact own_ne hU4 kF5 (by decide) hk))
      have hO6 := own_blocks hO4 (fun k hk => hk6 k (fun e => by subst e; exact own_ne hO4 kF5 (by decide) hk))
      have hE6 := own_blocks hE4 (fun k hk => hk6 k (fun e => by subst e; exact own_ne hE4 kF5 (by decide) hk))
      have hT6 : 0 < lf → A3 = some ⟨q, 0, none⟩ ∧ CpT w0 lo T wf q (M.funcs.map (fnG F)) := fun hp => ⟨(hT4 hp).1, (hT4 hp).2.kept hz6 (fun k hk _ => hk6 k (HN2.out hp k hk).2)⟩
      clear hz6
      have kA6 : Blk wf ga 30 #[.slice Au m cu, .slice A2 lg c2, .slice A3 lf c3, .slice A4 le c4] := (hk6 ga (Ne.symm HN.out.1)).trans kA4
      have kC6 : Blk wf gc 30 #[.slice Au m cu, .slice A2 lg c2, .slice A3 lf c3, .slice A4 le c4] := (hk6 gc HN.out.2.2.2.1).trans kC5
      have kX6 : Blk wf gx 35 #[.int .i64 0, .int .i64 0, .int .i64 0, .int .i64 0, .int .i64 0, .int .i64 (-1), .int .i64 (-1)] := (hk6 gx HN.out.2.2.2.2.1).trans kX5
      refine hKQ.out _ _ ⟨kC6, kX6⟩ (fun _ => ?_)
      clear hKQ KQ a0 a1 a2 a3 a4 a5 a6 f0 f1 f2 f3 f4 f5 f6 zf hk6
      try simp only [Act.put, List.setIfInBounds_toArray, List.set_cons_zero, List.set_cons_succ]
      refine wpAnyH_done (by kernel_rfl) ?_ _
      have HEnd := Lib.hid (And.intro kA6 (And.intro kF6 (And.intro hU6 (And.intro hO6 (And.intro hE6 (And.intro hT6 hB6))))))
      clear kA6 kF6 hU6 hO6 hE6 hT6 hB6 kC6 kX6 kF5 kC5 kX5 hU4 hO4 hE4 hT4 hB4 kA4 kA kF hUd hOd hEd hTd hBd hHeld HN
      go_wp2
      obtain ⟨kA, kF, hU, hO, hE, hT, hB⟩ := HEnd.out
      obtain ⟨r0, r1, r2, r3⟩ := kA.c4
      obtain ⟨s0, s1, s2, s3, s4, s5, s6⟩ := kF.c7
      refine bodyPost_ret (v := .tuple #[.agg #[.slice Au m cu, .slice A2 lg c2, .slice A3 lf c3, .slice A4 le c4], .agg #[.int .i64 0, .int .i64 0, .int .i64 0, .int .i64 0, .int .i64 0, .int .i64 (-1), .int .i64 (-1)]]) (by simp [results, Try.results26, go_sem, r0, r1, r2, r3, s0, s1, s2, s3, s4, s5, s6]) rfl ?_
      obtain ⟨e1, e2, e3, e4, e5⟩ := HL.out
      refine ⟨Au, cu, A2, c2, A3, c3, A4, c4, ?_, ?_, ?_, ?_, fun hp => ?_, hB⟩
      · rw [← e4, ← e2, ← e5, ← e3]; simp [faultV]
      · rw [← e4]; exact (RdS.own hU).below (fun _ _ => trivial)
      · rw [← e2]; exact (RdS.own hO).below (fun _ _ => trivial)
      · rw [← e3]; exact (RdS.own hE).below (fun _ _ => trivial)
      · obtain ⟨h1, h2⟩ := hT (by omega)
        rw [show w0 = w.heap.size from HW0.out] at h2
        exact ⟨lo, q, T, h1, h2⟩
end Go.Proofs.Ytpdebnecfknohaa
namespace Go.Proofs.Ytpdebnecfknohaa
open Go.RowKit
set_option linter.unusedVariables false
set_option linter.unusedSimpArgs false
theorem used_iff (g : List Int) (L : List Fn) (n : Int) : usedF g L n = true ↔ n ∈ usedI g L L.length := by
  unfold usedF usedI
  rw [List.take_length]
  simp only [Bool.or_eq_true, List.any_eq_true, beq_iff_eq, List.mem_append, List.mem_flatten, List.mem_map]
  constructor
  · rintro (⟨x, hx, rfl⟩ | ⟨f, hf, (h | ⟨x, hx, rfl⟩) | ⟨x, hx, rfl⟩⟩)
    · exact .inl hx
    · exact .inr ⟨_, ⟨f, hf, rfl⟩, by rw [← h]; simp⟩
    · exact .inr ⟨_, ⟨f, hf, rfl⟩, by simp [hx]⟩
    · exact .inr ⟨_, ⟨f, hf, rfl⟩, by simp [hx]⟩
  · rintro (h | ⟨_, ⟨f, hf, rfl⟩, h⟩)
    · exact .inl ⟨n, h, rfl⟩
    · refine .inr ⟨f, hf, ?_⟩
      simp only [List.mem_cons, List.mem_append] at h
      rcases h with h | h | h
      · exact .inl (.inl h.symm)
      · exact .inl (.inr ⟨n, h, rfl⟩)
      · exact .inr ⟨n, h, rfl⟩
theorem strF_in (strs : List (List UInt8)) (n : Int) (h : 0 ≤ n ∧ n < (strs.length : Int)) : strF strs n = strs.getD n.toNat [] := by
  unfold strF
  rw [if_pos h]
theorem us_mem (strs : List (List UInt8)) (U : List Int) (x : List UInt8) : x ∈ usS strs U ↔ ∃ n ∈ U, strF strs n = x := by
  unfold usS
  rw [srt_mem, addsF_mem]
  simp [List.mem_map]
theorem us_rising (strs : List (List UInt8)) (U : List Int) : Rising (usS strs U) := srt_rising _ (addsF_nodup _ _ List.nodup_nil)
theorem us_len (strs : List (List UInt8)) (U : List Int) : (usS strs U).length ≤ U.length := by
  unfold usS
  rw [srt_len]
  have := addsF_len (U.map (strF strs)) []
  simpa using this
theorem us_canl (M : Md) (hr : ∀ n ∈ usedI M.globs M.funcs M.funcs.length, 0 ≤ n ∧ n < (M.strs.length : Int)) : usS M.strs (usedI M.globs M.funcs M.funcs.length) = canl M := by
  obtain ⟨h1, h2⟩ := canL_spec M.globs M.funcs M.strs M.strs.length (Nat.le_refl _)
  refine rising_eq (us_rising _ _) h1 (fun x => ?_)
  rw [us_mem, show canl M = canL M.globs M.funcs M.strs M.strs.length from rfl, h2]
  constructor
  · rintro ⟨n, hn, rfl⟩
    have h3 := hr n hn
    have hj : n.toNat < M.strs.length := by omega
    refine ⟨n.toNat, hj, hj, ?_, ?_⟩
    · rw [show ((n.toNat : Nat) : Int) = n by omega, used_iff]; exact hn
    · rw [strF_in _ _ h3, List.getD_eq_getElem?_getD, List.getElem?_eq_getElem hj]; rfl
  · rintro ⟨j, hj, _, h3, rfl⟩
    refine ⟨(j : Int), (used_iff _ _ _).1 h3, ?_⟩
    rw [strF_in _ _ ⟨by omega, by omega⟩, List.getD_eq_getElem?_getD]
    simp [hj]
/-- The module that Of makes is the reference's. -/
theorem ofM_can (M : Md) (hr : ∀ n ∈ usedI M.globs M.funcs M.funcs.length, 0 ≤ n ∧ n < (M.strs.length : Int)) :
    Md.mk (canl M) (M.globs.map (nmG (canl M) M.strs)) (M.funcs.map (fnG (nmG (canl M) M.strs))) M.ents = canM M := by
  have hn : ∀ n ∈ usedI M.globs M.funcs M.funcs.length, nmG (canl M) M.strs n = numF (canl M) (M.strs.getD n.toNat []) 0 := fun n hn => by
    unfold nmG
    rw [strF_in _ _ (hr n hn)]
  have hl : ∀ l : List Int, (∀ n ∈ l, n ∈ usedI M.globs M.funcs M.funcs.length) → l.map (nmG (canl M) M.strs) = numsF (canl M) M.strs l := fun l hl => List.map_congr_left (fun n h => hn n (hl n h))
  unfold canM
  congr 1
  · exact hl _ (fun n h => by unfold usedI; exact List.mem_append_left _ h)
  · refine List.map_congr_left (fun f hf => ?_)
    have hU : ∀ n ∈ f.name :: (f.locals ++ f.sites), n ∈ usedI M.globs M.funcs M.funcs.length := fun n h => by
      unfold usedI
      rw [List.take_length]
      exact List.mem_append_right _ (List.mem_flatten.2 ⟨_, List.mem_map.2 ⟨f, hf, rfl⟩, h⟩)
    unfold fnG canFn
    rw [hl _ (fun n h => hU n (by simp [h])), hl _ (fun n h => hU n (by simp [h])), hn _ (hU _ (by simp))]
/-- What Of leaves beside no fault, told by the reference's module. -/
def OfC (w : World) (M : Md) (e : Ending) (w' : World) : Prop :=
  ∃ A1 c1 A2 c2 A3 c3 A4 c4, e = .returned (.tuple #[.agg #[.slice A1 (canM M).strs.length c1, .slice A2 (canM M).globs.length c2, .slice A3 (canM M).funcs.length c3, .slice A4 (canM M).ents.length c4], faultV 0 (-1) (-1)]) ∧ MdR w' A1 A2 A3 A4 (canM M) ∧
  (0 < (canM M).funcs.length → ∃ lo q T, A3 = some ⟨q, 0, none⟩ ∧ CpT w.heap.size lo T w' q (canM M).funcs) ∧ Below w.heap.size w w'
theorem of_can (M : Md) (As Ag Af Ae : Option Addr) (cs cg cf ce : Nat) (w : World) (hW : M.Wf) (hFit : M.Fit) (hsz : ∀ f ∈ M.funcs, f.body.size ≤ 1000 ∧ f.body.wide ≤ 1000) (hT : treeF M = (0, -1, -1)) (h : MdR w As Ag Af Ae M)
    (hU : (usedI M.globs M.funcs M.funcs.length).length ≤ 90000) (hr : ∀ n ∈ usedI M.globs M.funcs M.funcs.length, 0 ≤ n ∧ n < (M.strs.length : Int)) (hs : ∀ n ∈ usedI M.globs M.funcs M.funcs.length, (strF M.strs n).length ≤ 100000) :
    Calls Try.prog 26 #[.agg #[.slice As M.strs.length cs, .slice Ag M.globs.length cg, .slice Af M.funcs.length cf, .slice Ae M.ents.length ce]] w (OfC w M) := by
  have hZ := us_canl M hr
  have hl := us_len M.strs (usedI M.globs M.funcs M.funcs.length)
  rw [hZ] at hl
  refine (of_any M (canl M) As Ag Af Ae cs cg cf ce w hW hFit hsz hT h hZ.symm (by omega) (by rw [← hZ]; exact us_rising _ _) (fun n hn => by rw [← hZ, us_mem]; exact ⟨n, hn, rfl⟩) hU hr hs).mono ?_
  rintro e w' ⟨A1, c1, A2, c2, A3, c3, A4, c4, rfl, h1, h2, h3, h4, hb⟩
  have hM := ofM_can M hr
  refine ⟨A1, c1, A2, c2, A3, c3, A4, c4, ?_, ?_, ?_, hb⟩
  · rw [← hM]; simp
  · rw [← hM]
    refine ⟨h1, by simpa using h2, fun hp => ?_, h3⟩
    obtain ⟨lo, q, T, hA, hC⟩ := h4 (by simpa using hp)
    have := hC.back.reads
    rw [hA]
    exact this hp
  · rw [← hM]
    intro hp
    exact h4 (by simpa using hp)
end Go.Proofs.Ytpdebnecfknohaa
namespace Go.Proofs.Ytpdebnecfknohaa
open Go.RowKit
set_option linter.unusedVariables false
set_option linter.unusedSimpArgs false
theorem nm_ok (L : List (List UInt8)) : ∀ (l : List Int) (seen : List (List UInt8)), nmF L seen l = 0 → ∀ n ∈ l, (0 ≤ n ∧ n < (L.length : Int)) ∧ (strF L n).length ≤ 40
  | [], _, _, n, hn => by simp at hn
  | x :: l, seen, h, n, hn => by
    rw [nmF] at h
    split at h
    · omega
    · rename_i h1
      split at h
      · omega
      · rcases List.mem_cons.1 hn with rfl | hn
        · refine ⟨?_, by omega⟩
          by_cases hr : 0 ≤ n ∧ n < (L.length : Int)
          · exact hr
          · have : strF L n = [] := by unfold strF; rw [if_neg hr]
            rw [this] at h1
            simp at h1
        · exact nm_ok L l _ h n hn
theorem func_ok (S : List (List UInt8)) (f : Fn) (h : funcF S f = 0) : f.locals.length ≤ 40 ∧ f.sites.length ≤ 40 ∧ nmF S [] f.locals = 0 ∧ nmF S [] f.sites = 0 ∧ 0 ≤ roomF f.body 400 := by
  unfold funcF at h
  split at h
  · omega
  · split at h
    · omega
    · split at h
      · omega
      · exact ⟨by omega, by omega, by omega, by omega, by omega⟩
theorem funcs_ok (M : Md) : ∀ (fs : List Fn) (i : Nat), funcsF M i fs = (0, -1, -1) → ∀ f ∈ fs, funcF M.strs f = 0
  | [], _, _, f, hf => by simp at hf
  | x :: fs, i, h, f, hf => by
    rw [funcsF] at h
    split at h
    · rename_i h1
      have := congrArg Prod.fst h
      exact absurd this h1
    · rename_i h1
      split at h
      · rename_i h2
        have := congrArg Prod.fst h
        exact absurd this h2
      · rcases List.mem_cons.1 hf with rfl | hf
        · omega
        · exact funcs_ok M fs _ h f hf
theorem flat_len : ∀ (fs : List Fn), (∀ f ∈ fs, f.locals.length ≤ 40 ∧ f.sites.length ≤ 40) → ((fs.map fun f => f.name :: (f.locals ++ f.sites)).flatten).length ≤ 81 * fs.length
  | [], _ => by simp
  | f :: fs, h => by
    have h1 := flat_len fs (fun g hg => h g (List.mem_cons_of_mem _ hg))
    have h2 := h f (by simp)
    simp only [List.map_cons, List.flatten_cons, List.length_append, List.length_cons] at h1 ⊢
    omega
/-- What the rules of trees say of names. -/
theorem tree_ok (M : Md) (h : treeF M = (0, -1, -1)) : (∀ n ∈ usedI M.globs M.funcs M.funcs.length, (0 ≤ n ∧ n < (M.strs.length : Int)) ∧ (strF M.strs n).length ≤ 40) ∧ (usedI M.globs M.funcs M.funcs.length).length ≤ 3280 ∧ M.globs.length ≤ 40 ∧ M.funcs.length ≤ 40 ∧ M.ents.length ≤ 40 ∧ ∀ f ∈ M.funcs, f.locals.length ≤ 40 ∧ f.sites.length ≤ 40 ∧ 0 ≤ roomF f.body 400 := by
  unfold treeF at h
  split at h
  · rename_i h1
    have := congrArg Prod.fst h
    exact absurd this h1
  · rename_i h1
    have hm : modF M = 0 := by omega
    have hf := funcs_ok M M.funcs 0 h
    unfold modF at hm
    split at hm
    · omega
    · rename_i h2
      split at hm
      · omega
      · rename_i h3
        split at hm
        · omega
        · rename_i h4
          have hF := fun f hfm => func_ok M.strs f (hf f hfm)
          refine ⟨fun n hn => ?_, ?_, by omega, by omega, by omega, fun f hfm => ⟨(hF f hfm).1, (hF f hfm).2.1, (hF f hfm).2.2.2.2⟩⟩
          · unfold usedI at hn
            rw [List.take_length] at hn
            rcases List.mem_append.1 hn with hn | hn
            · exact nm_ok M.strs M.globs [] (by omega) n hn
            · obtain ⟨l, hl, hnl⟩ := List.mem_flatten.1 hn
              obtain ⟨f, hfm, rfl⟩ := List.mem_map.1 hl
              obtain ⟨_, _, h6, h7, _⟩ := hF f hfm
              rcases List.mem_cons.1 hnl with rfl | hnl
              · exact nm_ok M.strs (namesL M.funcs) [] (by omega) _ (List.mem_map.2 ⟨f, hfm, rfl⟩)
              · rcases List.mem_append.1 hnl with hnl | hnl
                · exact nm_ok M.strs f.locals [] h6 n hnl
                · exact nm_ok M.strs f.sites [] h7 n hnl
          · have h5 := flat_len M.funcs (fun f hfm => ⟨(hF f hfm).1, (hF f hfm).2.1⟩)
            unfold usedI
            rw [List.take_length, List.length_append]
            omega
end Go.Proofs.Ytpdebnecfknohaa
namespace Go.Proofs.Ytpdebnecfknohaa
open Go.RowKit
set_option linter.unusedVariables false
set_option linter.unusedSimpArgs false
set_option maxRecDepth 20000
/-- Is each string greater than the one ahead of it, from a place on? -/
def risF (L : List (List UInt8)) (i : Nat) : Bool := (List.range (L.length - i)).all fun j => Op.bytesLess (L.getD (i + j - 1) []) (L.getD (i + j) [])
end Go.Proofs.Ytpdebnecfknohaa
namespace Go.Proofs.Ytpdebnecfknohaa
open Go.RowKit
set_option linter.unusedVariables false
set_option linter.unusedSimpArgs false
set_option maxRecDepth 20000
/-- Which strings are used, by the first of these numbers. -/
def markF (n : Nat) (l : List Int) : List Bool := (List.range n).map fun (i : Nat) => l.contains (i : Int)
def boolV (l : List Bool) : List Value := l.map Value.bool
end Go.Proofs.Ytpdebnecfknohaa
namespace Go.Proofs.Ytpdebnecfknohaa
open Go.RowKit
set_option linter.unusedVariables false
set_option linter.unusedSimpArgs false
set_option maxRecDepth 20000
/-- The first rule that a module breaks, of Tree's, then of the strings. -/
def checkF (M : Md) : Int × Int × Int := if (treeF M).1 ≠ 0 then treeF M else if (risF M.strs 1 && (markF M.strs.length (usedI M.globs M.funcs M.funcs.length)).all id) = true then (0, -1, -1) else (10, -1, -1)
theorem fault8 (r f s : Int) (h : r ≠ 0) : faultV r f s = .agg #[.int .i64 8, .int .i64 0, .int .i64 0, .int .i64 0, .int .i64 r, .int .i64 f, .int .i64 s] := by simp [faultV, h]
end Go.Proofs.Ytpdebnecfknohaa
namespace Go.Proofs.Ytpdebnecfknohaa
open Go.RowKit
set_option linter.unusedVariables false
set_option linter.unusedSimpArgs false
/-- A module whose names' numbers are others. -/
def renM (F : Int → Int) (S' : List (List UInt8)) (M : Md) : Md := ⟨S', M.globs.map F, M.funcs.map (fnG F), M.ents⟩
theorem renM_used (F : Int → Int) (S' : List (List UInt8)) (M : Md) : usedI (renM F S' M).globs (renM F S' M).funcs (renM F S' M).funcs.length = (usedI M.globs M.funcs M.funcs.length).map F := by
  unfold usedI renM
  simp only [List.take_length, List.map_append, List.map_flatten, List.map_map]
  congr 2
  refine List.map_congr_left (fun f _ => ?_)
  simp [fnG]
/-- Names come to the same strings. -/
def SameN (F : Int → Int) (S' : List (List UInt8)) (M : Md) : Prop := ∀ n ∈ usedI M.globs M.funcs M.funcs.length, strF S' (F n) = strF M.strs n
theorem nm_ren (F : Int → Int) (S S' : List (List UInt8)) : ∀ (l : List Int) (seen : List (List UInt8)), (∀ n ∈ l, strF S' (F n) = strF S n) → nmF S' seen (l.map F) = nmF S seen l
  | [], _, _ => rfl
  | n :: l, seen, h => by
    rw [List.map_cons, nmF, nmF, h n (by simp), nm_ren F S S' l _ (fun m hm => h m (by simp [hm]))]
theorem used_glob {M : Md} {n : Int} (h : n ∈ M.globs) : n ∈ usedI M.globs M.funcs M.funcs.length := by unfold usedI; exact List.mem_append_left _ h
theorem used_fn {M : Md} {f : Fn} (hf : f ∈ M.funcs) {n : Int} (h : n ∈ f.name :: (f.locals ++ f.sites)) : n ∈ usedI M.globs M.funcs M.funcs.length := by
  unfold usedI
  rw [List.take_length]
  exact List.mem_append_right _ (List.mem_flatten.2 ⟨_, List.mem_map.2 ⟨f, hf, rfl⟩, h⟩)
theorem stmt_ren (F : Int → Int) (L : List Fn) (nl ng ns : Nat) (x : It) : stmtF (L.map (fnG F)) nl ng ns x = stmtF L nl ng ns x := by
  have h : arityF (L.map (fnG F)) x.k x.b1 x.b2 x.xs.length = arityF L x.k x.b1 x.b2 x.xs.length := by
    unfold arityF
    rw [List.getElem?_map, Option.map_map]
    rfl
  unfold stmtF
  rw [h, List.length_map]
theorem stmts_ren (F : Int → Int) (L : List Fn) (nl ng ns : Nat) : ∀ (l : List It) (i : Nat), stmtsF (L.map (fnG F)) nl ng ns i l = stmtsF L nl ng ns i l
  | [], _ => rfl
  | x :: l, i => by rw [stmtsF, stmtsF, stmt_ren, stmts_ren F L nl ng ns l]
theorem func_ren (F : Int → Int) (S S' : List (List UInt8)) (f : Fn) (h : ∀ n ∈ f.name :: (f.locals ++ f.sites), strF S' (F n) = strF S n) : funcF S' (fnG F f) = funcF S f := by
  unfold funcF fnG
  dsimp only
  rw [nm_ren F S S' f.locals [] (fun n hn => h n (by simp [hn])), nm_ren F S S' f.sites [] (fun n hn => h n (by simp [hn])), List.length_map, List.length_map]
theorem funcs_ren (F : Int → Int) (S' : List (List UInt8)) (M : Md) : ∀ (L : List Fn) (i : Nat), (∀ f ∈ L, ∀ n ∈ f.name :: (f.locals ++ f.sites), strF S' (F n) = strF M.strs n) → funcsF (renM F S' M) i (L.map (fnG F)) = funcsF M i L
  | [], _, _ => rfl
  | f :: L, i, h => by
    rw [List.map_cons, funcsF, funcsF, funcs_ren F S' M L (i + 1) (fun g hg => h g (by simp [hg]))]
    have h1 : funcF (renM F S' M).strs (fnG F f) = funcF M.strs f := func_ren F M.strs S' f (h f (by simp))
    have h2 : stmtsF (renM F S' M).funcs (fnG F f).locals.length (renM F S' M).globs.length (fnG F f).sites.length 0 ((fnG F f).body.flat 0) = stmtsF M.funcs f.locals.length M.globs.length f.sites.length 0 (f.body.flat 0) := by
      unfold renM fnG
      dsimp only
      rw [List.length_map, List.length_map, List.length_map]
      exact stmts_ren F M.funcs _ _ _ _ _
    rw [h1, h2]
theorem tree_ren (F : Int → Int) (S' : List (List UInt8)) (M : Md) (h : SameN F S' M) : treeF (renM F S' M) = treeF M := by
  have h1 : modF (renM F S' M) = modF M := by
    unfold modF
    have a1 : nmF S' [] (M.globs.map F) = nmF M.strs [] M.globs := nm_ren F M.strs S' M.globs [] (fun n hn => h n (used_glob hn))
    have a2 : nmF S' [] (namesL (M.funcs.map (fnG F))) = nmF M.strs [] (namesL M.funcs) := by
      rw [show namesL (M.funcs.map (fnG F)) = (namesL M.funcs).map F by unfold namesL; rw [List.map_map, List.map_map]; rfl]
      refine nm_ren F M.strs S' _ [] (fun n hn => ?_)
      obtain ⟨f, hf, rfl⟩ := List.mem_map.1 hn
      exact h _ (used_fn hf (by simp))
    unfold renM
    dsimp only
    rw [a1, a2, List.length_map, List.length_map]
  have h2 : funcsF (renM F S' M) 0 (renM F S' M).funcs = funcsF M 0 M.funcs := funcs_ren F S' M M.funcs 0 (fun f hf n hn => h n (used_fn hf hn))
  unfold treeF
  rw [h1, h2]
/-- What names come to, where strings rise and the name's is there. -/
theorem nmG_at {Z strs : List (List UInt8)} (hZ : Rising Z) {n : Int} (h : strF strs n ∈ Z) : 0 ≤ nmG Z strs n ∧ nmG Z strs n < (Z.length : Int) ∧ strF Z (nmG Z strs n) = strF strs n := by
  obtain ⟨j, hj, e⟩ := List.mem_iff_getElem.1 h
  have h1 : nmG Z strs n = (j : Int) := by
    unfold nmG
    rw [← e, numF_at Z j 0 hj (rising_nodup hZ)]
    simp
  refine ⟨by omega, by omega, ?_⟩
  rw [h1, strF_in _ _ ⟨by omega, by omega⟩, ← e]
  simp [List.getD_eq_getElem?_getD, hj]
theorem canl_rising (M : Md) : Rising (canl M) := (canL_spec M.globs M.funcs M.strs M.strs.length (Nat.le_refl _)).1
theorem canl_mem (M : Md) (hr : ∀ n ∈ usedI M.globs M.funcs M.funcs.length, 0 ≤ n ∧ n < (M.strs.length : Int)) (x : List UInt8) : x ∈ canl M ↔ ∃ n ∈ usedI M.globs M.funcs M.funcs.length, strF M.strs n = x := by
  rw [← us_canl M hr, us_mem]
/-- The one way to say it is one more renaming. -/
theorem can_is_ren (M : Md) (hr : ∀ n ∈ usedI M.globs M.funcs M.funcs.length, 0 ≤ n ∧ n < (M.strs.length : Int)) : canM M = renM (nmG (canl M) M.strs) (canl M) M := (ofM_can M hr).symm
theorem can_same (M : Md) (hr : ∀ n ∈ usedI M.globs M.funcs M.funcs.length, 0 ≤ n ∧ n < (M.strs.length : Int)) : SameN (nmG (canl M) M.strs) (canl M) M := fun n hn => (nmG_at (canl_rising M) ((canl_mem M hr _).2 ⟨n, hn, rfl⟩)).2.2
theorem can_tree (M : Md) (hT : treeF M = (0, -1, -1)) : treeF (canM M) = (0, -1, -1) := by
  have hr := fun n hn => ((tree_ok M hT).1 n hn).1
  rw [can_is_ren M hr, tree_ren _ _ _ (can_same M hr), hT]
theorem ris_of {l : List (List UInt8)} (h : Rising l) : risF l 1 = true := by
  unfold risF
  rw [List.all_eq_true]
  intro j hj
  have hj := List.mem_range.1 hj
  have h1 : 1 + j - 1 < l.length := by omega
  have h2 : 1 + j < l.length := by omega
  have h3 := List.pairwise_iff_getElem.1 h (1 + j - 1) (1 + j) h1 h2 (by omega)
  rw [List.getD_eq_getElem?_getD, List.getElem?_eq_getElem h1, List.getD_eq_getElem?_getD, List.getElem?_eq_getElem h2, Go.Proofs.bytesLess_eq]
  exact decide_eq_true h3
theorem can_check (M : Md) (hT : treeF M = (0, -1, -1)) : checkF (canM M) = (0, -1, -1) := by
  have hr := fun n hn => ((tree_ok M hT).1 n hn).1
  have h1 := can_tree M hT
  unfold checkF
  rw [if_neg (by rw [h1]; simp), if_pos]
  rw [Bool.and_eq_true]
  refine ⟨ris_of (canl_rising M), ?_⟩
  have hu : usedI (canM M).globs (canM M).funcs (canM M).funcs.length = (usedI M.globs M.funcs M.funcs.length).map (nmG (canl M) M.strs) := by
    rw [can_is_ren M hr]; exact renM_used _ _ _
  rw [hu]
  unfold markF
  rw [List.all_map, List.all_eq_true]
  intro i hi
  have hi : i < (canl M).length := List.mem_range.1 hi
  obtain ⟨n, hn, e⟩ := (canl_mem M hr _).1 (List.getElem_mem hi)
  have h2 : nmG (canl M) M.strs n = (i : Int) := by
    unfold nmG
    rw [e, numF_at _ i 0 hi (rising_nodup (canl_rising M))]
    simp
  have : (i : Int) ∈ (usedI M.globs M.funcs M.funcs.length).map (nmG (canl M) M.strs) := List.mem_map.2 ⟨n, hn, h2⟩
  simpa using this
theorem funcsF_none (M : Md) : ∀ (L : List Fn) (i : Nat), (funcsF M i L).1 = 0 → funcsF M i L = (0, -1, -1)
  | [], _, _ => rfl
  | f :: L, i, h => by
    rw [funcsF] at h ⊢
    split at h
    · rename_i h1; exact absurd h h1
    · rename_i h1
      rw [if_neg h1]
      split at h
      · rename_i h2; exact absurd h h2
      · rename_i h2
        rw [if_neg h2]
        exact funcsF_none M L _ h
end Go.Proofs.Ytpdebnecfknohaa
namespace Go.Proofs.Ytpdebnecfknohaa
open Go.RowKit
set_option linter.unusedVariables false
set_option linter.unusedSimpArgs false
set_option maxRecDepth 20000
theorem Blk.c3 {w : World} {g t : Nat} {a b c : Value} (h : Blk w g t #[a, b, c]) : w.cell? ⟨g, 0, none⟩ = some a ∧ w.cell? ⟨g, 1, none⟩ = some b ∧ w.cell? ⟨g, 2, none⟩ = some c := ⟨h.cell 0, h.cell 1, h.cell 2⟩
/-- The new number of one. -/
def turnF (n k m : Nat) (i : Int) : Int := (m : Int) + (i - (k : Int) + (n : Int)) % (n : Int)
end Go.Proofs.Ytpdebnecfknohaa
namespace Go.Proofs.Ytpdebnecfknohaa
open Go.RowKit
set_option linter.unusedVariables false
set_option maxRecDepth 20000
/-- What a module has that was made. -/
structure Md.Made (M : Md) : Prop where
  small : M.Small
  fit : M.Fit
  strs : 0 < M.strs.length
  locs : ∀ f ∈ M.funcs, 0 < f.locals.length
  nums : ∀ f ∈ M.funcs, -1000000 ≤ f.name ∧ f.name ≤ 1000000 ∧ -1000000 ≤ f.params ∧ f.params ≤ 1000000
end Go.Proofs.Ytpdebnecfknohaa
namespace Go.Proofs.Ytpdebnecfknohaa
open Go.RowKit
set_option linter.unusedVariables false
set_option maxRecDepth 20000
/-- A module of the call's own, in a box. -/
structure YI (w4 wc : World) (q8 : Nat) (N : Md) (Bs Bg Bf Be : Option Addr) (ds dg df de : Nat) : Prop where
  box : Blk wc q8 30 #[.slice Bs N.strs.length ds, .slice Bg N.globs.length dg, .slice Bf N.funcs.length df, .slice Be N.ents.length de]
  qin : w4.heap.size ≤ q8
  strs : wc.ownsRow w4.heap.size 9 1 (.slice Bs N.strs.length ds) N.strs.length (strV N.strs)
  globs : wc.ownsRow w4.heap.size 3 1 (.slice Bg N.globs.length dg) N.globs.length (intV N.globs)
  fns : FnRow wc w4.heap.size (fun k => w4.heap.size ≤ k ∧ k ≠ q8) (.slice Bf N.funcs.length df) N.funcs
  ents : wc.ownsRow w4.heap.size 3 1 (.slice Be N.ents.length de) N.ents.length (intV N.ents)
  bel : Below w4.heap.size w4 wc
  made : N.Made
/-- A module that is read, in a box. -/
def Yz (w4 wz : World) (q8 : Nat) : Prop := ∃ (N : Md) (Bs Bg Bf Be : Option Addr) (ds dg df de : Nat), Blk wz q8 30 #[.slice Bs N.strs.length ds, .slice Bg N.globs.length dg, .slice Bf N.funcs.length df, .slice Be N.ents.length de] ∧ MdR wz Bs Bg Bf Be N ∧ N.Fit ∧ 0 < N.funcs.length ∧ Below w4.heap.size w4 wz
theorem FnRow.fns {w : World} {base : Nat} {X : Nat → Prop} {A : Option Addr} {n c : Nat} {L : List Fn} (h : FnRow w base X (.slice A n c) L) : FnsS (fun _ => True) w A L := fun hp => by
  obtain ⟨q, rfl, _, _, _, _, _⟩ := h.at_ 0 hp
  refine ⟨q, 0, rfl, trivial, fun i hi => ?_⟩
  obtain ⟨q', hq', _, _, _, _, Al, cl, At, ct, Ab, cb, r1, r2, r3, hc⟩ := h.at_ i hi
  injection hq' with hq'
  injection hq' with hq'
  subst hq'
  refine ⟨[.int .i64 L[i].name, .int .i64 L[i].params, .slice Al L[i].locals.length cl, .slice At L[i].sites.length ct, .slice Ab L[i].body.len cb], ⟨Al, cl, At, ct, Ab, cb, rfl, r1.below (fun _ _ => trivial), r2.below (fun _ _ => trivial), r3.kept (fun _ _ _ => rfl) (fun _ _ _ => trivial)⟩, fun j u hj => by rw [Nat.zero_add]; exact hc j u hj⟩
theorem YI.read {w4 wc : World} {q8 : Nat} {N : Md} {Bs Bg Bf Be : Option Addr} {ds dg df de : Nat} (h : YI w4 wc q8 N Bs Bg Bf Be ds dg df de) : MdR wc Bs Bg Bf Be N :=
  ⟨(RdS.own h.strs).below (fun _ _ => trivial), (RdS.own h.globs).below (fun _ _ => trivial), h.fns.fns, (RdS.own h.ents).below (fun _ _ => trivial)⟩
theorem YI.done {w4 wc : World} {q8 : Nat} {N : Md} {Bs Bg Bf Be : Option Addr} {ds dg df de : Nat} (h : YI w4 wc q8 N Bs Bg Bf Be ds dg df de) : Yz w4 wc q8 :=
  ⟨N, Bs, Bg, Bf, Be, ds, dg, df, de, h.box, h.read, h.made.fit, h.made.small.fns.1, h.bel⟩
theorem MkPost.read {w w' : World} {M : Md} {e : Ending} (h : MkPost w M e w') : ∃ As cs Ag cg Af cf Ae ce, e = .returned (.agg #[.slice As M.strs.length cs, .slice Ag M.globs.length cg, .slice Af M.funcs.length cf, .slice Ae M.ents.length ce]) ∧ MdR w' As Ag Af Ae M ∧ Below w.heap.size w w' := by
  obtain ⟨Al, cl, A2, c2, Ax, cx, Ae, ce, rfl, h1, h2, h3, h4, hb⟩ := h
  exact ⟨Al, cl, A2, c2, Ax, cx, Ae, ce, rfl, ⟨(RdS.own h1).below (fun _ _ => trivial), (RdS.own h2).below (fun _ _ => trivial), h3.fns, (RdS.own h4).below (fun _ _ => trivial)⟩, hb⟩
/-- What is read of the first function. -/
theorem YI.first {w4 wc : World} {q8 : Nat} {N : Md} {Bs Bg Bf Be : Option Addr} {ds dg df de : Nat} (h : YI w4 wc q8 N Bs Bg Bf Be ds dg df de) : ∃ (qf : Nat) (f : Fn) (l : List Fn) (Al : Option Addr) (cl : Nat) (At : Option Addr) (ct : Nat) (Ab : Option Addr) (cb : Nat), Bf = some ⟨qf, 0, none⟩ ∧ N.funcs = f :: l ∧ qf < wc.heap.size ∧ w4.heap.size ≤ qf ∧ qf ≠ q8 ∧ (0 < N.funcs.length ∧ N.funcs.length ≤ 4) ∧
    (wc.cell? ⟨qf, 0, none⟩ = some (.int .i64 f.name) ∧ wc.cell? ⟨qf, 1, none⟩ = some (.int .i64 f.params) ∧ wc.cell? ⟨qf, 2, none⟩ = some (.slice Al f.locals.length cl) ∧ wc.cell? ⟨qf, 3, none⟩ = some (.slice At f.sites.length ct) ∧ wc.cell? ⟨qf, 4, none⟩ = some (.slice Ab f.body.len cb)) ∧ (∀ o, wc.frozen? ⟨qf, o, none⟩ = false) ∧
    RdS (fun k => k ≠ qf) wc Al f.locals.length 1 (intV f.locals) ∧ RdS (fun k => k ≠ qf) wc At f.sites.length 1 (intV f.sites) ∧ BodyS (fun k => k ≠ qf) wc Ab f.body ∧ f.Fit ∧ 0 < f.locals.length ∧ (-1000000 ≤ f.name ∧ f.name ≤ 1000000 ∧ -1000000 ≤ f.params ∧ f.params ≤ 1000000) ∧ f.body.size ≤ 1000 ∧ f.body.wide ≤ 1000 := by
  have hp := h.made.small.fns
  obtain ⟨f, l, hfl⟩ : ∃ f l, N.funcs = f :: l := by
    cases hN : N.funcs with
    | nil => rw [hN] at hp; simp at hp
    | cons f l => exact ⟨f, l, rfl⟩
  obtain ⟨q, rfl, hq, hb, _, _, Al, cl, At, ct, Ab, cb, r1, r2, r3, hc⟩ := h.fns.at_ 0 hp.1
  have e0 : N.funcs[0]'hp.1 = f := by simp [hfl]
  rw [e0] at r1 r2 r3 hc
  have hm : f ∈ N.funcs := by rw [hfl]; simp
  obtain ⟨_, _, cur, hB⟩ := h.fns.blk q rfl
  have hne : ∀ k, (some k ≠ some q ∧ (w4.heap.size ≤ k ∧ k ≠ q8)) → k ≠ q := fun k hk e => hk.1 (by rw [e])
  refine ⟨q, f, l, Al, cl, At, ct, Ab, cb, rfl, hfl, hq, hb, fun e => ?_, hp, ⟨by simpa using hc 0 _ rfl, by simpa using hc 1 _ rfl, by simpa using hc 2 _ rfl, by simpa using hc 3 _ rfl, by simpa using hc 4 _ rfl⟩, fun o => hB.frozen o, r1.below hne, r2.below hne, r3.kept (fun _ _ _ => rfl) (fun k hk _ => hne k hk), h.made.fit.fns f hm, h.made.locs f hm, h.made.nums f hm, (h.made.small.body f hm).1, (h.made.small.body f hm).2⟩
  subst e
  exact absurd (hB.uniq h.box) (by decide)
/-- The strings are others. -/
theorem YI.names {w4 wc wA : World} {q8 : Nat} {N : Md} {Bs Bg Bf Be : Option Addr} {ds dg df de : Nat} (h : YI w4 wc q8 N Bs Bg Bf Be ds dg df de) (hb : Below wc.heap.size wc wA) (S : List (List UInt8)) (A : Option Addr) (n c : Nat) (hn : n = S.length) (hS : S.length ≤ 1000000) (hown : wA.ownsRow wc.heap.size 9 1 (.slice A n c) n (strV S)) : Yz w4 (wA.setCell ⟨q8, 0, none⟩ (.slice A n c)) q8 := by
  subst hn
  have hq := h.box.lt
  have hk : ∀ k, k < wc.heap.size → k ≠ q8 → (wA.setCell ⟨q8, 0, none⟩ (.slice A S.length c)).heap[k]? = wc.heap[k]? := fun k hk hne => (Below.heap_setCell wA _ _ k hne).trans (hb.block k hk)
  have own1 : ∀ {e m c' : Nat} {A' : Option Addr} {xs : List Value}, e ≠ 30 → wc.ownsRow w4.heap.size e 1 (.slice A' m c') m xs → RdS (fun _ => True) (wA.setCell ⟨q8, 0, none⟩ (.slice A S.length c)) A' m 1 xs := fun he ho => (RdS.own (own_blocks ho (fun k hk' => hk k (own_lt ho k hk') (fun e2 => by subst e2; exact own_ne ho h.box he hk')))).below (fun _ _ => trivial)
  refine ⟨⟨S, N.globs, N.funcs, N.ents⟩, A, Bg, Bf, Be, c, dg, df, de, ?_, ⟨?_, own1 (by decide) h.globs, ?_, own1 (by decide) h.ents⟩, ⟨hS, h.made.fit.globs, h.made.fit.funcs, h.made.fit.ents, h.made.fit.fns⟩, h.made.small.fns.1, Below.set1 (h.bel.trans (hb.mono h.bel.size)) h.qin _⟩
  · exact (h.box.old hb).set_ 0 _
  · exact (RdS.own (own_blocks hown (fun k hk' => Below.heap_setCell wA _ _ k (by have := own_ge hown k hk'; show k ≠ q8; omega)))).below (fun _ _ => trivial)
  · exact (h.fns.kept (X' := fun _ => True) (fun k hk' => hk k (h.fns.blk k hk').2.1 (fun e => by subst e; obtain ⟨_, _, cur, hB⟩ := h.fns.blk _ hk'; exact absurd (hB.uniq h.box) (by decide))) (fun k hk' hlt => hk k hlt hk'.2) (fun _ _ _ => trivial)).fns
end Go.Proofs.Ytpdebnecfknohaa
namespace Go.Proofs.Ytpdebnecfknohaa
open Go.RowKit
set_option linter.unusedVariables false
set_option linter.unusedSimpArgs false
set_option maxRecDepth 20000
/-- Strings turned about. -/
def rotF (l : List (List UInt8)) (k i : Nat) : List (List UInt8) := (List.range i).map fun j => l.getD ((j + k) % l.length) []
def shufM (M : Md) (tu : Nat) (more : List (List UInt8)) : Md := renM (turnF M.strs.length (tu % M.strs.length) more.length) (more ++ rotF M.strs (tu % M.strs.length) M.strs.length) M
/-- What shuffled leaves: a module that is read. -/
def ShB (w : World) (N : Md) (Ae : Option Addr) (ce : Nat) (e : Ending) (w' : World) : Prop :=
  ∃ A1 c1 A2 c2 A3 c3, e = .returned (.agg #[.slice A1 N.strs.length c1, .slice A2 N.globs.length c2, .slice A3 N.funcs.length c3, .slice Ae N.ents.length ce]) ∧ MdR w' A1 A2 A3 Ae N ∧ Below w.heap.size w w'
end Go.Proofs.Ytpdebnecfknohaa
namespace Go.Proofs.Ytpdebnecfknohaa
open Go.RowKit
set_option linter.unusedVariables false
set_option linter.unusedSimpArgs false
set_option maxRecDepth 20000
/-- A function without its body. -/
def noB (f : Fn) : Fn := ⟨f.name, f.params, f.locals, f.sites, .nil⟩
/-- The module without its bodies and entries. -/
def skelM (gs : List (List UInt8)) (gl : List Int) (F n : Nat) : Md := canM ⟨mkS gs F n, gl, mkL gs F n, []⟩
/-- All that is asked of names. -/
def namesOk (C : Md) (ng n F : Nat) : Bool :=
  C.globs.length == ng && C.funcs.length == n && nmF C.strs [] C.globs == 0 && nmF C.strs [] (namesL C.funcs) == 0 && risF C.strs 1 && (markF C.strs.length (usedI C.globs C.funcs C.funcs.length)).all id &&
  (List.range n).all fun i => match C.funcs[i]? with
    | none => false
    | some f => f.locals.length == nlF F i && f.sites.length == nsF i && f.params == (pF F i : Int) && nmF C.strs [] f.locals == 0 && nmF C.strs [] f.sites == 0
/-- The item of a statement. -/
def St7.it (s : St7) (d : Nat) : It := ⟨d, s.k, s.a.1, s.a.2, s.b.1, s.b.2, s.xs, s.sub⟩
end Go.Proofs.Ytpdebnecfknohaa
namespace Go.Proofs.Ytpdebnecfknohaa
open Go.RowKit
set_option linter.unusedVariables false
set_option linter.unusedSimpArgs false
set_option maxRecDepth 20000
/-- Of, of a module that breaks no rule of trees. -/
theorem of_ok (M : Md) (As Ag Af Ae : Option Addr) (cs cg cf ce : Nat) (w : World) (hW : M.Wf) (hFit : M.Fit) (hsz : ∀ f ∈ M.funcs, f.body.size ≤ 1000 ∧ f.body.wide ≤ 1000) (hT : treeF M = (0, -1, -1)) (h : MdR w As Ag Af Ae M) :
    Calls Try.prog 26 #[.agg #[.slice As M.strs.length cs, .slice Ag M.globs.length cg, .slice Af M.funcs.length cf, .slice Ae M.ents.length ce]] w (OfC w M) := by
  obtain ⟨h1, h2, _⟩ := tree_ok M hT
  exact of_can M As Ag Af Ae cs cg cf ce w hW hFit hsz hT h (by omega) (fun n hn => (h1 n hn).1) (fun n hn => by have := (h1 n hn).2; omega)
/-- Names that are others keep a module a module. -/
theorem ren_wf (F : Int → Int) (S' : List (List UInt8)) (M : Md) (hW : M.Wf) (hFit : M.Fit) (hS : S'.length ≤ 1000000) (hF : ∀ n ∈ usedI M.globs M.funcs M.funcs.length, -9223372036854775808 ≤ F n ∧ F n ≤ 9223372036854775807) : (renM F S' M).Wf ∧ (renM F S' M).Fit := by
  have hl : ∀ l : List Int, (∀ n ∈ l, n ∈ usedI M.globs M.funcs M.funcs.length) → WfI (l.map F) := fun l hl n hn => by
    obtain ⟨m, hm, rfl⟩ := List.mem_map.1 hn
    exact hF m (hl m hm)
  refine ⟨⟨hS, ⟨by simpa [renM] using hW.globs.1, hl _ (fun n h => used_glob h)⟩, hW.ents, by simpa [renM] using hW.funcs, fun f hf => ?_, fun n hn => ?_⟩, ⟨hS, by simpa [renM] using hFit.globs, by simpa [renM] using hFit.funcs, hFit.ents, fun f hf => ?_⟩⟩
  · obtain ⟨g, hg, rfl⟩ := List.mem_map.1 hf
    obtain ⟨_, _, w3, w4, w5, w6⟩ := hW.fns g hg
    exact ⟨hl _ (fun n h => used_fn hg (by simp [h])), hl _ (fun n h => used_fn hg (by simp [h])), by simpa [fnG] using w3, by simpa [fnG] using w4, w5, w6⟩
  · obtain ⟨f, hf, rfl⟩ := List.mem_map.1 hn
    obtain ⟨g, hg, rfl⟩ := List.mem_map.1 hf
    exact hF _ (used_fn hg (by simp))
  · obtain ⟨g, hg, rfl⟩ := List.mem_map.1 hf
    obtain ⟨f1, f2, f3, f4⟩ := hFit.fns g hg
    exact ⟨by simpa [fnG] using f1, by simpa [fnG] using f2, f3, f4⟩
theorem ren_size (F : Int → Int) (S' : List (List UInt8)) (M : Md) (h : ∀ f ∈ M.funcs, f.body.size ≤ 1000 ∧ f.body.wide ≤ 1000) : ∀ f ∈ (renM F S' M).funcs, f.body.size ≤ 1000 ∧ f.body.wide ≤ 1000 := fun f hf => by
  obtain ⟨g, hg, rfl⟩ := List.mem_map.1 hf
  exact h g hg
/-- All that is asked of a module that goes through Of. -/
structure Good (M : Md) : Prop where
  wf : M.Wf
  fit : M.Fit
  size : ∀ f ∈ M.funcs, f.body.size ≤ 1000 ∧ f.body.wide ≤ 1000
  tree : treeF M = (0, -1, -1)
theorem Good.names {M : Md} (h : Good M) : ∀ n ∈ usedI M.globs M.funcs M.funcs.length, 0 ≤ n ∧ n < (M.strs.length : Int) := fun n hn => ((tree_ok M h.tree).1 n hn).1
theorem Good.ren {M : Md} (h : Good M) (F : Int → Int) (S' : List (List UInt8)) (hS : S'.length ≤ 1000000) (hF : ∀ n ∈ usedI M.globs M.funcs M.funcs.length, 0 ≤ F n ∧ F n < (S'.length : Int)) (hs : SameN F S' M) : Good (renM F S' M) := by
  obtain ⟨h1, h2⟩ := ren_wf F S' M h.wf h.fit hS (fun n hn => by have := hF n hn; omega)
  exact ⟨h1, h2, ren_size F S' M h.size, by rw [tree_ren F S' M hs]; exact h.tree⟩
theorem Good.canl_le {M : Md} (h : Good M) : (canl M).length ≤ 3280 := by
  have h1 := us_len M.strs (usedI M.globs M.funcs M.funcs.length)
  rw [us_canl M h.names] at h1
  have := (tree_ok M h.tree).2.1
  omega
theorem Good.can {M : Md} (h : Good M) : Good (canM M) := by
  rw [can_is_ren M h.names]
  exact h.ren _ _ (by have := h.canl_le; omega) (fun n hn => by have := nmG_at (canl_rising M) ((canl_mem M h.names _).2 ⟨n, hn, rfl⟩); exact ⟨this.1, this.2.1⟩) (can_same M h.names)
/-- Of, of such a module. -/
theorem Good.of {M : Md} (g : Good M) (As Ag Af Ae : Option Addr) (cs cg cf ce : Nat) (w : World) (h : MdR w As Ag Af Ae M) :
    Calls Try.prog 26 #[.agg #[.slice As M.strs.length cs, .slice Ag M.globs.length cg, .slice Af M.funcs.length cf, .slice Ae M.ents.length ce]] w (OfC w M) := of_ok M As Ag Af Ae cs cg cf ce w g.wf g.fit g.size g.tree h
def MdA2 : Md := ⟨[[98], [99], [97]], [2, 0], [], []⟩
theorem mdA_tree2 : treeF MdA2 = (0, -1, -1) := by decide
theorem risA2 : Rising [[97], [98]] := by unfold Rising; decide
theorem mdA_us2 : usS MdA2.strs (usedI MdA2.globs MdA2.funcs MdA2.funcs.length) = [[97], [98]] := by
  unfold usS
  have e : addsF [] ((usedI MdA2.globs MdA2.funcs MdA2.funcs.length).map (strF MdA2.strs)) = [[97], [98]] := by decide
  rw [e]
  exact rising_eq (srt_rising _ (by decide)) risA2 (fun x => srt_mem _ x)
theorem mdA_wf2 : MdA2.Wf := ⟨by decide, ⟨by decide, by intro n hn; simp [MdA2] at hn; omega⟩, ⟨by decide, by intro n hn; simp [MdA2] at hn⟩, by decide, by intro f hf; simp [MdA2] at hf, by intro n hn; simp [MdA2, namesL] at hn⟩
theorem ofA_any2 (g1 g2 : Nat) (w : World) (c0 : w.cell? ⟨g1, 0, none⟩ = some (.string { data := #[98] })) (c1 : w.cell? ⟨g1, 1, none⟩ = some (.string { data := #[99] })) (c2 : w.cell? ⟨g1, 2, none⟩ = some (.string { data := #[97] })) (d0 : w.cell? ⟨g2, 0, none⟩ = some (.int .i64 2)) (d1 : w.cell? ⟨g2, 1, none⟩ = some (.int .i64 0)) :
    Calls Try.prog 26 #[.agg #[.slice (some ⟨g1, 0, none⟩) 3 3, .slice (some ⟨g2, 0, none⟩) 2 2, .slice none 0 0, .slice none 0 0]] w fun e w' => ∃ b1 o1 k1 b2 o2 k2 A3 k3 A4 k4, e = .returned (.tuple #[.agg #[.slice (some ⟨b1, o1, none⟩) 2 k1, .slice (some ⟨b2, o2, none⟩) 2 k2, .slice A3 0 k3, .slice A4 0 k4], .agg #[.int .i64 0, .int .i64 0, .int .i64 0, .int .i64 0, .int .i64 0, .int .i64 (-1), .int .i64 (-1)]]) ∧ w'.cell? ⟨b1, o1, none⟩ = some (.string { data := #[97] }) ∧ w'.cell? ⟨b2, o2 + 1, none⟩ = some (.int .i64 1) ∧ Below w.heap.size w w' := by
  have hr0 : RdS (fun _ => True) w none 0 1 [] := ⟨rfl, fun h => absurd h (by omega)⟩
  have hf0 : FnsS (fun _ => True) w none [] := fun h => absurd h (by simp)
  have hR : MdR w (some ⟨g1, 0, none⟩) (some ⟨g2, 0, none⟩) none none MdA2 :=
    ⟨⟨rfl, fun _ => ⟨g1, 0, rfl, trivial, fun j u hj => by
      match j with
      | 0 => simp [MdA2, strV, bs] at hj; subst hj; exact c0
      | 1 => simp [MdA2, strV, bs] at hj; subst hj; exact c1
      | 2 => simp [MdA2, strV, bs] at hj; subst hj; exact c2
      | j + 3 => simp [MdA2, strV] at hj⟩⟩, ⟨rfl, fun _ => ⟨g2, 0, rfl, trivial, fun j u hj => by
      match j with
      | 0 => simp [MdA2, intV] at hj; subst hj; exact d0
      | 1 => simp [MdA2, intV] at hj; subst hj; exact d1
      | j + 2 => simp [MdA2, intV] at hj⟩⟩, hf0, hr0⟩
  have h := of_ok MdA2 (some ⟨g1, 0, none⟩) (some ⟨g2, 0, none⟩) none none 3 2 0 0 w mdA_wf2 ⟨by decide, by decide, by decide, by decide, by intro f hf; simp [MdA2] at hf⟩ (by intro f hf; simp [MdA2] at hf) mdA_tree2 hR
  refine h.mono ?_
  rintro e w' ⟨A1, c1, A2, c2, A3, c3, A4, c4, rfl, hR, _, hb⟩
  have e0 : canl MdA2 = [[97], [98]] := by rw [← us_canl MdA2 (by decide), mdA_us2]
  have e1 : (canM MdA2).strs = [[97], [98]] := e0
  have e2 : (canM MdA2).globs = [0, 1] := by
    rw [← ofM_can MdA2 (by decide), e0]
    decide
  have hs := hR.strs
  have hg := hR.globs
  rw [e1] at hs
  rw [e2] at hg
  obtain ⟨b1, o1, rfl, -, h1⟩ := hs.2 (by decide)
  obtain ⟨b2, o2, rfl, -, h2⟩ := hg.2 (by decide)
  refine ⟨b1, o1, c1, b2, o2, c2, A3, c3, A4, c4, ?_, h1 0 _ rfl, h2 1 _ rfl, hb⟩
  rw [e1, e2]
  simp [faultV, MdA2, canM]
set_option maxHeartbeats 4000000 in
theorem awk_any (w : World) : Calls Try.prog 25 #[] w (BlB w true) := by
  go_enter Try.func25, Try.ntmps25
  go_wp2_with fail
  refine (ofA_any2 w.heap.size (w.heap.size + 1) _ (by go_simp) (by go_simp) (by go_simp) (by go_simp) (by go_simp)).mono ?_
  rintro e w1 ⟨b1, o1, k1, b2, o2, k2, A3, k3, A4, k4, rfl, hs, hg, hb⟩
  have HB1 : Hid (Below w.heap.size w w1) := (((Below.refl _ _).alloc (Nat.le_refl _) _).alloc (by simp) _).trans (hb.mono (by simp; omega))
  clear hb
  dsimp only
  obtain ⟨w2, hw2⟩ : ∃ w2, w2 = (w1.alloc (.cells #[.slice (some ⟨b1, o1, none⟩) 2 k1, .slice (some ⟨b2, o2, none⟩) 2 k2, .slice A3 0 k3, .slice A4 0 k4] 30)).alloc (.cells #[.int .i64 0, .int .i64 0, .int .i64 0, .int .i64 0, .int .i64 0, .int .i64 (-1), .int .i64 (-1)] 35) := ⟨_, rfl⟩
  have hb2 : Below w1.heap.size w1 w2 := by rw [hw2]; exact ((Below.refl _ _).alloc (Nat.le_refl _) _).alloc (by simp) _
  have HB2 := Lib.hid (HB1.out.trans (hb2.mono HB1.out.size))
  have K1 : Hid (Blk w2 w1.heap.size 30 #[.slice (some ⟨b1, o1, none⟩) 2 k1, .slice (some ⟨b2, o2, none⟩) 2 k2, .slice A3 0 k3, .slice A4 0 k4]) := by rw [hw2]; exact (Blk.new w1 30 _).alloc _
  have K2 : Hid (Blk w2 (w1.heap.size + 1) 35 #[.int .i64 0, .int .i64 0, .int .i64 0, .int .i64 0, .int .i64 0, .int .i64 (-1), .int .i64 (-1)]) := by rw [hw2]; exact Blk.new' _ 35 _ _ (by simp)
  have hs2 := cell_old hb2 (World.block_lt_of_cell? w1 _ hs) hs
  have hg2 := cell_old hb2 (World.block_lt_of_cell? w1 _ hg) hg
  go_upto_region 2 with (fail)
  rw [← hw2]
  clear hw2 hb2 hs hg
  obtain ⟨q1, hq1⟩ : ∃ g, g = w1.heap.size := ⟨_, rfl⟩
  rw [← hq1] at K1 K2
  try simp only [← hq1]
  clear hq1
  obtain ⟨k0, k1, k2, k3⟩ := K1.out.c4
  obtain ⟨m0, m1, m2, m3, m4, m5, m6⟩ := K2.out.c7
  have z1 : q1 < w2.heap.size := K1.out.lt
  have z2 : q1 + 1 < w2.heap.size := K2.out.lt
  go_wp2
  go_ret
  exact ⟨rfl, HB2.out⟩
end Go.Proofs.Ytpdebnecfknohaa
