/-
  Canon: usedStrings.
-/
import Derived.Test.YtpdebnecfknohaaXc
import Derived.Test.YtpdebnecfknohaaTw
import Derived.Deep.LoopGhost
namespace Go.Proofs.Ytpdebnecfknohaa
open Go.RowKit Go.Maps
set_option linter.unusedVariables false
set_option linter.unusedSimpArgs false
set_option maxRecDepth 20000
/-- The strings of these numbers, each once, sorted. -/
def usS (strs : List (List UInt8)) (U : List Int) : List (List UInt8) := srtF (addsF [] (U.map (strF strs)))
theorem set_same_at {α : Type} {l : List α} {j : Nat} {u : α} (h : l[j]? = some u) : l.set j u = l := by
  apply List.ext_getElem?
  intro i
  rw [List.getElem?_set]
  split
  · rename_i e
    subst e
    split
    · exact h.symm
    · rename_i h2; rw [List.getElem?_eq_none (by omega)]
  · rfl
theorem addsF_len : ∀ (xs l : List (List UInt8)), (addsF l xs).length ≤ l.length + xs.length
  | [], l => by simp [addsF]
  | x :: xs, l => by
    have h1 := addsF_len xs (addF l x)
    have h2 := addF_len l x
    rw [addsF]
    simp only [List.length_cons]
    omega
set_option maxHeartbeats 8000000 in
theorem us_any (M : Md) (As Ag Af Ae : Option Addr) (cs cg cf ce : Nat) (w : World) (hM : M.Wf) (h : MdR w As Ag Af Ae M) (hU : (usedI M.globs M.funcs M.funcs.length).length ≤ 90000) (hr : ∀ n ∈ usedI M.globs M.funcs M.funcs.length, 0 ≤ n ∧ n < (M.strs.length : Int)) (hs : ∀ n ∈ usedI M.globs M.funcs M.funcs.length, (strF M.strs n).length ≤ 100000) :
    Calls Try.prog 45 #[.agg #[.slice As M.strs.length cs, .slice Ag M.globs.length cg, .slice Af M.funcs.length cf, .slice Ae M.ents.length ce]] w fun e w' => ∃ A c, e = .returned (.slice A (usS M.strs (usedI M.globs M.funcs M.funcs.length)).length c) ∧ w'.ownsRow w.heap.size 9 1 (.slice A (usS M.strs (usedI M.globs M.funcs M.funcs.length)).length c) (usS M.strs (usedI M.globs M.funcs M.funcs.length)).length (strV (usS M.strs (usedI M.globs M.funcs M.funcs.length))) ∧ Below w.heap.size w w' := by
  have hm1 := hM.strs
  have hUs := fun wx (hx : Below w.heap.size w wx) => used2_any As Ag Af Ae M.strs.length cs cg cf M.ents.length ce M.globs M.funcs wx ((h.old hx).globs) ((h.old hx).funcs) hM.globs.1 hM.funcs (fun f hf => by have := hM.fns f hf; exact ⟨this.2.2.1, this.2.2.2.1⟩) (by omega)
  have hSt := fun wx (hx : Below w.heap.size w wx) (n : Int) (hn1 : -9223372036854775808 ≤ n) (hn2 : n ≤ 9223372036854775807) => str_any M.strs As Ag Af Ae cs M.globs.length cg M.funcs.length cf M.ents.length ce n wx hn1 hn2 (h.old hx).strs hm1
  obtain ⟨U, hUe⟩ : ∃ U, U = usedI M.globs M.funcs M.funcs.length := ⟨_, rfl⟩
  rw [← hUe] at hU hr hs ⊢
  simp only [← hUe] at hUs
  obtain ⟨ls, hls⟩ : ∃ n, n = M.strs.length := ⟨_, rfl⟩
  obtain ⟨lg, hlg⟩ : ∃ n, n = M.globs.length := ⟨_, rfl⟩
  obtain ⟨lf, hlf⟩ : ∃ n, n = M.funcs.length := ⟨_, rfl⟩
  obtain ⟨le, hle⟩ : ∃ n, n = M.ents.length := ⟨_, rfl⟩
  rw [← hls, ← hlg, ← hlf, ← hle] at hUs hSt ⊢
  rw [← hls] at hm1
  have HUs := Lib.hid hUs
  have HSt := Lib.hid hSt
  have HR : Hid (∀ n ∈ U, 0 ≤ n ∧ n < (ls : Int)) := by rw [hls]; exact hr
  have HS := Lib.hid hs
  obtain ⟨X, hX⟩ : ∃ X : List Int → List (List UInt8), X = fun U => addsF [] (U.map (strF M.strs)) := ⟨_, rfl⟩
  obtain ⟨sF, hsF⟩ : ∃ sF, sF = strF M.strs := ⟨_, rfl⟩
  have HXs : Hid (∀ l n, X (l ++ [n]) = addF (X l) (sF n)) := fun l n => by rw [hX, hsF]; simp only [List.map_append, List.map_cons, List.map_nil]; exact addsF_snoc _ _ _
  have HX0 : Hid (X [] = []) := by rw [hX]; rfl
  have HXl : Hid (∀ l, (X l).length ≤ l.length) := fun l => by rw [hX]; have := addsF_len (l.map (strF M.strs)) []; simpa using this
  have hgoal : usS M.strs U = srtF (X U) := by rw [hX]; rfl
  have HSL : Hid (∀ x ∈ srtF (X U), x.length ≤ 100000) := fun x hx => by
    have h1 := (srt_mem _ _).1 hx
    rw [hX] at h1
    rcases (addsF_mem _ _ _).1 h1 with h2 | h2
    · simp at h2
    · obtain ⟨n, hn, rfl⟩ := List.mem_map.1 h2
      exact hs n hn
  rw [hgoal]
  rw [← hsF] at HSt HS
  obtain ⟨Z, hZ⟩ : ∃ Z, Z = srtF (X U) := ⟨_, rfl⟩
  have hZl : (X U).length = Z.length := by rw [hZ, srt_len]
  rw [← hZ] at HSL ⊢
  obtain ⟨m, hm⟩ : ∃ m, m = Z.length := ⟨_, rfl⟩
  rw [← hm] at hZl ⊢
  have HZ := Lib.hid hZ
  have HM := Lib.hid hm
  have HZl : Hid (m = (X U).length) := hZl.symm
  clear hZ hm hZl
  obtain ⟨nu, hnu⟩ : ∃ n, n = U.length := ⟨_, rfl⟩
  rw [← hnu] at hU
  have HNU := Lib.hid hnu
  clear hM h hr hs hUe hls hlg hlf hle hUs hSt hX hsF hgoal hnu
  obtain ⟨gm, hgm⟩ : ∃ g, g = w.heap.size := ⟨_, rfl⟩
  obtain ⟨q, hq⟩ : ∃ g, g = w.heap.size + 1 := ⟨_, rfl⟩
  obtain ⟨w1, hw1⟩ : ∃ w1, w1 = (w.alloc (.cells #[.slice As ls cs, .slice Ag lg cg, .slice Af lf cf, .slice Ae le ce] 30)).alloc (.cells #[.slice none 0 0, .map none] 68) := ⟨_, rfl⟩
  have HB1 : Hid (Below w.heap.size w w1) := by rw [hw1]; exact ((Below.refl _ _).alloc (Nat.le_refl _) _).alloc (by simp) _
  have K1 : Hid (Blk w1 gm 30 #[.slice As ls cs, .slice Ag lg cg, .slice Af lf cf, .slice Ae le ce]) := by rw [hw1, hgm]; exact (Blk.new w 30 _).alloc _
  have T1 : Hid (Tab w.heap.size w1 q (X (U.take 0))) := by
    have := Tab.new (w.alloc (.cells #[.slice As ls cs, .slice Ag lg cg, .slice Af lf cf, .slice Ae le ce] 30)) w.heap.size
    show Tab _ _ _ _
    rw [List.take_zero, HX0.out, hw1, hq]
    simpa using this
  have HQ : Hid (w.heap.size ≤ q) := by show _ ≤ _; omega
  go_enter Try.func45, Try.ntmps45
  go_upto_region 2 with (fail)
  rw [← hw1, ← hq, ← hgm]
  clear hw1 hq hgm
  obtain ⟨m0, m1, m2, m3⟩ := K1.out.c4
  have z1 : gm < w1.heap.size := K1.out.lt
  go_wp2_with fail
  refine (HUs.out w1 HB1.out).mono ?_
  rintro e w2 ⟨A3, c3, rfl, hO3, hb3⟩
  have HB2 := Lib.hid (HB1.out.trans (hb3.mono HB1.out.size))
  have K2 := Lib.hid (K1.out.old hb3)
  have T2 := Lib.hid (T1.out.old hb3)
  rw [← HNU.out] at hO3 ⊢
  have HI2 : Hid (0 < nu → ∃ g cur, A3 = some ⟨g, 0, none⟩ ∧ nu ≤ c3 ∧ Blk w2 g 3 cur ∧ ∀ i (h : i < U.length), cur[i]? = some (.int .i64 U[i])) := fun hp => by
    rcases hO3.2 with ⟨_, h0⟩ | ⟨g, cap, cur, hv, _, hk, h3, h4, h5, h6⟩
    · omega
    · injection hv with e1 e2 e3
      subst e1 e3
      refine ⟨g, cur, rfl, h3, hk, fun i hi => ?_⟩
      have h7 : (intV U)[i]? = some (.int .i64 U[i]) := intV_get U i hi
      rw [← h6, List.getElem?_take] at h7
      split at h7
      · rw [← Array.getElem?_toList]; exact h7
      · cases h7
  clear hO3 hb3 K1 T1 HB1 m0 m1 m2 m3 z1 HUs
  go_wp2_with fail
  go_loopg [12] (nu + 1) (fun f s12 wr => ∃ (k : Nat), s12 = .int .i64 (k : Int) ∧ k ≤ nu ∧ nu - k < f ∧ Hid (Tab w.heap.size wr q (X (U.take k))) ∧ Hid (Blk wr gm 30 #[.slice As ls cs, .slice Ag lg cg, .slice Af lf cf, .slice Ae le ce]) ∧ Hid (0 < nu → ∃ g cur, A3 = some ⟨g, 0, none⟩ ∧ nu ≤ c3 ∧ Blk wr g 3 cur ∧ ∀ i (h : i < U.length), cur[i]? = some (.int .i64 U[i])) ∧ Hid (Below w.heap.size w wr))
  case atStart => exact ⟨0, rfl, Nat.zero_le _, by omega, T2, K2, HI2, HB2⟩
  case round =>
    clear T2 K2 HI2 HB2
    obtain ⟨k, rfl, hk, hkf, hT, hK, hI, hB⟩ := hrel
    obtain ⟨f, rfl⟩ : ∃ g, gk = g + 1 := ⟨gk - 1, by omega⟩
    by_cases hlt : k < nu
    · have hki : (k : Int) < (nu : Int) := by omega
      have hkl : k < U.length := by rw [← HNU.out]; exact hlt
      obtain ⟨g, cur, rfl, hnc, hBg, hcur⟩ := hI.out (by omega)
      obtain ⟨n, hn⟩ : ∃ n, n = U[k] := ⟨_, rfl⟩
      have e0 : wr.cell? ⟨g, k, none⟩ = some (.int .i64 n) := by rw [hBg.cell, hcur k hkl, hn]
      have hgl : g < wr.heap.size := hBg.lt
      have hnU : n ∈ U := by rw [hn]; exact List.getElem_mem hkl
      have hrn := HR.out n hnU
      have htk : U.take (k + 1) = U.take k ++ [n] := by rw [hn]; exact List.take_succ_eq_append_getElem hkl
      have hXt : X (U.take (k + 1)) = addF (X (U.take k)) (sF n) := by rw [htk, HXs.out]
      have hxl : (X (U.take k)).length ≤ 90000 := by
        have h1 := HXl.out (U.take k)
        rw [List.length_take] at h1
        omega
      have hsl := HS.out n hnU
      have hSt := HSt.out wr hB.out n (by omega) (by omega)
      have HCur := Lib.hid hcur
      have HBg := Lib.hid hBg
      have HXt := Lib.hid hXt
      have HSt2 := Lib.hid hSt
      have hkc : k < c3 := by omega
      obtain ⟨m0, m1, m2, m3⟩ := hK.out.c4
      have z1 : gm < wr.heap.size := hK.out.lt
      clear hcur hBg hXt hSt htk hn hrn hnU
      go_wp2_with fail
      refine HSt2.out.mono ?_
      rintro e w4 ⟨rfl, hb4⟩
      have hB4 := hB.out.trans (hb4.mono hB.out.size)
      have HA := Lib.hid (add_any w.heap.size q (X (U.take k)) (sF n) w4 (hT.out.old hb4) HQ.out (by omega) (by unfold maxLen; omega))
      have HB4 := Lib.hid hB4
      have HK4 := Lib.hid (hK.out.old hb4)
      have HBg4 := Lib.hid (HBg.out.old hb4)
      clear hb4 hB4 e0 hgl m0 m1 m2 m3 z1 HSt2 HBg hK hB hT hI
      generalize bs (sF n) = S at *
      go_wp2_with fail
      refine HA.out.mono ?_
      rintro e w5 ⟨rfl, hT5, hb5, hk5⟩
      have HT5 : Hid (Tab w.heap.size w5 q (X (U.take (k + 1)))) := by show Tab _ _ _ _; rw [HXt.out]; exact hT5
      have HB5 := Lib.hid (HB4.out.trans (by exact hb5))
      have HK5 := Lib.hid (hk5 _ _ _ HK4.out (by decide) (by decide))
      have HBg5 := Lib.hid (hk5 _ _ _ HBg4.out (by decide) (by decide))
      have HI5 : Hid (0 < nu → ∃ g' cur, (some ⟨g, 0, none⟩ : Option Addr) = some ⟨g', 0, none⟩ ∧ nu ≤ c3 ∧ Blk w5 g' 3 cur ∧ ∀ i (h : i < U.length), cur[i]? = some (.int .i64 U[i])) := fun _ => ⟨g, cur, rfl, hnc, HBg5.out, HCur.out⟩
      clear hT5 hb5 hk5 HB4 HK4 HBg4 HA
      go_wp2
      go_roundg f
      case measure => omega
      case rel => exact ⟨k + 1, by go_num, by omega, by omega, HT5, HK5, HI5, HB5⟩
    · obtain rfl : k = nu := by omega
      have hT2 := hT.out
      rw [List.take_of_length_le (by rw [← HNU.out]; exact Nat.le_refl _)] at hT2
      have hxl : (X U).length ≤ 90000 := by have h1 := HXl.out U; rw [← HNU.out] at h1; omega
      have HAll := Lib.hid (all_any w.heap.size q (X U) wr hT2 (by omega))
      have hml : m ≤ 90000 := by have := HZl.out; omega
      rw [← HZl.out] at HAll
      clear hT hT2 hI hK
      go_wp2_with fail
      refine HAll.out.mono ?_
      rintro e w3 ⟨A6, c6, rfl, hO6, hb6⟩
      have HB6 := Lib.hid (hB.out.trans (hb6.mono hB.out.size))
      have hS := ssort_any w.heap.size m c6 A6 (X U) w3 HZl.out (own_mono hO6 hB.out.size) (by omega)
      rw [← HZ.out] at hS
      have HO6 := Lib.hid (own_mono hO6 hB.out.size)
      have HS6 := Lib.hid hS
      clear hO6 hb6 hS HAll hB
      go_wp2_with fail
      refine HS6.out.mono ?_
      rintro e w4 ⟨rfl, hO7, hg7⟩
      have HO7 := Lib.hid hO7
      have HB7 := Lib.hid (HB6.out.grown hg7 HB6.out.size (fun k hk => (HO6.out.lt k hk).1))
      clear hO7 hg7 HS6 HO6 HB6
      go_wp2_with fail
      go_loopg [26] (m + 1) (fun f s26 wr => ∃ (j : Nat), s26 = .int .i64 (j : Int) ∧ j ≤ m ∧ m - j < f ∧ Hid (wr.ownsRow w.heap.size 9 1 (.slice A6 m c6) m (strV Z)) ∧ Hid (Below w.heap.size w wr))
      case atStart => exact ⟨0, rfl, Nat.zero_le _, by omega, HO7, HB7⟩
      case round =>
        clear HO7 HB7
        obtain ⟨j, rfl, hj, hjf, hO, hB⟩ := hrel
        obtain ⟨f2, rfl⟩ : ∃ g, gk = g + 1 := ⟨gk - 1, by omega⟩
        by_cases hjl : j < m
        · have hji : (j : Int) < (m : Int) := by omega
          have hjZ : j < Z.length := by rw [← HM.out]; exact hjl
          obtain ⟨g6, rfl⟩ : ∃ g, A6 = some ⟨g, 0, none⟩ := by
            rcases hO.out.2 with ⟨_, h0⟩ | ⟨g, cap, cur, hv, _⟩
            · omega
            · injection hv with e1; exact ⟨g, e1⟩
          obtain ⟨hmc, hgb, hgl, hcf, _⟩ := own_at hO.out (by omega)
          obtain ⟨s, hs⟩ : ∃ s, s = Z[j] := ⟨_, rfl⟩
          have hZj : (strV Z)[j]? = some (.string (bs s)) := by rw [hs]; simp [strV, hjZ]
          obtain ⟨e0, _⟩ := hcf j _ hZj
          have hsm : s ∈ Z := by rw [hs]; exact List.getElem_mem hjZ
          have hC := strclone_any s wr (by have := HSL.out s hsm; omega)
          have HC := Lib.hid hC
          have HZj := Lib.hid hZj
          have hjc : j < c6 := by omega
          clear hcf hC hZj hs hsm
          obtain ⟨S, hS⟩ : ∃ S, S = bs s := ⟨_, rfl⟩
          rw [← hS] at e0 HC HZj
          clear hS
          go_wp2_with fail
          refine HC.out.mono ?_
          rintro e w5 ⟨rfl, hb5⟩
          have hO5 := own_old hO.out hb5
          obtain ⟨_, hgb5, hgl5, hcf5, hst5⟩ := own_at hO5 (by omega)
          obtain ⟨e5, f5⟩ := hcf5 j _ HZj.out
          have hO6 := hst5 j (.string S) hjl
          rw [set_same_at HZj.out] at hO6
          have HO6 := Lib.hid hO6
          have HB6 := Lib.hid ((hB.out.trans (hb5.mono hB.out.size)).setCell (p := ⟨g6, j, none⟩) hgb5 (.string S))
          clear hb5 hO5 hcf5 hst5 hO6 hO hB HC e0 hgl
          go_wp2
          go_roundg f2
          case measure => omega
          case rel => exact ⟨j + 1, by go_num, by omega, by omega, HO6, HB6⟩
        · obtain rfl : j = m := by omega
          go_wp2
          go_ret
          exact ⟨A6, c6, rfl, hO.out, hB.out⟩
end Go.Proofs.Ytpdebnecfknohaa
