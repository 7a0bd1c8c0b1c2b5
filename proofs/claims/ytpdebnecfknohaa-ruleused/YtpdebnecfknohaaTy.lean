/-
  What allUsed leaves.
-/
import Derived.Test.YtpdebnecfknohaaTx
import Derived.Test.YtpdebnecfknohaaCb
import Derived.Laws.OwnMore
namespace Go.Proofs.Ytpdebnecfknohaa
open Go.RowKit
set_option linter.unusedVariables false
set_option linter.unusedSimpArgs false
set_option maxRecDepth 20000

/-- Which strings are used, by the first of these numbers. -/
def markF (n : Nat) (l : List Int) : List Bool := (List.range n).map fun (i : Nat) => l.contains (i : Int)
theorem markF_len (n : Nat) (l : List Int) : (markF n l).length = n := by simp [markF]
theorem markF_nil (n : Nat) : markF n [] = List.replicate n false := by
  apply List.ext_getElem
  · simp [markF]
  · intro i h1 h2
    simp [markF]
theorem markF_snoc (n : Nat) (l : List Int) (x : Nat) (hx : x < n) : markF n (l ++ [(x : Int)]) = (markF n l).set x true := by
  apply List.ext_getElem
  · simp [markF]
  · intro i h1 h2
    rw [List.getElem_set]
    by_cases h : x = i
    · subst h; simp [markF]
    · have h' : ¬ ((i : Int) = (x : Int)) := by omega
      simp [markF, h, h']
theorem made_false (n : Nat) : (madeCells (Value.cells (.bool false)) (n * 1)).toList = (List.replicate n false).map Value.bool := by
  apply List.ext_getElem
  · simp [madeCells]
  · intro i h1 h2
    simp [madeCells, Value.cells, Nat.mod_one]
theorem info4 : (Try.prog.info? 4).map (fun i => (i.zero, i.size, i.bytes)) = some (some (.bool false), 1, 1) := by kernel_rfl
def boolV (l : List Bool) : List Value := l.map Value.bool
set_option maxHeartbeats 4000000 in
theorem allUsed_any (As Ag Af Ae : Option Addr) (ls cs cg cf ne ce : Nat) (G : List Int) (L : List Fn) (w : World) (hG : RdS (fun _ => True) w Ag G.length 1 (intV G)) (hF : FnsS (fun _ => True) w Af L) (hg : G.length ≤ 1000000) (hl : L.length ≤ 1000000) (hlo : ∀ f ∈ L, f.locals.length ≤ 1000000 ∧ f.sites.length ≤ 1000000) (hU : (usedI G L L.length).length ≤ 90000000) (hin : ∀ n ∈ usedI G L L.length, 0 ≤ n ∧ n < ls) (hls : ls ≤ 1000000) :
    Calls Try.prog 35 #[.agg #[.slice As ls cs, .slice Ag G.length cg, .slice Af L.length cf, .slice Ae ne ce]] w (BlB w ((markF ls (usedI G L L.length)).all id)) := by
  have hUs := fun wx (hx : Below w.heap.size w wx) => used2_any As Ag Af Ae ls cs cg cf ne ce G L wx (hG.old hx (by omega)) (hF.old hx) hg hl hlo hU
  obtain ⟨U, hUe⟩ : ∃ U, U = usedI G L L.length := ⟨_, rfl⟩
  rw [← hUe] at hUs hin hU ⊢
  have HIn := Lib.hid hin
  obtain ⟨nf, hnf⟩ : ∃ n, n = L.length := ⟨_, rfl⟩
  obtain ⟨ng, hng⟩ : ∃ n, n = G.length := ⟨_, rfl⟩
  rw [← hnf, ← hng] at hUs ⊢
  have HUs := Lib.hid hUs
  obtain ⟨v, hv⟩ : ∃ v, (markF ls U).all id = v := ⟨_, rfl⟩
  have HV := Lib.hid hv
  rw [hv]
  clear hUs hG hF hg hl hlo hin hUe hnf hng hv
  obtain ⟨w1, hw1⟩ : ∃ w1, w1 = w.alloc (.cells #[.slice As ls cs, .slice Ag ng cg, .slice Af nf cf, .slice Ae ne ce] 30) := ⟨_, rfl⟩
  have HB1 : Hid (Below w.heap.size w w1) := by rw [hw1]; exact (Below.refl _ _).alloc (Nat.le_refl _) _
  have K1 : Hid (Blk w1 w.heap.size 30 #[.slice As ls cs, .slice Ag ng cg, .slice Af nf cf, .slice Ae ne ce]) := by rw [hw1]; exact Blk.new w 30 _
  go_enter Try.func35, Try.ntmps35
  go_upto_region 1 with (fail)
  rw [← hw1]
  clear hw1
  obtain ⟨m0, m1, m2, m3⟩ := K1.out.c4
  have z1 : w.heap.size < w1.heap.size := K1.out.lt
  obtain ⟨i0, hi0, hz0, hz1, hz2⟩ := info_parts info4
  obtain ⟨w2, hr2, hO2, hg2⟩ := run_makeSlice_full (P := Try.prog) w1 w.heap.size 107 4 i0 (.bool false) 1 Try.underlying107 hi0 hz0 hz1 .i64 .i64 ls (by omega) (by rw [hz2]; omega) (by unfold maxLen; omega) HB1.out.size
  have hsl : w1.heap.size < w2.heap.size := by
    by_cases h : w1.heap.size < w2.heap.size
    · exact h
    · exfalso
      rcases hO2.2 with ⟨h0, _⟩ | ⟨k, cap, cur, hv, _, hk, _⟩
      · cases h0
      · injection hv with hv _ _
        injection hv with hv
        injection hv with hv
        subst hv
        exact h (heap_ltM hk)
  rw [made_false, ← markF_nil] at hO2
  obtain ⟨g, hg⟩ : ∃ g, g = w1.heap.size := ⟨_, rfl⟩
  rw [← hg] at hr2 hO2 hsl
  have HB2 : Hid (Below w.heap.size w w2) := HB1.out.grown hg2 HB1.out.size (fun k hk => by cases hk)
  have K2 : Hid (Blk w2 w.heap.size 30 #[.slice As ls cs, .slice Ag ng cg, .slice Af nf cf, .slice Ae ne ce]) := K1.out.grown hg2 (by simp)
  have HO2 : Hid (w2.ownsRow w.heap.size 4 1 (.slice (some ⟨g, 0, none⟩) ls ls) ls (boolV (markF ls []))) := hO2
  clear hO2 hg2 hg
  go_upto_region 2 with (fail)
  clear hr2 m0 m1 m2 m3 z1 K1
  obtain ⟨m0, m1, m2, m3⟩ := K2.out.c4
  have z1 : w.heap.size < w2.heap.size := K2.out.lt
  go_wp2_with fail
  refine (HUs.out _ HB2.out).mono ?_
  rintro e w3 ⟨A3, c3, rfl, hO3, hb3⟩
  obtain ⟨nu, hnu⟩ : ∃ n, n = U.length := ⟨_, rfl⟩
  have HNU := Lib.hid hnu
  rw [← hnu] at hO3 hU ⊢
  have HB3 := Lib.hid (HB2.out.trans (hb3.mono HB2.out.size))
  have HO3 := Lib.hid hO3
  have HM3 := Lib.hid (own_old HO2.out hb3)
  have hg3 : g ≠ 0 ∨ True := .inr trivial
  have HAp : Hid (∀ k, some k = (Value.slice A3 nu c3).ownBlock → k ≠ g) := fun k hk e => by have := own_geB hO3 k hk; omega
  clear hb3 hO3 hnu m0 m1 m2 m3 z1 K2 HB2 HO2 hg3
  go_wp2_with fail
  go_loopw [15] (fun s wr => ∃ (i : Nat), i ≤ nu ∧ s = .int .i64 (i : Int) ∧ Hid (wr.ownsRow w.heap.size 4 1 (.slice (some ⟨g, 0, none⟩) ls ls) ls (boolV (markF ls (U.take i)))) ∧ Hid (wr.ownsRow w2.heap.size 3 1 (.slice A3 nu c3) nu (intV U)) ∧ Hid (Below w.heap.size w wr)) (fun s _ => nu - (intOf s).toNat)
  case atStart => exact ⟨0, Nat.zero_le _, rfl, HM3, HO3, HB3⟩
  case round =>
    clear HM3 HO3 HB3
    obtain ⟨i, hi, rfl, hM, hO, hB⟩ := hrel
    by_cases hlt : i < nu
    · have hiU : i < U.length := by rw [← HNU.out]; exact hlt
      have hli : (i : Int) < (nu : Int) := by omega
      obtain ⟨q3, cap3, hv3, _, hq3⟩ := own_formM hO.out (by omega)
      injection hv3 with hv3 _ hv5
      subst hv3 hv5
      have e0 := own_cellsM hO.out i _ (intV_get U i hiU)
      rw [Nat.zero_add] at e0
      obtain ⟨hx0, hx1⟩ := HIn.out _ (List.getElem_mem hiU)
      have htk : U.take (i + 1) = U.take i ++ [U[i]] := List.take_succ_eq_append_getElem hiU
      obtain ⟨x, hx⟩ : ∃ x : Nat, U[i] = x := ⟨U[i].toNat, by omega⟩
      rw [hx] at e0 hx0 hx1 htk
      have hxl : x < ls := by omega
      obtain ⟨_, cur, hBg⟩ := own_blk hM.out g rfl
      have hst := World.ownsRow.stored hM.out x (.bool true)
      have HM4 : Hid ((wr.setCell ⟨g, x, none⟩ (.bool true)).ownsRow w.heap.size 4 1 (.slice (some ⟨g, 0, none⟩) ls ls) ls (boolV (markF ls (U.take (i + 1))))) := by
        show World.ownsRow _ _ _ _ _ _ _
        rw [htk, markF_snoc _ _ _ hxl, show boolV ((markF ls (U.take i)).set x true) = (boolV (markF ls (U.take i))).set x (.bool true) from by simp [boolV]]
        exact hst.1
      have hgb : w.heap.size ≤ g := own_geB hM.out g rfl
      have HB4 : Hid (Below w.heap.size w (wr.setCell ⟨g, x, none⟩ (.bool true))) := hB.out.setCell (p := ⟨g, x, none⟩) hgb _
      have HO4 : Hid ((wr.setCell ⟨g, x, none⟩ (.bool true)).ownsRow w2.heap.size 3 1 (.slice (some ⟨q3, 0, none⟩) nu c3) nu (intV U)) := own_blocks hO.out (fun k hk => Below.heap_setCell _ _ _ _ (HAp.out k hk))
      have hcx : ∃ u, wr.cell? ⟨g, x, none⟩ = some u := by
        have := own_cellsM hM.out x (.bool ((markF ls (U.take i))[x]'(by rw [markF_len]; exact hxl))) (by simp [boolV, markF_len, hxl])
        rw [Nat.zero_add] at this
        exact ⟨_, this⟩
      obtain ⟨u, hu⟩ := hcx
      have zf := hBg.frozen x
      have zg : g < wr.heap.size := hBg.lt
      have hxi : (x : Int) < (ls : Int) := by omega
      clear hst hBg htk hx hM hO hB hx0 hx1
      go_wp2
      go_roundw
      case rel => exact ⟨i + 1, by omega, by go_num, HM4, HO4, HB4⟩
      case measure => simp [intOf]; omega
    · obtain rfl : i = nu := by omega
      have hM2 := hM.out
      rw [List.take_of_length_le (by rw [← HNU.out]; omega)] at hM2
      have HM2 := Lib.hid hM2
      have HB2 := hB
      clear hM2 hM hO hB
      have HVi : Hid ((markF ls U).all id = ((markF ls U).drop 0).all id) := rfl
      obtain ⟨MK, hMK⟩ : ∃ l, l = markF ls U := ⟨_, rfl⟩
      have hmkl : MK.length = ls := by rw [hMK, markF_len]
      have hmk2 := HM2.out
      have hv2 := HV.out
      rw [← hMK] at hmk2 hv2
      have HM2 := Lib.hid hmk2
      have HV0 : Hid ((MK.drop 0).all id = v) := hv2
      have HMl := Lib.hid hmkl
      clear hMK hmk2 hv2 hmkl HVi HV
      obtain ⟨wo, hwo⟩ : ∃ wo, wo = wr := ⟨wr, rfl⟩
      subst hwo
      go_wp2_with fail
      go_loopw [25] (fun s wr => ∃ (k : Nat), k ≤ ls ∧ s = .int .i64 (k : Int) ∧ Hid ((MK.drop k).all id = v) ∧ wr = wo) (fun s _ => ls - (intOf s).toNat)
      case atStart => exact ⟨0, Nat.zero_le _, rfl, HV0, rfl⟩
      case round =>
        clear HV0
        obtain ⟨k, hk, rfl, hE, rfl⟩ := hrel
        by_cases hkl : k < ls
        · have hkM : k < MK.length := by rw [HMl.out]; exact hkl
          have hki : (k : Int) < (ls : Int) := by omega
          have e0 := own_cellsM HM2.out k (.bool MK[k]) (by simp [boolV, hkM])
          rw [Nat.zero_add] at e0
          have zg : g < wr.heap.size := World.block_lt_of_cell? wr _ e0
          have hE2 := hE.out
          rw [List.drop_eq_getElem_cons hkM, List.all_cons] at hE2
          generalize MK[k] = bk at *
          have HE2 := Lib.hid hE2
          clear hE hE2
          cases bk with
          | false =>
            obtain rfl : v = false := by rw [← HE2.out]; rfl
            go_wp2
            go_ret
            exact ⟨rfl, HB2.out⟩
          | true =>
            have HE3 : Hid ((MK.drop (k + 1)).all id = v) := by show _ = _; rw [← HE2.out]; rfl
            go_wp2
            go_roundw
            case rel => exact ⟨k + 1, by omega, by go_num, HE3, trivial⟩
            case measure => simp [intOf]; omega
        · obtain rfl : k = ls := by omega
          obtain rfl : v = true := by rw [← hE.out, List.drop_of_length_le (by rw [HMl.out]; omega)]; rfl
          go_wp2
          go_ret
          exact ⟨rfl, HB2.out⟩
end Go.Proofs.Ytpdebnecfknohaa
