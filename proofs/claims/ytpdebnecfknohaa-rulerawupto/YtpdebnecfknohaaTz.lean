/-
  What Check leaves.
-/
import Derived.Test.YtpdebnecfknohaaTw
import Derived.Test.YtpdebnecfknohaaCs
import Derived.Test.YtpdebnecfknohaaCb
import Derived.Laws.OwnMore
namespace Go.Proofs.Ytpdebnecfknohaa
open Go.RowKit
set_option linter.unusedVariables false
set_option linter.unusedSimpArgs false
set_option maxRecDepth 20000

/-- Is each string greater than the one ahead of it, from a place on? -/
def risF (L : List (List UInt8)) (i : Nat) : Bool := (List.range (L.length - i)).all fun j => Op.bytesLess (L.getD (i + j - 1) []) (L.getD (i + j) [])
set_option maxHeartbeats 2000000 in
theorem ris_any (A : Option Addr) (c : Nat) (L : List (List UInt8)) (w : World) (h : RdS (fun _ => True) w A L.length 1 (strV L)) (hl : L.length ≤ 1000000) :
    Calls Try.prog 34 #[.slice A L.length c] w (BlB w (risF L 1)) := by
  obtain ⟨v, hv⟩ : ∃ v, risF L 1 = v := ⟨_, rfl⟩
  have HV0 : Hid (risF L 1 = v) := hv
  have HR := Lib.hid h
  rw [hv]
  have hstep : ∀ i, i < L.length → risF L i = (Op.bytesLess (L.getD (i - 1) []) (L.getD i []) && risF L (i + 1)) := fun i hi => by
    unfold risF
    obtain ⟨n, hn⟩ : ∃ n, L.length - i = n + 1 := ⟨L.length - i - 1, by omega⟩
    rw [hn, List.range_succ_eq_map, List.all_cons, List.all_map, show L.length - (i + 1) = n from by omega]
    refine congrArg (fun z => (_ && z)) (List.all_congr rfl fun j => ?_)
    simp only [Function.comp]
    rw [show i + Nat.succ j - 1 = i + 1 + j - 1 from by omega, show i + Nat.succ j = i + 1 + j from by omega]
  have HStep := Lib.hid hstep
  obtain ⟨n, hn⟩ : ∃ n, n = L.length := ⟨_, rfl⟩
  have HN := Lib.hid hn
  rw [← hn] at hl ⊢
  clear h hv hstep hn
  go_enter Try.func34, Try.ntmps34
  go_wp2_with fail
  go_loopw [3] (fun s wr => ∃ (i : Nat), 1 ≤ i ∧ (i ≤ n ∨ i = 1) ∧ s = .int .i64 (i : Int) ∧ Hid (risF L i = v) ∧ Hid (Below w.heap.size w wr)) (fun s _ => n - (intOf s).toNat)
  case atStart => exact ⟨1, Nat.le_refl _, .inr rfl, rfl, HV0, Below.refl _ _⟩
  case round =>
    clear HV0
    obtain ⟨i, hi1, hi, rfl, hE, hB⟩ := hrel
    by_cases hlt : i < n
    · have hiL : i < L.length := by rw [← HN.out]; exact hlt
      have hli : (i : Int) < (n : Int) := by omega
      obtain ⟨j, rfl⟩ : ∃ j, i = j + 1 := ⟨i - 1, by omega⟩
      obtain ⟨b, o, rfl, _, hc⟩ := HR.out.2 (by omega)
      have d0 := hc j _ (strV_get L j (by omega))
      have d1 := hc (j + 1) _ (strV_get L (j + 1) hiL)
      have hbl : b < w.heap.size := World.block_lt_of_cell? w _ d0
      have e0 := cell_old hB.out hbl d0
      have e1 := cell_old hB.out hbl d1
      have zb : b < wr.heap.size := World.block_lt_of_cell? wr _ e0
      have hE2 := hE.out
      rw [HStep.out (j + 1) hiL] at hE2
      rw [show L.getD (j + 1 - 1) [] = L[j] from by simp [List.getD, show j < L.length from by omega], show L.getD (j + 1) [] = L[j + 1] from by simp [List.getD, hiL]] at hE2
      have hjj : ((j + 1 : Nat) : Int) - 1 = (j : Int) := by omega
      obtain ⟨x, hx⟩ : ∃ x, x = L[j]'(by omega) := ⟨_, rfl⟩
      obtain ⟨y, hy⟩ : ∃ y, y = L[j + 1] := ⟨_, rfl⟩
      rw [← hx, ← hy] at hE2
      rw [← hx] at e0
      rw [← hy] at e1
      have hq1 := bs_toList x
      have hq2 := bs_toList y
      generalize bs x = bx at *
      generalize bs y = by_ at *
      have HE2 := Lib.hid hE2
      clear hE2 hc d0 d1 hx hy hE
      cases hb : Op.bytesLess x y with
      | false =>
        obtain rfl : v = false := by rw [← HE2.out, hb]; rfl
        have hb2 : Op.bytesLess bx.toList by_.toList = false := by rw [hq1, hq2]; exact hb
        clear hq1 hq2 hb HE2
        go_upto_region 4 with (fail)
        go_quiet ((fail))
        go_wp2
        go_ret
        exact ⟨rfl, hB.out.trans ((below_dN _ _ _).mono hB.out.size)⟩
      | true =>
        have HE3 : Hid (risF L (j + 1 + 1) = v) := by show _ = _; rw [← HE2.out, hb]; rfl
        have hb2 : Op.bytesLess bx.toList by_.toList = true := by rw [hq1, hq2]; exact hb
        clear hq1 hq2 hb HE2
        go_upto_region 4 with (fail)
        go_quiet ((fail))
        go_wp2
        go_roundw
        case rel => exact ⟨j + 1 + 1, by omega, by omega, by go_num, HE3, hB.out.trans ((below_dN _ _ _).mono hB.out.size)⟩
        case measure => simp [intOf]; omega
    · have hz : L.length - i = 0 := by have := HN.out; omega
      obtain rfl : v = true := by rw [← hE.out]; unfold risF; rw [hz]; rfl
      have hli : ¬ (i : Int) < (n : Int) := by omega
      go_wp2
      go_ret
      exact ⟨rfl, hB.out⟩
end Go.Proofs.Ytpdebnecfknohaa
namespace Go.Proofs.Ytpdebnecfknohaa
open Go.RowKit
set_option linter.unusedVariables false
set_option linter.unusedSimpArgs false
set_option maxRecDepth 20000

/-- Which strings are used, by the first of these numbers. -/
def markF (n : Nat) (l : List Int) : List Bool := (List.range n).map fun (i : Nat) => l.contains (i : Int)
theorem markF_len (n : Nat) (l : List Int) : (markF n l).length = n := by simp [markF]
theorem markF_nil (n : Nat) : markF n [] = List.replicate n false := by
  apply List.ext_getElem
  · simp [markF]
  · intro i h1 h2
    simp [markF]
theorem markF_snoc (n : Nat) (l : List Int) (x : Nat) (hx : x < n) : markF n (l ++ [(x : Int)]) = (markF n l).set x true := by
  apply List.ext_getElem
  · simp [markF]
  · intro i h1 h2
    rw [List.getElem_set]
    by_cases h : x = i
    · subst h; simp [markF]
    · have h' : ¬ ((i : Int) = (x : Int)) := by omega
      simp [markF, h, h']
theorem made_false (n : Nat) : (madeCells (Value.cells (.bool false)) (n * 1)).toList = (List.replicate n false).map Value.bool := by
  apply List.ext_getElem
  · simp [madeCells]
  · intro i h1 h2
    simp [madeCells, Value.cells, Nat.mod_one]
theorem info4 : (Try.prog.info? 4).map (fun i => (i.zero, i.size, i.bytes)) = some (some (.bool false), 1, 1) := by kernel_rfl
def boolV (l : List Bool) : List Value := l.map Value.bool
set_option maxHeartbeats 4000000 in
theorem allUsed_any (As Ag Af Ae : Option Addr) (ls cs cg cf ne ce : Nat) (G : List Int) (L : List Fn) (w : World) (hG : RdS (fun _ => True) w Ag G.length 1 (intV G)) (hF : FnsS (fun _ => True) w Af L) (hg : G.length ≤ 1000000) (hl : L.length ≤ 1000000) (hlo : ∀ f ∈ L, f.locals.length ≤ 1000000 ∧ f.sites.length ≤ 1000000) (hU : (usedI G L L.length).length ≤ 90000000) (hin : ∀ n ∈ usedI G L L.length, 0 ≤ n ∧ n < ls) (hls : ls ≤ 1000000) :
    Calls Try.prog 35 #[.agg #[.slice As ls cs, .slice Ag G.length cg, .slice Af L.length cf, .slice Ae ne ce]] w (BlB w ((markF ls (usedI G L L.length)).all id)) := by
  have hUs := fun wx (hx : Below w.heap.size w wx) => used2_any As Ag Af Ae ls cs cg cf ne ce G L wx (hG.old hx (by omega)) (hF.old hx) hg hl hlo hU
  obtain ⟨U, hUe⟩ : ∃ U, U = usedI G L L.length := ⟨_, rfl⟩
  rw [← hUe] at hUs hin hU ⊢
  have HIn := Lib.hid hin
  obtain ⟨nf, hnf⟩ : ∃ n, n = L.length := ⟨_, rfl⟩
  obtain ⟨ng, hng⟩ : ∃ n, n = G.length := ⟨_, rfl⟩
  rw [← hnf, ← hng] at hUs ⊢
  have HUs := Lib.hid hUs
  obtain ⟨v, hv⟩ : ∃ v, (markF ls U).all id = v := ⟨_, rfl⟩
  have HV := Lib.hid hv
  rw [hv]
  clear hUs hG hF hg hl hlo hin hUe hnf hng hv
  obtain ⟨w1, hw1⟩ : ∃ w1, w1 = w.alloc (.cells #[.slice As ls cs, .slice Ag ng cg, .slice Af nf cf, .slice Ae ne ce] 30) := ⟨_, rfl⟩
  have HB1 : Hid (Below w.heap.size w w1) := by rw [hw1]; exact (Below.refl _ _).alloc (Nat.le_refl _) _
  have K1 : Hid (Blk w1 w.heap.size 30 #[.slice As ls cs, .slice Ag ng cg, .slice Af nf cf, .slice Ae ne ce]) := by rw [hw1]; exact Blk.new w 30 _
  go_enter Try.func35, Try.ntmps35
  go_upto_region 1 with (fail)
  rw [← hw1]
  clear hw1
  obtain ⟨m0, m1, m2, m3⟩ := K1.out.c4
  have z1 : w.heap.size < w1.heap.size := K1.out.lt
  obtain ⟨i0, hi0, hz0, hz1, hz2⟩ := info_parts info4
  obtain ⟨w2, hr2, hO2, hg2⟩ := run_makeSlice_full (P := Try.prog) w1 w.heap.size 107 4 i0 (.bool false) 1 Try.underlying107 hi0 hz0 hz1 .i64 .i64 ls (by omega) (by rw [hz2]; omega) (by unfold maxLen; omega) HB1.out.size
  have hsl : w1.heap.size < w2.heap.size := by
    by_cases h : w1.heap.size < w2.heap.size
    · exact h
    · exfalso
      rcases hO2.2 with ⟨h0, _⟩ | ⟨k, cap, cur, hv, _, hk, _⟩
      · cases h0
      · injection hv with hv _ _
        injection hv with hv
        injection hv with hv
        subst hv
        exact h (heap_ltM hk)
  rw [made_false, ← markF_nil] at hO2
  obtain ⟨g, hg⟩ : ∃ g, g = w1.heap.size := ⟨_, rfl⟩
  rw [← hg] at hr2 hO2 hsl
  have HB2 : Hid (Below w.heap.size w w2) := HB1.out.grown hg2 HB1.out.size (fun k hk => by cases hk)
  have K2 : Hid (Blk w2 w.heap.size 30 #[.slice As ls cs, .slice Ag ng cg, .slice Af nf cf, .slice Ae ne ce]) := K1.out.grown hg2 (by simp)
  have HO2 : Hid (w2.ownsRow w.heap.size 4 1 (.slice (some ⟨g, 0, none⟩) ls ls) ls (boolV (markF ls []))) := hO2
  clear hO2 hg2 hg
  go_upto_region 2 with (fail)
  clear hr2 m0 m1 m2 m3 z1 K1
  obtain ⟨m0, m1, m2, m3⟩ := K2.out.c4
  have z1 : w.heap.size < w2.heap.size := K2.out.lt
  go_wp2_with fail
  refine (HUs.out _ HB2.out).mono ?_
  rintro e w3 ⟨A3, c3, rfl, hO3, hb3⟩
  obtain ⟨nu, hnu⟩ : ∃ n, n = U.length := ⟨_, rfl⟩
  have HNU := Lib.hid hnu
  rw [← hnu] at hO3 hU ⊢
  have HB3 := Lib.hid (HB2.out.trans (hb3.mono HB2.out.size))
  have HO3 := Lib.hid hO3
  have HM3 := Lib.hid (own_old HO2.out hb3)
  have hg3 : g ≠ 0 ∨ True := .inr trivial
  have HAp : Hid (∀ k, some k = (Value.slice A3 nu c3).ownBlock → k ≠ g) := fun k hk e => by have := own_geB hO3 k hk; omega
  clear hb3 hO3 hnu m0 m1 m2 m3 z1 K2 HB2 HO2 hg3
  go_wp2_with fail
  go_loopw [15] (fun s wr => ∃ (i : Nat), i ≤ nu ∧ s = .int .i64 (i : Int) ∧ Hid (wr.ownsRow w.heap.size 4 1 (.slice (some ⟨g, 0, none⟩) ls ls) ls (boolV (markF ls (U.take i)))) ∧ Hid (wr.ownsRow w2.heap.size 3 1 (.slice A3 nu c3) nu (intV U)) ∧ Hid (Below w.heap.size w wr)) (fun s _ => nu - (intOf s).toNat)
  case atStart => exact ⟨0, Nat.zero_le _, rfl, HM3, HO3, HB3⟩
  case round =>
    clear HM3 HO3 HB3
    obtain ⟨i, hi, rfl, hM, hO, hB⟩ := hrel
    by_cases hlt : i < nu
    · have hiU : i < U.length := by rw [← HNU.out]; exact hlt
      have hli : (i : Int) < (nu : Int) := by omega
      obtain ⟨q3, cap3, hv3, _, hq3⟩ := own_formM hO.out (by omega)
      injection hv3 with hv3 _ hv5
      subst hv3 hv5
      have e0 := own_cellsM hO.out i _ (intV_get U i hiU)
      rw [Nat.zero_add] at e0
      obtain ⟨hx0, hx1⟩ := HIn.out _ (List.getElem_mem hiU)
      have htk : U.take (i + 1) = U.take i ++ [U[i]] := List.take_succ_eq_append_getElem hiU
      obtain ⟨x, hx⟩ : ∃ x : Nat, U[i] = x := ⟨U[i].toNat, by omega⟩
      rw [hx] at e0 hx0 hx1 htk
      have hxl : x < ls := by omega
      obtain ⟨_, cur, hBg⟩ := own_blk hM.out g rfl
      have hst := World.ownsRow.stored hM.out x (.bool true)
      have HM4 : Hid ((wr.setCell ⟨g, x, none⟩ (.bool true)).ownsRow w.heap.size 4 1 (.slice (some ⟨g, 0, none⟩) ls ls) ls (boolV (markF ls (U.take (i + 1))))) := by
        show World.ownsRow _ _ _ _ _ _ _
        rw [htk, markF_snoc _ _ _ hxl, show boolV ((markF ls (U.take i)).set x true) = (boolV (markF ls (U.take i))).set x (.bool true) from by simp [boolV]]
        exact hst.1
      have hgb : w.heap.size ≤ g := own_geB hM.out g rfl
      have HB4 : Hid (Below w.heap.size w (wr.setCell ⟨g, x, none⟩ (.bool true))) := hB.out.setCell (p := ⟨g, x, none⟩) hgb _
      have HO4 : Hid ((wr.setCell ⟨g, x, none⟩ (.bool true)).ownsRow w2.heap.size 3 1 (.slice (some ⟨q3, 0, none⟩) nu c3) nu (intV U)) := own_blocks hO.out (fun k hk => Below.heap_setCell _ _ _ _ (HAp.out k hk))
      have hcx : ∃ u, wr.cell? ⟨g, x, none⟩ = some u := by
        have := own_cellsM hM.out x (.bool ((markF ls (U.take i))[x]'(by rw [markF_len]; exact hxl))) (by simp [boolV, markF_len, hxl])
        rw [Nat.zero_add] at this
        exact ⟨_, this⟩
      obtain ⟨u, hu⟩ := hcx
      have zf := hBg.frozen x
      have zg : g < wr.heap.size := hBg.lt
      have hxi : (x : Int) < (ls : Int) := by omega
      clear hst hBg htk hx hM hO hB hx0 hx1
      go_wp2
      go_roundw
      case rel => exact ⟨i + 1, by omega, by go_num, HM4, HO4, HB4⟩
      case measure => simp [intOf]; omega
    · obtain rfl : i = nu := by omega
      have hM2 := hM.out
      rw [List.take_of_length_le (by rw [← HNU.out]; omega)] at hM2
      have HM2 := Lib.hid hM2
      have HB2 := hB
      clear hM2 hM hO hB
      have HVi : Hid ((markF ls U).all id = ((markF ls U).drop 0).all id) := rfl
      obtain ⟨MK, hMK⟩ : ∃ l, l = markF ls U := ⟨_, rfl⟩
      have hmkl : MK.length = ls := by rw [hMK, markF_len]
      have hmk2 := HM2.out
      have hv2 := HV.out
      rw [← hMK] at hmk2 hv2
      have HM2 := Lib.hid hmk2
      have HV0 : Hid ((MK.drop 0).all id = v) := hv2
      have HMl := Lib.hid hmkl
      clear hMK hmk2 hv2 hmkl HVi HV
      obtain ⟨wo, hwo⟩ : ∃ wo, wo = wr := ⟨wr, rfl⟩
      subst hwo
      go_wp2_with fail
      go_loopw [25] (fun s wr => ∃ (k : Nat), k ≤ ls ∧ s = .int .i64 (k : Int) ∧ Hid ((MK.drop k).all id = v) ∧ wr = wo) (fun s _ => ls - (intOf s).toNat)
      case atStart => exact ⟨0, Nat.zero_le _, rfl, HV0, rfl⟩
      case round =>
        clear HV0
        obtain ⟨k, hk, rfl, hE, rfl⟩ := hrel
        by_cases hkl : k < ls
        · have hkM : k < MK.length := by rw [HMl.out]; exact hkl
          have hki : (k : Int) < (ls : Int) := by omega
          have e0 := own_cellsM HM2.out k (.bool MK[k]) (by simp [boolV, hkM])
          rw [Nat.zero_add] at e0
          have zg : g < wr.heap.size := World.block_lt_of_cell? wr _ e0
          have hE2 := hE.out
          rw [List.drop_eq_getElem_cons hkM, List.all_cons] at hE2
          generalize MK[k] = bk at *
          have HE2 := Lib.hid hE2
          clear hE hE2
          cases bk with
          | false =>
            obtain rfl : v = false := by rw [← HE2.out]; rfl
            go_wp2
            go_ret
            exact ⟨rfl, HB2.out⟩
          | true =>
            have HE3 : Hid ((MK.drop (k + 1)).all id = v) := by show _ = _; rw [← HE2.out]; rfl
            go_wp2
            go_roundw
            case rel => exact ⟨k + 1, by omega, by go_num, HE3, trivial⟩
            case measure => simp [intOf]; omega
        · obtain rfl : k = ls := by omega
          obtain rfl : v = true := by rw [← hE.out, List.drop_of_length_le (by rw [HMl.out]; omega)]; rfl
          go_wp2
          go_ret
          exact ⟨rfl, HB2.out⟩
end Go.Proofs.Ytpdebnecfknohaa
namespace Go.Proofs.Ytpdebnecfknohaa
open Go.RowKit
set_option linter.unusedVariables false
set_option linter.unusedSimpArgs false
set_option maxRecDepth 20000

theorem nmF_in (S : List (List UInt8)) : ∀ (l : List Int) (seen : List (List UInt8)), nmF S seen l = 0 → ∀ n ∈ l, 0 ≤ n ∧ n < (S.length : Int)
  | [], _, _, n, h => by simp at h
  | x :: l, seen, hz, n, h => by
    unfold nmF at hz
    split at hz
    · simp at hz
    · rename_i h1
      split at hz
      · simp at hz
      · rcases List.mem_cons.1 h with rfl | h
        · by_cases hc : 0 ≤ n ∧ n < (S.length : Int)
          · exact hc
          · exfalso; apply h1; left; simp [strF, hc]
        · exact nmF_in S l _ hz n h
/-- What a function that breaks no rule keeps. -/
theorem funcF_in (S : List (List UInt8)) (f : Fn) (h : funcF S f = 0) : f.locals.length ≤ 40 ∧ f.sites.length ≤ 40 ∧ (∀ n ∈ f.locals, 0 ≤ n ∧ n < (S.length : Int)) ∧ ∀ n ∈ f.sites, 0 ≤ n ∧ n < (S.length : Int) := by
  unfold funcF at h
  split at h
  · simp at h
  · split at h
    · simp at h
    · split at h
      · rename_i h3; exact absurd h h3
      · rename_i h1 h2 h3
        exact ⟨by omega, by omega, nmF_in S _ _ (by simpa using h3), nmF_in S _ _ h⟩
theorem funcsF_in (M : Md) : ∀ (L : List Fn) (i : Nat), (funcsF M i L).1 = 0 → funcsF M i L = (0, -1, -1) ∧ ∀ f ∈ L, funcF M.strs f = 0
  | [], i, h => ⟨rfl, by simp⟩
  | f :: L, i, h => by
    unfold funcsF at h ⊢
    by_cases h1 : funcF M.strs f ≠ 0
    · rw [if_pos h1] at h; exact absurd h h1
    · rw [if_neg h1] at h ⊢
      split at h
      · rename_i h2; exact absurd h h2
      · rename_i h2
        rw [if_neg h2]
        obtain ⟨a, b⟩ := funcsF_in M L (i + 1) h
        exact ⟨a, by
          intro g hg
          rcases List.mem_cons.1 hg with rfl | hg
          · simpa using h1
          · exact b g hg⟩
theorem treeF_in (M : Md) (h : (treeF M).1 = 0) : treeF M = (0, -1, -1) ∧ modF M = 0 ∧ ∀ f ∈ M.funcs, funcF M.strs f = 0 := by
  unfold treeF at h ⊢
  split at h
  · rename_i h1; exact absurd h h1
  · rename_i h1
    rw [if_neg h1]
    obtain ⟨a, b⟩ := funcsF_in M M.funcs 0 h
    exact ⟨a, by simpa using h1, b⟩
theorem modF_in (M : Md) (h : modF M = 0) : M.globs.length ≤ 40 ∧ M.funcs.length ≤ 40 ∧ (∀ n ∈ M.globs, 0 ≤ n ∧ n < (M.strs.length : Int)) ∧ ∀ f ∈ M.funcs, 0 ≤ f.name ∧ f.name < (M.strs.length : Int) := by
  unfold modF at h
  split at h
  · simp at h
  · split at h
    · rename_i h2; exact absurd h h2
    · split at h
      · rename_i h3; exact absurd h h3
      · rename_i h1 h2 h3
        exact ⟨by omega, by omega, nmF_in _ _ _ (by simpa using h2), fun f hf => nmF_in _ _ _ (show nmF M.strs [] (namesL M.funcs) = 0 from by simpa using h3) f.name (by simp only [namesL]; exact List.mem_map.2 ⟨f, hf, rfl⟩)⟩
theorem flat_len (L : List Fn) (h : ∀ f ∈ L, f.locals.length ≤ 40 ∧ f.sites.length ≤ 40) : ((L.map fun f => f.name :: (f.locals ++ f.sites)).flatten).length ≤ 81 * L.length := by
  induction L with
  | nil => simp
  | cons f L ih =>
    have := ih fun g hg => h g (List.mem_cons_of_mem _ hg)
    have := h f List.mem_cons_self
    simp only [List.map_cons, List.flatten_cons, List.length_append, List.length_cons] at *
    omega
/-- What a tree that breaks no rule uses lies among its strings. -/
theorem used_in (M : Md) (h : (treeF M).1 = 0) : (usedI M.globs M.funcs M.funcs.length).length ≤ 3280 ∧ ∀ n ∈ usedI M.globs M.funcs M.funcs.length, 0 ≤ n ∧ n < (M.strs.length : Int) := by
  obtain ⟨_, hm, hf⟩ := treeF_in M h
  obtain ⟨g1, g2, g3, g4⟩ := modF_in M hm
  have hl := flat_len M.funcs fun f h => ⟨(funcF_in _ f (hf f h)).1, (funcF_in _ f (hf f h)).2.1⟩
  unfold usedI
  rw [List.take_length]
  refine ⟨by rw [List.length_append]; omega, fun n hn => ?_⟩
  rcases List.mem_append.1 hn with hn | hn
  · exact g3 n hn
  · obtain ⟨l, hl, hnl⟩ := List.mem_flatten.1 hn
    obtain ⟨f, hff, rfl⟩ := List.mem_map.1 hl
    obtain ⟨_, _, k1, k2⟩ := funcF_in _ f (hf f hff)
    rcases List.mem_cons.1 hnl with rfl | hnl
    · exact g4 f hff
    · rcases List.mem_append.1 hnl with hnl | hnl
      · exact k1 n hnl
      · exact k2 n hnl
/-- The first rule that a module breaks, of Tree's, then of the strings. -/
def checkF (M : Md) : Int × Int × Int := if (treeF M).1 ≠ 0 then treeF M else if (risF M.strs 1 && (markF M.strs.length (usedI M.globs M.funcs M.funcs.length)).all id) = true then (0, -1, -1) else (10, -1, -1)
theorem fault8 (r f s : Int) (h : r ≠ 0) : faultV r f s = .agg #[.int .i64 8, .int .i64 0, .int .i64 0, .int .i64 0, .int .i64 r, .int .i64 f, .int .i64 s] := by simp [faultV, h]
theorem fault0 (f s : Int) : faultV 0 f s = .agg #[.int .i64 0, .int .i64 0, .int .i64 0, .int .i64 0, .int .i64 0, .int .i64 f, .int .i64 s] := by simp [faultV]
set_option maxHeartbeats 8000000 in
theorem check_any (M : Md) (As Ag Af Ae : Option Addr) (cs cg cf ce : Nat) (w : World) (hM : M.Wf) (h : MdR w As Ag Af Ae M) :
    Calls Try.prog 18 #[.agg #[.slice As M.strs.length cs, .slice Ag M.globs.length cg, .slice Af M.funcs.length cf, .slice Ae M.ents.length ce]] w (FaB w (checkF M)) := by
  obtain ⟨v, hv⟩ : ∃ v, v = checkF M := ⟨_, rfl⟩
  rw [← hv]
  unfold checkF at hv
  have hTr := fun wx (hx : Below w.heap.size w wx) => tree_any M As Ag Af Ae cs cg cf ce wx hM (h.old hx)
  have hRi := fun wx (hx : Below w.heap.size w wx) => ris_any As cs M.strs wx (h.strs.old hx (by omega)) hM.strs
  have hAl := fun (h0 : (treeF M).1 = 0) wx (hx : Below w.heap.size w wx) => allUsed_any As Ag Af Ae M.strs.length cs cg cf M.ents.length ce M.globs M.funcs wx (h.globs.old hx (by omega)) (h.funcs.old hx) hM.globs.1 hM.funcs (fun f hf => ⟨(hM.fns f hf).2.2.1, (hM.fns f hf).2.2.2.1⟩) (by have := (used_in M h0).1; omega) (used_in M h0).2 hM.strs
  obtain ⟨ls, hls⟩ : ∃ n, n = M.strs.length := ⟨_, rfl⟩
  obtain ⟨ng, hng⟩ : ∃ n, n = M.globs.length := ⟨_, rfl⟩
  obtain ⟨nf, hnf⟩ : ∃ n, n = M.funcs.length := ⟨_, rfl⟩
  obtain ⟨ne, hne⟩ : ∃ n, n = M.ents.length := ⟨_, rfl⟩
  rw [← hls, ← hng, ← hnf, ← hne] at hTr hAl ⊢
  rw [← hls] at hRi hv
  have hT0 := fun (h0 : (treeF M).1 = 0) => (treeF_in M h0).1
  generalize treeF M = T at *
  generalize risF M.strs 1 = b1 at *
  rw [← hnf] at hv
  generalize (markF ls (usedI M.globs M.funcs nf)).all id = b2 at *
  clear hls hng hnf hne h hM
  obtain ⟨r, f, s⟩ := T
  dsimp only at hv hAl hT0
  have HTr := Lib.hid hTr
  have HRi := Lib.hid hRi
  have HAl := Lib.hid hAl
  have HT0 := Lib.hid hT0
  have HV := Lib.hid hv
  have HFa := Lib.hid (fun r f s wx => fault_any r f s wx)
  clear hTr hRi hAl hT0 hv
  obtain ⟨w1, hw1⟩ : ∃ w1, w1 = (w.alloc (.cells #[.slice As ls cs, .slice Ag ng cg, .slice Af nf cf, .slice Ae ne ce] 30)).alloc (.cells #[.int .i64 0, .int .i64 0, .int .i64 0, .int .i64 0, .int .i64 0, .int .i64 0, .int .i64 0] 35) := ⟨_, rfl⟩
  have HB1 : Hid (Below w.heap.size w w1) := by rw [hw1]; exact ((Below.refl _ _).alloc (Nat.le_refl _) _).alloc (by simp) _
  have K1 : Hid (Blk w1 w.heap.size 30 #[.slice As ls cs, .slice Ag ng cg, .slice Af nf cf, .slice Ae ne ce]) := by rw [hw1]; exact (Blk.new w 30 _).alloc _
  have K2 : Hid (Blk w1 (w.heap.size + 1) 35 #[.int .i64 0, .int .i64 0, .int .i64 0, .int .i64 0, .int .i64 0, .int .i64 0, .int .i64 0]) := by rw [hw1]; exact Blk.new' _ 35 _ _ (by simp)
  have HFin : Hid (∀ (wx : World) (fe r f s : Int), Below w1.heap.size w1 wx → ∀ wy, wy = (((((((wx.setCell ⟨w.heap.size + 1, 0, none⟩ (.int .i64 fe)).setCell ⟨w.heap.size + 1, 1, none⟩ (.int .i64 0)).setCell ⟨w.heap.size + 1, 2, none⟩ (.int .i64 0)).setCell ⟨w.heap.size + 1, 3, none⟩ (.int .i64 0)).setCell ⟨w.heap.size + 1, 4, none⟩ (.int .i64 r)).setCell ⟨w.heap.size + 1, 5, none⟩ (.int .i64 f)).setCell ⟨w.heap.size + 1, 6, none⟩ (.int .i64 s)) → Below w.heap.size w wy ∧ Blk wy (w.heap.size + 1) 35 #[.int .i64 fe, .int .i64 0, .int .i64 0, .int .i64 0, .int .i64 r, .int .i64 f, .int .i64 s]) := fun wx fe r f s hx wy hy => by
    subst hy
    have hk := K2.out.old hx
    exact ⟨set7 (HB1.out.trans (hx.mono HB1.out.size)) (Nat.le_succ _) _ _ _ _ _ _ _, ((((((hk.set_ 0 _).set_ 1 _).set_ 2 _).set_ 3 _).set_ 4 _).set_ 5 _).set_ 6 _⟩
  go_enter Try.func18, Try.ntmps18
  go_upto_region 1 with (fail)
  rw [← hw1]
  clear hw1
  obtain ⟨m0, m1, m2, m3⟩ := K1.out.c4
  have z1 : w.heap.size < w1.heap.size := K1.out.lt
  go_wp2_with fail
  refine (HTr.out _ HB1.out).mono ?_
  rintro e w2 ⟨rfl, hb2⟩
  have HB2 := Lib.hid hb2
  have M1 := Lib.hid (K1.out.old hb2)
  have M2 := Lib.hid (K2.out.old hb2)
  clear hb2 m0 m1 m2 m3 z1 HTr
  dsimp only
  have hz12 := HB2.out.size
  have HW3 : Hid (∀ (fe r f s : Int), ∀ wy, wy = w2.alloc (.cells #[.int .i64 fe, .int .i64 0, .int .i64 0, .int .i64 0, .int .i64 r, .int .i64 f, .int .i64 s] 35) → Below w1.heap.size w1 wy ∧ Blk wy w2.heap.size 35 #[.int .i64 fe, .int .i64 0, .int .i64 0, .int .i64 0, .int .i64 r, .int .i64 f, .int .i64 s]) := fun fe r f s wy hy => by
    subst hy
    exact ⟨HB2.out.alloc HB2.out.size _, Blk.new w2 35 _⟩
  by_cases hr : r = 0
  · subst hr
    rw [fault0]
    go_upto_region 2 with (fail)
    obtain ⟨w3, hw3⟩ : ∃ w3, w3 = w2.alloc (.cells #[.int .i64 0, .int .i64 0, .int .i64 0, .int .i64 0, .int .i64 0, .int .i64 f, .int .i64 s] 35) := ⟨_, rfl⟩
    rw [← hw3]
    obtain ⟨hB3, hK3⟩ := HW3.out 0 0 f s w3 hw3
    have HB3 := Lib.hid hB3
    have K3 := Lib.hid hK3
    have N1 := Lib.hid (K1.out.old hB3)
    have N2 := Lib.hid (K2.out.old hB3)
    clear hw3 hB3 hK3 HW3
    obtain ⟨g, hg⟩ : ∃ g, g = w2.heap.size := ⟨_, rfl⟩
    rw [← hg] at K3 ⊢
    clear hg
    obtain ⟨k0, k1, k2, k3, k4, k5, k6⟩ := K3.out.c7
    have z3 : g < w3.heap.size := K3.out.lt
    obtain ⟨m0, m1, m2, m3⟩ := N1.out.c4
    have z1 : w.heap.size < w3.heap.size := N1.out.lt
    obtain ⟨rfl, rfl⟩ : f = -1 ∧ s = -1 := by have := HT0.out rfl; simpa using this
    go_upto_region 4 with (fail)
    clear k0 k1 k2 k3 k4 k5 k6 z3 K3
    go_wp2_with fail
    refine (HRi.out _ (HB1.out.trans (HB3.out.mono HB1.out.size))).mono ?_
    rintro e w4 ⟨rfl, hb4⟩
    have HB4 := Lib.hid (HB3.out.trans (hb4.mono HB3.out.size))
    have N4 := Lib.hid (K1.out.old HB4.out)
    clear hb4 m0 m1 m2 m3 z1 HRi
    obtain ⟨m0, m1, m2, m3⟩ := N4.out.c4
    have z1 : w.heap.size < w4.heap.size := N4.out.lt
    cases b1 with
    | false =>
      go_wp2_with fail
      refine (HFa.out 10 (-1) (-1) _).mono ?_
      rintro e w6 ⟨rfl, hb6⟩
      have HB6 := Lib.hid (HB4.out.trans (hb6.mono HB4.out.size))
      have N6 := Lib.hid (K2.out.old HB6.out)
      clear hb6
      rw [fault8 10 (-1) (-1) (by decide)]
      obtain ⟨r0, r1, r2, r3, r4, r5, r6⟩ := N6.out.c7
      have f0 := N6.out.frozen 0
      have f1 := N6.out.frozen 1
      have f2 := N6.out.frozen 2
      have f3 := N6.out.frozen 3
      have f4 := N6.out.frozen 4
      have f5 := N6.out.frozen 5
      have f6 := N6.out.frozen 6
      have z2 : w.heap.size + 1 < w6.heap.size := N6.out.lt
      go_wp2
      obtain ⟨hbf, hKf⟩ := HFin.out w6 8 10 (-1) (-1) HB6.out _ rfl
      obtain ⟨q0, q1, q2, q3, q4, q5, q6⟩ := hKf.c7
      refine bodyPost_ret (v := .agg #[.int .i64 8, .int .i64 0, .int .i64 0, .int .i64 0, .int .i64 10, .int .i64 (-1), .int .i64 (-1)]) (by simp [results, Try.results18, go_sem, q0, q1, q2, q3, q4, q5, q6]) rfl ?_
      have hv := HV.out
      rw [if_neg (by simp)] at hv
      simp at hv
      subst hv
      exact ⟨congrArg Ending.returned (fault8 10 (-1) (-1) (by decide)).symm, hbf⟩
    | true =>
      go_wp2_with fail
      refine (HAl.out trivial _ (HB1.out.trans (HB4.out.mono HB1.out.size))).mono ?_
      rintro e w5 ⟨rfl, hb5⟩
      have HB5 := Lib.hid (HB4.out.trans (hb5.mono HB4.out.size))
      clear hb5 m0 m1 m2 m3 z1 HAl
      cases b2 with
      | false =>
        go_wp2_with fail
        refine (HFa.out 10 (-1) (-1) _).mono ?_
        rintro e w6 ⟨rfl, hb6⟩
        have HB6 := Lib.hid (HB5.out.trans (hb6.mono HB5.out.size))
        have N6 := Lib.hid (K2.out.old HB6.out)
        clear hb6
        rw [fault8 10 (-1) (-1) (by decide)]
        obtain ⟨r0, r1, r2, r3, r4, r5, r6⟩ := N6.out.c7
        have f0 := N6.out.frozen 0
        have f1 := N6.out.frozen 1
        have f2 := N6.out.frozen 2
        have f3 := N6.out.frozen 3
        have f4 := N6.out.frozen 4
        have f5 := N6.out.frozen 5
        have f6 := N6.out.frozen 6
        have z2 : w.heap.size + 1 < w6.heap.size := N6.out.lt
        go_wp2
        obtain ⟨hbf, hKf⟩ := HFin.out w6 8 10 (-1) (-1) HB6.out _ rfl
        obtain ⟨q0, q1, q2, q3, q4, q5, q6⟩ := hKf.c7
        refine bodyPost_ret (v := .agg #[.int .i64 8, .int .i64 0, .int .i64 0, .int .i64 0, .int .i64 10, .int .i64 (-1), .int .i64 (-1)]) (by simp [results, Try.results18, go_sem, q0, q1, q2, q3, q4, q5, q6]) rfl ?_
        have hv := HV.out
        rw [if_neg (by simp)] at hv
        simp at hv
        subst hv
        exact ⟨congrArg Ending.returned (fault8 10 (-1) (-1) (by decide)).symm, hbf⟩
      | true =>
        go_wp2_with fail
        refine (HFa.out 0 (-1) (-1) _).mono ?_
        rintro e w6 ⟨rfl, hb6⟩
        have HB6 := Lib.hid (HB5.out.trans (hb6.mono HB5.out.size))
        have N6 := Lib.hid (K2.out.old HB6.out)
        clear hb6
        rw [fault0]
        obtain ⟨r0, r1, r2, r3, r4, r5, r6⟩ := N6.out.c7
        have f0 := N6.out.frozen 0
        have f1 := N6.out.frozen 1
        have f2 := N6.out.frozen 2
        have f3 := N6.out.frozen 3
        have f4 := N6.out.frozen 4
        have f5 := N6.out.frozen 5
        have f6 := N6.out.frozen 6
        have z2 : w.heap.size + 1 < w6.heap.size := N6.out.lt
        go_wp2
        obtain ⟨hbf, hKf⟩ := HFin.out w6 0 0 (-1) (-1) HB6.out _ rfl
        obtain ⟨q0, q1, q2, q3, q4, q5, q6⟩ := hKf.c7
        refine bodyPost_ret (v := .agg #[.int .i64 0, .int .i64 0, .int .i64 0, .int .i64 0, .int .i64 0, .int .i64 (-1), .int .i64 (-1)]) (by simp [results, Try.results18, go_sem, q0, q1, q2, q3, q4, q5, q6]) rfl ?_
        have hv := HV.out
        rw [if_neg (by simp)] at hv
        simp at hv
        subst hv
        exact ⟨congrArg Ending.returned (fault0 _ _).symm, hbf⟩
  · rw [fault8 _ _ _ hr]
    go_upto_region 2 with (fail)
    obtain ⟨w3, hw3⟩ : ∃ w3, w3 = w2.alloc (.cells #[.int .i64 8, .int .i64 0, .int .i64 0, .int .i64 0, .int .i64 r, .int .i64 f, .int .i64 s] 35) := ⟨_, rfl⟩
    rw [← hw3]
    obtain ⟨hB3, hK3⟩ := HW3.out 8 r f s w3 hw3
    have HB3 := Lib.hid hB3
    have K3 := Lib.hid hK3
    have N1 := Lib.hid (K1.out.old hB3)
    have N2 := Lib.hid (K2.out.old hB3)
    clear hw3 hB3 hK3 HW3
    obtain ⟨g, hg⟩ : ∃ g, g = w2.heap.size := ⟨_, rfl⟩
    rw [← hg] at K3 ⊢
    clear hg
    obtain ⟨k0, k1, k2, k3, k4, k5, k6⟩ := K3.out.c7
    have z3 : g < w3.heap.size := K3.out.lt
    obtain ⟨r0, r1, r2, r3, r4, r5, r6⟩ := N2.out.c7
    have f0 := N2.out.frozen 0
    have f1 := N2.out.frozen 1
    have f2 := N2.out.frozen 2
    have f3 := N2.out.frozen 3
    have f4 := N2.out.frozen 4
    have f5 := N2.out.frozen 5
    have f6 := N2.out.frozen 6
    have z2 : w.heap.size + 1 < w3.heap.size := N2.out.lt
    have hne0 : ¬ ((8 : Int) = 0) := by decide
    go_wp2
    obtain ⟨hbf, hKf⟩ := HFin.out w3 8 r f s HB3.out _ rfl
    obtain ⟨q0, q1, q2, q3, q4, q5, q6⟩ := hKf.c7
    refine bodyPost_ret (v := .agg #[.int .i64 8, .int .i64 0, .int .i64 0, .int .i64 0, .int .i64 r, .int .i64 f, .int .i64 s]) (by simp [results, Try.results18, go_sem, q0, q1, q2, q3, q4, q5, q6]) rfl ?_
    have hv := HV.out
    rw [if_pos hr] at hv
    subst hv
    exact ⟨congrArg Ending.returned (fault8 _ _ _ hr).symm, hbf⟩
end Go.Proofs.Ytpdebnecfknohaa
