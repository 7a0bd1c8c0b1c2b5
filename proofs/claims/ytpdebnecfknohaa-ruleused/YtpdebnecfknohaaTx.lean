/-
  What rising leaves.
-/
import Derived.Test.YtpdebnecfknohaaTw
import Derived.Test.YtpdebnecfknohaaCs
namespace Go.Proofs.Ytpdebnecfknohaa
open Go.RowKit
set_option linter.unusedVariables false
set_option linter.unusedSimpArgs false
set_option maxRecDepth 20000

/-- Is each string greater than the one ahead of it, from a place on? -/
def risF (L : List (List UInt8)) (i : Nat) : Bool := (List.range (L.length - i)).all fun j => Op.bytesLess (L.getD (i + j - 1) []) (L.getD (i + j) [])
set_option maxHeartbeats 2000000 in
theorem ris_any (A : Option Addr) (c : Nat) (L : List (List UInt8)) (w : World) (h : RdS (fun _ => True) w A L.length 1 (strV L)) (hl : L.length ≤ 1000000) :
    Calls Try.prog 34 #[.slice A L.length c] w (BlB w (risF L 1)) := by
  obtain ⟨v, hv⟩ : ∃ v, risF L 1 = v := ⟨_, rfl⟩
  have HV0 : Hid (risF L 1 = v) := hv
  have HR := Lib.hid h
  rw [hv]
  have hstep : ∀ i, i < L.length → risF L i = (Op.bytesLess (L.getD (i - 1) []) (L.getD i []) && risF L (i + 1)) := fun i hi => by
    unfold risF
    obtain ⟨n, hn⟩ : ∃ n, L.length - i = n + 1 := ⟨L.length - i - 1, by omega⟩
    rw [hn, List.range_succ_eq_map, List.all_cons, List.all_map, show L.length - (i + 1) = n from by omega]
    refine congrArg (fun z => (_ && z)) (List.all_congr rfl fun j => ?_)
    simp only [Function.comp]
    rw [show i + Nat.succ j - 1 = i + 1 + j - 1 from by omega, show i + Nat.succ j = i + 1 + j from by omega]
  have HStep := Lib.hid hstep
  obtain ⟨n, hn⟩ : ∃ n, n = L.length := ⟨_, rfl⟩
  have HN := Lib.hid hn
  rw [← hn] at hl ⊢
  clear h hv hstep hn
  go_enter Try.func34, Try.ntmps34
  go_wp2_with fail
  go_loopw [3] (fun s wr => ∃ (i : Nat), 1 ≤ i ∧ (i ≤ n ∨ i = 1) ∧ s = .int .i64 (i : Int) ∧ Hid (risF L i = v) ∧ Hid (Below w.heap.size w wr)) (fun s _ => n - (intOf s).toNat)
  case atStart => exact ⟨1, Nat.le_refl _, .inr rfl, rfl, HV0, Below.refl _ _⟩
  case round =>
    clear HV0
    obtain ⟨i, hi1, hi, rfl, hE, hB⟩ := hrel
    by_cases hlt : i < n
    · have hiL : i < L.length := by rw [← HN.out]; exact hlt
      have hli : (i : Int) < (n : Int) := by omega
      obtain ⟨j, rfl⟩ : ∃ j, i = j + 1 := ⟨i - 1, by omega⟩
      obtain ⟨b, o, rfl, _, hc⟩ := HR.out.2 (by omega)
      have d0 := hc j _ (strV_get L j (by omega))
      have d1 := hc (j + 1) _ (strV_get L (j + 1) hiL)
      have hbl : b < w.heap.size := World.block_lt_of_cell? w _ d0
      have e0 := cell_old hB.out hbl d0
      have e1 := cell_old hB.out hbl d1
      have zb : b < wr.heap.size := World.block_lt_of_cell? wr _ e0
      have hE2 := hE.out
      rw [HStep.out (j + 1) hiL] at hE2
      rw [show L.getD (j + 1 - 1) [] = L[j] from by simp [List.getD, show j < L.length from by omega], show L.getD (j + 1) [] = L[j + 1] from by simp [List.getD, hiL]] at hE2
      have hjj : ((j + 1 : Nat) : Int) - 1 = (j : Int) := by omega
      obtain ⟨x, hx⟩ : ∃ x, x = L[j]'(by omega) := ⟨_, rfl⟩
      obtain ⟨y, hy⟩ : ∃ y, y = L[j + 1] := ⟨_, rfl⟩
      rw [← hx, ← hy] at hE2
      rw [← hx] at e0
      rw [← hy] at e1
      have hq1 := bs_toList x
      have hq2 := bs_toList y
      generalize bs x = bx at *
      generalize bs y = by_ at *
      have HE2 := Lib.hid hE2
      clear hE2 hc d0 d1 hx hy hE
      cases hb : Op.bytesLess x y with
      | false =>
        obtain rfl : v = false := by rw [← HE2.out, hb]; rfl
        have hb2 : Op.bytesLess bx.toList by_.toList = false := by rw [hq1, hq2]; exact hb
        clear hq1 hq2 hb HE2
        go_upto_region 4 with (fail)
        go_quiet ((fail))
        go_wp2
        go_ret
        exact ⟨rfl, hB.out.trans ((below_dN _ _ _).mono hB.out.size)⟩
      | true =>
        have HE3 : Hid (risF L (j + 1 + 1) = v) := by show _ = _; rw [← HE2.out, hb]; rfl
        have hb2 : Op.bytesLess bx.toList by_.toList = true := by rw [hq1, hq2]; exact hb
        clear hq1 hq2 hb HE2
        go_upto_region 4 with (fail)
        go_quiet ((fail))
        go_wp2
        go_roundw
        case rel => exact ⟨j + 1 + 1, by omega, by omega, by go_num, HE3, hB.out.trans ((below_dN _ _ _).mono hB.out.size)⟩
        case measure => simp [intOf]; omega
    · have hz : L.length - i = 0 := by have := HN.out; omega
      obtain rfl : v = true := by rw [← hE.out]; unfold risF; rw [hz]; rfl
      have hli : ¬ (i : Int) < (n : Int) := by omega
      go_wp2
      go_ret
      exact ⟨rfl, hB.out⟩
end Go.Proofs.Ytpdebnecfknohaa
