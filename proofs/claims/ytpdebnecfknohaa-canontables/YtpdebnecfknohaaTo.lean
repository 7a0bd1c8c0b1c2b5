/-
  What the rules on arity, and on a statement, leave; how much room there is.
-/
import Derived.Test.YtpdebnecfknohaaKn
import Derived.Test.YtpdebnecfknohaaUs
import Derived.Test.YtpdebnecfknohaaFi
import Derived.Deep.QuietTactic
import Derived.Test.YtpdebnecfknohaaRa
namespace Go.Proofs.Ytpdebnecfknohaa
open Go.RowKit
set_option linter.unusedVariables false
set_option linter.unusedSimpArgs false
set_option maxRecDepth 20000

/-- Has a call as many arguments as it may have, of functions with so many parameters? -/
def arityF (L : List Fn) (k b1 b2 : Int) (n : Nat) : Bool := if 6 < n then false else (k != 5 || b1 != 3) || decide ((n : Int) = ((L[b2.toNat]?).map Fn.params).getD 0)
set_option maxHeartbeats 1000000 in
theorem arity_any (As Ag Af Ae Aa Asub : Option Addr) (ls cs ng cg cf ne ce ca lsub csub : Nat) (L : List Fn) (k a1 a2 b1 b2 : Int) (na : Nat) (w : World) (hF : FnsS (fun _ => True) w Af L) (hb : k = 5 → b1 = 3 → 0 ≤ b2 ∧ b2 < L.length) :
    Calls Try.prog 69 #[.agg #[.slice As ls cs, .slice Ag ng cg, .slice Af L.length cf, .slice Ae ne ce], .agg #[.int .u8 k, .int .u8 a1, .int .i64 a2, .int .u8 b1, .int .i64 b2, .slice Aa na ca, .slice Asub lsub csub]] w (BlB w (arityF L k b1 b2 na)) := by
  obtain ⟨v, hv⟩ : ∃ v, v = arityF L k b1 b2 na := ⟨_, rfl⟩
  rw [← hv]
  unfold arityF at hv
  have HF := Lib.hid hF
  obtain ⟨nf, hnf⟩ : ∃ n, n = L.length := ⟨_, rfl⟩
  have HNF := Lib.hid hnf
  rw [← hnf] at hb ⊢
  clear hF hnf
  obtain ⟨w1, hw1⟩ : ∃ w1, w1 = (w.alloc (.cells #[.slice As ls cs, .slice Ag ng cg, .slice Af nf cf, .slice Ae ne ce] 30)).alloc (.cells #[.int .u8 k, .int .u8 a1, .int .i64 a2, .int .u8 b1, .int .i64 b2, .slice Aa na ca, .slice Asub lsub csub] 50) := ⟨_, rfl⟩
  have HB1 : Hid (Below w.heap.size w w1) := by rw [hw1]; exact ((Below.refl _ _).alloc (Nat.le_refl _) _).alloc (by simp) _
  have K1 : Hid (Blk w1 w.heap.size 30 #[.slice As ls cs, .slice Ag ng cg, .slice Af nf cf, .slice Ae ne ce]) := by rw [hw1]; exact (Blk.new w 30 _).alloc _
  have K2 : Hid (Blk w1 (w.heap.size + 1) 50 #[.int .u8 k, .int .u8 a1, .int .i64 a2, .int .u8 b1, .int .i64 b2, .slice Aa na ca, .slice Asub lsub csub]) := by rw [hw1]; exact Blk.new' _ 50 _ _ (by simp)
  go_enter Try.func69, Try.ntmps69
  go_upto_region 1 with (fail)
  rw [← hw1]
  clear hw1
  obtain ⟨m0, m1, m2, m3⟩ := K1.out.c4
  obtain ⟨s0, s1, s2, s3, s4, s5, s6⟩ := K2.out.c7
  have z1 : w.heap.size < w1.heap.size := K1.out.lt
  have z2 : w.heap.size + 1 < w1.heap.size := K2.out.lt
  by_cases h6 : 6 < na
  · have h6i : (6 : Int) < (na : Int) := by omega
    rw [if_pos h6] at hv
    subst hv
    go_wp2
    go_ret
    exact ⟨rfl, HB1.out⟩
  · have h6i : ¬ (6 : Int) < (na : Int) := by omega
    rw [if_neg h6] at hv
    by_cases h5 : k = 5
    · subst h5
      by_cases h3 : b1 = 3
      · subst h3
        obtain ⟨hb0, hb1⟩ := hb rfl rfl
        obtain ⟨j, rfl⟩ : ∃ j : Nat, b2 = j := ⟨b2.toNat, by omega⟩
        have hjL : j < L.length := by rw [← HNF.out]; omega
        obtain ⟨b, o, rfl, _, hc⟩ := HF.out (by omega)
        obtain ⟨fs, ⟨Al, cl, At, ct, Ab, cb, rfl, _⟩, hcc⟩ := hc j hjL
        have d1 := hcc 1 _ rfl
        have hbl : b < w.heap.size := World.block_lt_of_cell? w _ d1
        have e1 := cell_old HB1.out hbl d1
        have hv2 : v = decide ((na : Int) = L[j].params) := by rw [hv]; simp [hjL]
        generalize L[j].params = ps at *
        clear hv hc hcc d1
        go_wp2_with fail
        go_quiet ((fail))
        go_wp2
        go_ret
        exact ⟨by rw [hv2]; by_cases h : (na : Int) = ps <;> simp [h], HB1.out.trans ((below_dN _ _ _).mono HB1.out.size)⟩
      · have g3 : (b1 == 3) = false := by simpa using h3
        have g3' : (b1 != 3) = true := by simpa using h3
        obtain rfl : v = true := by rw [hv, g3']; rfl
        clear hv hb
        go_wp2_with fail
        go_quiet ((fail))
        go_wp2
        go_ret
        exact ⟨by simp, HB1.out.trans ((below_dN _ _ _).mono HB1.out.size)⟩
    · have g5 : (k == 5) = false := by simpa using h5
      have g5' : (k != 5) = true := by simpa using h5
      obtain rfl : v = true := by rw [hv, g5']; rfl
      clear hv hb
      go_wp2_with fail
      go_quiet ((fail))
      go_wp2
      go_ret
      exact ⟨by simp, HB1.out.trans ((below_dN _ _ _).mono HB1.out.size)⟩
end Go.Proofs.Ytpdebnecfknohaa
