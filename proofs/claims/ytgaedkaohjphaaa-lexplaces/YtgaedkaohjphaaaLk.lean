/-
  The walk of LexPlaces.
-/
import Derived.Test.YtgaedkaohjphaaaLj
import Derived.Test.YtgaedkaohjphaaaLl
namespace Go.Proofs.Ytgaedkaohjphaaa
open Go.RowKit
set_option linter.unusedVariables false
set_option linter.unusedSimpArgs false
set_option maxRecDepth 20000

set_option maxHeartbeats 4000000 in
theorem places_walk (A : Option Addr) (n c : Nat) (at_ : Int) (p : List UInt8) (w : World) (h : Src w A n p) (hc : n ≤ c) (hA : A = none → c = 0) (hg : G0 w) :
    Calls Try.prog 5 #[.slice A n c, .int .i64 at_] w fun e w' => e = .returned (.bool true) ∧ Below w.heap.size w w' := by
  have HS := Lib.hid h
  have HG := Lib.hid hg
  have HAw := fun wx (hx : Below w.heap.size w wx) => awake_any wx (HG.out.old hx)
  clear h hg
  go_enter Try.func5, Try.ntmps5
  go_wp2_with fail
  refine (HAw w (Below.refl _ _)).mono ?_
  rintro e w1 ⟨rfl, hb1⟩
  have HB1 := Lib.hid hb1
  clear hb1
  by_cases h300 : 300 < n
  · have h3i : (300 : Int) < (n : Int) := by omega
    go_wp2_with fail
    refine (HAw w1 HB1.out).mono ?_
    rintro e w2 ⟨rfl, hb2⟩
    go_wp2
    go_ret
    exact ⟨rfl, HB1.out.trans (hb2.mono HB1.out.size)⟩
  have h3i : ¬ (300 : Int) < (n : Int) := by omega
  obtain ⟨k, hk⟩ : ∃ k : Nat, min (max at_ 0) (n : Int) = (k : Int) := ⟨(min (max at_ 0) (n : Int)).toNat, by omega⟩
  have hkn : k ≤ n := by omega
  have hkk : min (max (k : Int) 0) (n : Int) = (k : Int) := by omega
  have HPl := Lib.hid (fun wx (hx : Below w.heap.size w wx) => place_any A n c at_ k p wx (HS.out.old hx) hc (by omega) hk hA)
  have HSy := Lib.hid (fun wx (hx : Below w.heap.size w wx) => syntax_any A n c (k : Int) k p wx (HS.out.old hx) hc (by omega) hkk hA)
  have hR := fun wx (hx : Below w.heap.size w wx) => rplace_any A n c (nums p) k wx (by rw [nums_len]; exact HS.out.1) (HS.out.old hx).ints (by omega) hkn
  rw [place_eq p k (by rw [HS.out.1]; exact hkn)] at hR
  have HR := Lib.hid hR
  have HK := Lib.hid hk
  clear hR hk hkk HAw
  unfold colF at HPl HSy
  generalize 1 + ((p.take k).count 10 : Int) = l1 at *
  generalize (k : Int) - lastK p 10 k = l2 at *
  dsimp only at HPl HSy HR
  go_wp2_with fail
  simp only [HK.out]
  refine (HPl.out w1 HB1.out).mono ?_
  rintro e w2 ⟨rfl, hb2⟩
  have HB2 := Lib.hid (HB1.out.trans (hb2.mono HB1.out.size))
  clear hb2 HPl
  go_wp2_with fail
  refine (HR.out w2 HB2.out).mono ?_
  rintro e w3 ⟨rfl, rfl⟩
  clear HR
  go_wp2_with fail
  refine (HSy.out w2 HB2.out).mono ?_
  rintro e w4 ⟨rfl, hb4⟩
  have hbf := HB2.out.trans (hb4.mono HB2.out.size)
  clear hb4 HSy
  unfold synV
  go_wp2
  go_ret
  exact ⟨rfl, hbf.alloc hbf.size _⟩
end Go.Proofs.Ytgaedkaohjphaaa
