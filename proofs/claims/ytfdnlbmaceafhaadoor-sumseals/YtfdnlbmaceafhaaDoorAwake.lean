/-
  What the law's example 'awake' returns, where the table 'lines' holds its sixteen numbers.
-/
import Derived.Test.YtfdnlbmaceafhaaDoorRSum
import Derived.Lib.SlBytesConst
namespace Go.Proofs.YtfdnlbmaceafhaaDoor
open Go.RowKit

theorem crc_example : crc ones [49, 50, 51, 52, 53, 54, 55, 56, 57] = 58124007#32 := by decide +kernel

theorem of_len (A : Option Addr) (n c : Nat) (w : World) (l : List Nat) (hn : l.length = n) (hT : Tab w) (h : Src w A l) (hl : l.length ≤ 1048576000) (hby : ∀ x ∈ l, x < 256) :
    Calls Tryd.prog 10 #[.slice A n c] w fun e w' => e = .returned (.int .u32 ((crc ones l).toNat : Int)) ∧ w = w' := by
  subst hn
  exact of_any A c l w hT h hl hby

set_option maxHeartbeats 400000 in
theorem awake_any (w : World) (hT : Tab w) : Calls Tryd.prog 9 #[] w fun e w' => e = .returned (.bool true) ∧ Below w.heap.size w w' := by
  have HT := Lib.hid hT
  clear hT
  have kc := fun (w : World) (C : Array Value) (n c : Nat) => Lib.run_convert_bytes_const (P := Tryd.prog) w 22 5 C n c Tryd.underlying22 Tryd.underlying5
  go_enter Tryd.func9, Tryd.ntmps9
  go_wp2_with fail
  refine (of_len _ 9 _ _ [49, 50, 51, 52, 53, 54, 55, 56, 57] rfl (HT.out.old ((Below.refl _ _).alloc (Nat.le_refl _) _)) ⟨(fun h => by cases h), ?_⟩ (by simp) (by simp)).mono ?_
  · intro ad had j u hj
    injection had with had
    subst had
    have hp : (⟨w.heap.size, 0, none⟩ : Addr).add j = ⟨w.heap.size, j, none⟩ := by unfold Addr.add; split <;> simp_all
    rw [hp, World.cell?_alloc_mark]
    rw [← Array.getElem?_toList]
    exact hj
  rintro e w1 ⟨rfl, rfl⟩
  rw [crc_example]
  go_wp2
  go_ret
  exact ⟨rfl, (Below.refl _ _).alloc (Nat.le_refl _) _⟩
end Go.Proofs.YtfdnlbmaceafhaaDoor
