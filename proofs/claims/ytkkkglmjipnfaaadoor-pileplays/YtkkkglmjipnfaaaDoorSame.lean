/-
  What Same leaves.
-/
import Derived.Test.YtkkkglmjipnfaaaDoorAw
import Derived.StillTactics
namespace Go.Proofs.YtkkkglmjipnfaaaDoor
open Go.RowKit
set_option linter.unusedVariables false

theorem list_ext_getD {L M : Bks} (hl : L.length = M.length) (h : ∀ i, i < L.length → L.getD i (0, 0) = M.getD i (0, 0)) : L = M := by
  apply List.ext_getElem hl
  intro i h1 h2
  have := h i h1
  simpa [List.getD, h1, h2] using this

set_option maxRecDepth 20000 in
set_option maxHeartbeats 1000000 in
theorem equal_any (A1 A2 : Option Addr) (c1 c2 : Nat) (L M : Bks) (w : World) (h1 : BR w A1 L) (h2 : BR w A2 M) (hl : L.length ≤ 100000) (hm : M.length ≤ 100000) :
    Calls Tryd.prog 30 #[.slice A1 L.length c1, .slice A2 M.length c2] w fun e w' => e = .returned (.bool (decide (L = M))) ∧ Below w.heap.size w w' := by
  have H1 := Lib.hid h1
  have H2 := Lib.hid h2
  clear h1 h2
  by_cases hlen : L.length = M.length
  · obtain ⟨N, hN⟩ : ∃ N, N = L.length := ⟨_, rfl⟩
    rw [← hlen, ← hN]
    have HN := Lib.hid hN
    rw [← hN] at hl
    clear hN hm
    go_enter Tryd.func30, Tryd.ntmps30
    go_wp2_with fail
    go_loopw [13] (fun i wr => ∃ k : Nat, k ≤ N ∧ i = .int .i64 k ∧ Hid (∀ j, j < k → L.getD j (0, 0) = M.getD j (0, 0)) ∧ Hid (Below w.heap.size w wr)) (fun i _ => N - (intOf i).toNat)
    case atStart => exact ⟨0, Nat.zero_le _, rfl, (fun j hj => by omega), Below.refl _ _⟩
    case round =>
      obtain ⟨k, hk, rfl, hE, hB⟩ := hrel
      by_cases hlt : k < N
      · obtain ⟨b1, o1, rfl, d1⟩ := (H1.out.old hB.out) (by have := HN.out; omega)
        obtain ⟨b2, o2, rfl, d2⟩ := (H2.out.old hB.out) (by have := HN.out; omega)
        obtain ⟨c11, c12⟩ := d1 k (by have := HN.out; omega)
        obtain ⟨c21, c22⟩ := d2 k (by have := HN.out; omega)
        have HLk : Hid (L.getD k (0, 0) = M.getD k (0, 0) ∨ L ≠ M) := by
          by_cases e : L.getD k (0, 0) = M.getD k (0, 0)
          · exact .inl e
          · exact .inr (fun e2 => e (by rw [e2]))
        have HNe : Hid (L.getD k (0, 0) ≠ M.getD k (0, 0) → decide (L = M) = false) := fun e => decide_eq_false (fun e2 => e (by rw [e2]))
        generalize hp : L.getD k (0, 0) = p at *
        generalize hq : M.getD k (0, 0) = q at *
        have HP := Lib.hid hp
        have HQ := Lib.hid hq
        clear hp hq
        obtain ⟨a1, x1⟩ := p
        obtain ⟨a2, x2⟩ := q
        simp only at c11 c12 c21 c22
        clear d1 d2
        by_cases e : a1 = a2 ∧ x1 = x2
        · obtain ⟨rfl, rfl⟩ := e
          go_upto_region 6 with (fail)
          go_still (by kernel_rfl)
          go_wp2
          go_roundw
          case rel =>
            refine ⟨k + 1, by omega, by go_num, ?_, ?_⟩
            · intro j hj
              by_cases hjk : j = k
              · subst hjk; exact HP.out.trans HQ.out.symm
              · exact hE.out j (by omega)
            · exact hB.out.drew
          case measure => simp [intOf]; omega
        · have HNE := Lib.hid (HNe.out (fun e2 => e (by injection e2 with h1 h2; exact ⟨h1, h2⟩)))
          by_cases ha : a1 = a2
          · subst ha
            have hx : ((x1 : Int) == (x2 : Int)) = false := by simp at e ⊢; omega
            have hx2 : ¬ ((x1 : Int) = (x2 : Int)) := by simpa using hx
            clear e
            go_upto_region 6 with (fail)
            go_still (by kernel_rfl)
            go_wp2
            go_ret
            exact ⟨congrArg (fun b => Ending.returned (Value.bool b)) HNE.out.symm, hB.out.drew⟩
          · have hx : (a1 == a2) = false := by simpa using ha
            clear e
            go_upto_region 6 with (fail)
            go_still (by kernel_rfl)
            go_wp2
            go_ret
            exact ⟨congrArg (fun b => Ending.returned (Value.bool b)) HNE.out.symm, hB.out.drew⟩
      · obtain rfl : k = N := by omega
        have HF : Hid (L = M) := list_ext_getD hlen (fun j hj => hE.out j (by have := HN.out; omega))
        go_wp2
        go_ret
        exact ⟨congrArg (fun b => Ending.returned (Value.bool b)) (decide_eq_true HF.out).symm, hB.out⟩
  · have HD : Hid (decide (L = M) = false) := decide_eq_false (fun e => hlen (by rw [e]))
    have hni : ((L.length : Int) == (M.length : Int)) = false := by simp; omega
    go_enter Tryd.func30, Tryd.ntmps30
    go_wp2
    go_ret
    exact ⟨congrArg (fun b => Ending.returned (Value.bool b)) HD.out.symm, Below.refl _ _⟩

set_option maxHeartbeats 400000 in
theorem same_any (p q : Value) (A B : Option Addr) (c d : Nat) (L M : Bks) (w : World) (h1 : Rd w p A c L) (h2 : Rd w q B d M) :
    Calls Tryd.prog 16 #[p, q] w fun e w' => e = .returned (.bool (decide (L = M))) ∧ Below w.heap.size w w' := by
  have H1 := Lib.hid h1
  have H2 := Lib.hid h2
  clear h1 h2
  go_enter Tryd.func16, Tryd.ntmps16
  go_wp2_with fail
  refine (list_any _ _ _ _ _ H1.out).mono ?_
  rintro e w1 ⟨rfl, rfl⟩
  go_wp2_with fail
  refine (list_any _ _ _ _ _ H2.out).mono ?_
  rintro e w1 ⟨rfl, rfl⟩
  go_wp2_with fail
  refine (equal_any _ _ _ _ _ _ _ H1.out.row H2.out.row H1.out.len H2.out.len).mono ?_
  rintro e w1 ⟨rfl, hb⟩
  have HB := Lib.hid hb
  clear hb
  go_wp2
  go_ret
  exact ⟨rfl, HB.out⟩
end Go.Proofs.YtkkkglmjipnfaaaDoor
