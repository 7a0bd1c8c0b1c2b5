/-
  What the set's Len leaves.
-/
import Derived.Test.YtkkkglmjipnfaaaDoorTz
namespace Go.Proofs.YtkkkglmjipnfaaaDoor
open Go.RowKit
set_option linter.unusedVariables false

/-- How many numbers blocks have, by OnesCount64. -/
def lenF : Bks → Nat
  | [] => 0
  | p :: L => onesF p.2 + lenF L
theorem lenF_append (L M : Bks) : lenF (L ++ M) = lenF L + lenF M := by
  induction L with
  | nil => simp [lenF]
  | cons p L ih => simp [lenF, ih]; omega
theorem lenF_le (L : Bks) : lenF L ≤ 127 * L.length := by
  induction L with
  | nil => simp [lenF]
  | cons p L ih => have := onesF_le p.2; simp [lenF]; omega
theorem take_snocB (L : Bks) (k : Nat) (h : k < L.length) : L.take (k + 1) = L.take k ++ [L.getD k (0, 0)] := by
  rw [List.take_succ_eq_append_getElem h]; simp [h]

set_option maxRecDepth 20000 in
set_option maxHeartbeats 1000000 in
theorem len_any (p : Value) (A : Option Addr) (c : Nat) (L : Bks) (w : World) (h : Rd w p A c L) (hl : L.length ≤ 1000) :
    Calls Tryd.prog 22 #[p] w fun e w' => e = .returned (.int .i64 (lenF L : Nat)) ∧ Below w.heap.size w w' := by
  have HR := Lib.hid h
  clear h
  go_enter Tryd.func22, Tryd.ntmps22
  go_wp2_with fail
  refine (list_any _ _ _ _ _ HR.out).mono ?_
  rintro e w1 ⟨rfl, rfl⟩
  go_wp2_with fail
  go_loopw [3, 9] (fun t i wr => ∃ k : Nat, k ≤ L.length ∧ i = .int .i64 k ∧ t = .int .i64 ((lenF (L.take k) : Nat) : Int) ∧ Hid (Below w.heap.size w wr)) (fun _ i _ => L.length - (intOf i).toNat)
  case atStart => exact ⟨0, Nat.zero_le _, rfl, rfl, Below.refl _ _⟩
  case round =>
    obtain ⟨k, hk, rfl, rfl, hB⟩ := hrel
    have hle := lenF_le (L.take k)
    have hlt0 : (L.take k).length ≤ 1000 := by rw [List.length_take]; omega
    by_cases hlt : k < L.length
    · obtain ⟨b, o, rfl, hc⟩ := (HR.out.row.old hB.out) (by omega)
      obtain ⟨c1, c2⟩ := hc k hlt
      have Hts := Lib.hid (take_snocB L k hlt)
      have hgd := (HR.out.good.2 _ (getD_mem hlt)).2.2.2
      generalize L.getD k (0, 0) = q at *
      obtain ⟨a, x⟩ := q
      unfold two64 at hgd
      simp only at c1 c2 hgd
      have hon := onesF_le x
      have HL : Hid (lenF (L.take (k + 1)) = lenF (L.take k) + onesF x) := by show _ = _; rw [Hts.out, lenF_append]; simp [lenF]
      generalize lenF (L.take k) = t at *
      clear hc
      have Hgd := Lib.hid hgd
      clear hgd
      go_wp2_with fail
      refine (ones_any x _ Hgd.out).mono ?_
      rintro e w2 ⟨rfl, rfl⟩
      generalize onesF x = o1 at *
      go_wp2
      go_roundw
      case rel =>
        exact ⟨k + 1, by omega, by go_num, by rw [HL.out]; go_num, hB.out.alloc hB.out.size _⟩
      case measure => simp [intOf]; omega
    · obtain rfl : k = L.length := by omega
      rw [List.take_length]
      go_wp2
      go_ret
      exact ⟨rfl, hB.out⟩
end Go.Proofs.YtkkkglmjipnfaaaDoor
