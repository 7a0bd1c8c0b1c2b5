/-
  A set in memory, as it is read and as it is owned; what list and Has return.
-/
import Derived.Test.YtkkkglmjipnfaaaDoorW
namespace Go.Proofs.YtkkkglmjipnfaaaDoor
open Go.RowKit
set_option linter.unusedVariables false

/-- A pointer that reads as a set: nil is an empty one. -/
structure Rd (w : World) (p : Value) (A : Option Addr) (c : Nat) (L : Bks) : Prop where
  good : Good L
  len : L.length ≤ 100000
  row : BR w A L
  ptr : (p = .pointer none ∧ A = none ∧ c = 0 ∧ L = []) ∨ ∃ g, p = .pointer (some ⟨g, 0, none⟩) ∧ w.cell? ⟨g, 0, none⟩ = some (.slice A L.length c)
theorem Rd.old {w w' : World} {p : Value} {A : Option Addr} {c : Nat} {L : Bks} (h : Rd w p A c L) (hb : Below w.heap.size w w') : Rd w' p A c L := by
  refine ⟨h.good, h.len, h.row.old hb, ?_⟩
  rcases h.ptr with h1 | ⟨g, rfl, hc⟩
  · exact .inl h1
  · exact .inr ⟨g, rfl, (World.cell?_of_block (hb.block g (World.block_lt_of_cell? w ⟨g, 0, none⟩ hc))).trans hc⟩
theorem Rd.nil (w : World) : Rd w (.pointer none) none 0 [] := ⟨good_nil, by simp, fun h => by simp at h, .inl ⟨rfl, rfl, rfl, rfl⟩⟩

set_option maxHeartbeats 400000 in
theorem list_any (p : Value) (A : Option Addr) (c : Nat) (L : Bks) (w : World) (h : Rd w p A c L) : Calls Tryd.prog 27 #[p] w fun e w' => e = .returned (.slice A L.length c) ∧ w = w' := by
  rcases h.ptr with ⟨rfl, rfl, rfl, rfl⟩ | ⟨g, rfl, hc⟩
  · clear h
    go_enter Tryd.func27, Tryd.ntmps27
    go_wp2
    go_ret
    exact ⟨rfl, rfl⟩
  · clear h
    go_enter Tryd.func27, Tryd.ntmps27
    go_wp2
    go_ret
    exact ⟨rfl, rfl⟩

theorem and_bit (x k : Nat) (hx : x < 18446744073709551616) (hk : k < 64) : (bits .and .u64 (x : Int) ((2 ^ k : Nat) : Int) != 0) = x.testBit k := by
  have hp : 2 ^ k < 18446744073709551616 := Nat.lt_of_lt_of_eq (Nat.pow_lt_pow_right (by decide) hk) (show (2 : Nat) ^ 64 = 18446744073709551616 by decide)
  rw [u64_and_nat x (2 ^ k) hx hp, nat_bit]
  rw [Nat.testBit_eq_decide_div_mod_eq]
  have h2 := Nat.two_pow_pos k
  rcases Nat.mod_two_eq_zero_or_one (x / 2 ^ k) with h | h
  · rw [h]; simp
  · rw [h]
    generalize 2 ^ k = y at *
    simp
    omega

set_option maxHeartbeats 400000 in
theorem has_any (p : Value) (A : Option Addr) (c : Nat) (L : Bks) (n : Int) (w : World) (h : Rd w p A c L) (h1 : -9223372036854775808 ≤ n) (h2 : n ≤ 9223372036854775807) :
    Calls Tryd.prog 21 #[p, .int .i64 n] w fun e w' => e = .returned (.bool (has L n)) ∧ Below w.heap.size w w' := by
  have HR := Lib.hid h
  have E : Hid ((bits .and .u64 (look L (n / 64) : Int) ((2 ^ (n % 64).toNat : Nat) : Int) != 0) = has L n) := by
    have := look_lt h.good (n / 64)
    unfold two64 at this
    exact and_bit _ _ this (by omega)
  clear h
  go_enter Tryd.func21, Tryd.ntmps21
  go_wp2_with fail
  refine (bitof_any n _ h1 h2).mono ?_
  rintro e w1 ⟨rfl, k, rfl⟩
  have HR1 := Lib.hid (HR.out.old (below_drewN (Below.refl _ _) k))
  have HB1 := Lib.hid (below_drewN (Below.refl w.heap.size w) k)
  generalize w.drewN k = w1 at HR1 HB1 ⊢
  generalize ((2 ^ (n % 64).toNat : Nat) : Int) = bt at E ⊢
  go_wp2_with fail
  refine (list_any _ _ _ _ _ HR1.out).mono ?_
  rintro e w2 ⟨rfl, rfl⟩
  go_wp2_with fail
  refine (find_any _ _ _ _ _ HR1.out.good HR1.out.row (by have := HR1.out.len; omega)).mono ?_
  rintro e w2 ⟨r, rfl, hat, hb⟩
  have HB2 := Lib.hid (HB1.out.trans (hb.mono HB1.out.size))
  clear hb hat
  go_wp2
  go_ret
  exact ⟨congrArg (fun z => Ending.returned (.bool z)) E.out, HB2.out⟩
end Go.Proofs.YtkkkglmjipnfaaaDoor
