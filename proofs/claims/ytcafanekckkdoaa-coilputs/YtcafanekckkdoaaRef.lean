/-
  What the reference's Put returns, for every uint64: a new slice of the number's bytes.
-/
import Derived.Test.YtcafanekckkdoaaRdr3
namespace Go.Proofs.Ytcafanekckkdoaa
open Go.RowKit

/-- A new slice that reads as the bytes l. -/
def Fresh (w : World) (l : List Nat) (e : Ending) (w' : World) : Prop :=
  ∃ v, e = .returned v ∧ w'.ownsRow w.heap.size 5 1 v l.length (l.map B) ∧ Below w.heap.size w w'

theorem one_new (w : World) (x : Nat) : ∀ j u, ([x].map B)[j]? = some u → (w.alloc (.cells #[B x] 5)).cell? ((⟨w.heap.size, 0, none⟩ : Addr).add j) = some u :=
  cell_one_new w (B x) 5

set_option maxRecDepth 20000 in
set_option maxHeartbeats 400000 in
theorem high_any (n : Nat) : ∀ (w : World), n < 18446744073709551616 → Calls Try.prog 28 #[.int .u64 n] w (Fresh w (hi n)) := by
  induction n using Nat.strongRecOn with
  | ind n ih =>
    intro w hn
    obtain ⟨i0, hi0, hz0, hz1, hz2⟩ := info_parts info5
    by_cases h : n < 128
    · have hx : IntKind.u8.wrap ((n : Int)) = n := by rw [IntKind.wrap_u8]; omega
      have hy : IntKind.u8.wrap ((n : Int) + 128) = n + 128 := by rw [IntKind.wrap_u8]; omega
      have hh : Hid (hi n = [n + 128]) := by show _ = _; rw [hi, if_pos h]
      clear ih hn
      go_enter Try.func28, Try.ntmps28
      go_wp2
      go_ret
      rw [hh.out]
      refine ⟨.slice (some ⟨w.heap.size, 0, none⟩) 1 1, rfl, ⟨rfl, .inr ⟨w.heap.size, 1, #[B (n + 128)], rfl, Nat.le_refl _, heap_alloc_new w _, by simp, by unfold maxLen; omega, rfl, rfl⟩⟩, (Below.refl _ _).alloc (Nat.le_refl _) _⟩
    · have IH := Lib.hid (ih (n / 128) (by omega))
      have hlen := hi_len (n / 128) 9 (by rw [show (128 : Nat) ^ 9 = 9223372036854775808 from by decide]; omega) (by omega)
      have Hn := Lib.hid hn
      have hh : Hid (hi n = hi (n / 128) ++ [n % 128 + 128]) := by show _ = _; rw [hi, if_neg h]
      have hdiv : IntKind.u64.wrap ((n : Int) / 128) = ((n / 128 : Nat) : Int) := by rw [IntKind.wrap_u64]; omega
      have Hdiv := Lib.hid hdiv
      have hrem : IntKind.u64.wrap ((n : Int).tmod 128) = (n : Int) % 128 := by rw [IntKind.wrap_u64, Int.tmod_eq_emod_of_nonneg (by omega)]; omega
      clear ih hn hdiv
      go_enter Try.func28, Try.ntmps28
      go_wp2_with fail
      rw [Hdiv.out]
      refine (IH.out _ (by have := Hn.out; omega)).mono ?_
      rintro e w1 ⟨v, rfl, hown, hb⟩
      have Hown := Lib.hid hown
      have HB := Lib.hid hb
      clear hown hb
      go_wp2_with (at_builtin; refine wpList_append_own_at _ rfl _ _ 22 rfl w.heap.size 5 i0 (.int .u8 0) 1 1 Try.underlying22 hi0 hz0 hz1 hz2 rfl (by decide) v _ _ rfl (Hown.out.alloc _) ⟨w1.heap.size, 0, none⟩ 1 1 [B (n % 128 + 128)] rfl rfl ?c2 ?c3 ?c4 ?c5 ?c6 ?_)
      case c2 => exact one_new w1 (n % 128 + 128)
      case c3 => exact B_one [n % 128 + 128]
      case c4 => unfold maxLen; omega
      case c5 => omega
      case c6 => have := HB.out.size; simp; omega
      intro v' w2 hown hg _ hat
      go_wp2
      go_ret
      rw [hh.out]
      refine ⟨v', rfl, by simpa using hown, (HB.out.alloc HB.out.size _).grown hg (by have := HB.out.size; simp; omega) (fun k hk => ?_)⟩
      exact (Hown.out.lt k hk).1

set_option maxRecDepth 20000 in
set_option maxHeartbeats 400000 in
theorem rput_any (n : Nat) (w : World) (hn : n < 18446744073709551616) : Calls Try.prog 14 #[.int .u64 n] w (Fresh w (put n)) := by
  obtain ⟨i0, hi0, hz0, hz1, hz2⟩ := info_parts info5
  by_cases h : n < 128
  · have hx : IntKind.u8.wrap ((n : Int)) = n := by rw [IntKind.wrap_u8]; omega
    have hh : Hid (put n = [n]) := by show _ = _; rw [put, if_pos h]
    clear hn
    go_enter Try.func14, Try.ntmps14
    go_wp2
    go_ret
    rw [hh.out]
    refine ⟨.slice (some ⟨w.heap.size, 0, none⟩) 1 1, rfl, ⟨rfl, .inr ⟨w.heap.size, 1, #[B n], rfl, Nat.le_refl _, heap_alloc_new w _, by simp, by unfold maxLen; omega, rfl, rfl⟩⟩, (Below.refl _ _).alloc (Nat.le_refl _) _⟩
  · have hlen := hi_len (n / 128) 9 (by rw [show (128 : Nat) ^ 9 = 9223372036854775808 from by decide]; omega) (by omega)
    have Hn := Lib.hid hn
    have hh : Hid (put n = hi (n / 128) ++ [n % 128]) := by show _ = _; rw [put, if_neg h]
    have hdiv : IntKind.u64.wrap ((n : Int) / 128) = ((n / 128 : Nat) : Int) := by rw [IntKind.wrap_u64]; omega
    have Hdiv := Lib.hid hdiv
    clear hn hdiv
    go_enter Try.func14, Try.ntmps14
    go_wp2_with fail
    rw [Hdiv.out]
    refine (high_any _ _ (by have := Hn.out; omega)).mono ?_
    rintro e w1 ⟨v, rfl, hown, hb⟩
    have Hown := Lib.hid hown
    have HB := Lib.hid hb
    clear hown hb
    go_wp2_with (at_builtin; refine wpList_append_own_at _ rfl _ _ 22 rfl w.heap.size 5 i0 (.int .u8 0) 1 1 Try.underlying22 hi0 hz0 hz1 hz2 rfl (by decide) v _ _ rfl (Hown.out.alloc _) ⟨w1.heap.size, 0, none⟩ 1 1 [B (n % 128)] rfl rfl ?c2 ?c3 ?c4 ?c5 ?c6 ?_)
    case c2 => exact one_new w1 (n % 128)
    case c3 => exact B_one [n % 128]
    case c4 => unfold maxLen; omega
    case c5 => omega
    case c6 => have := HB.out.size; simp; omega
    intro v' w2 hown hg _ hat
    go_wp2
    go_ret
    rw [hh.out]
    refine ⟨v', rfl, by simpa using hown, (HB.out.alloc HB.out.size _).grown hg (by have := HB.out.size; simp; omega) (fun k hk => ?_)⟩
    exact (Hown.out.lt k hk).1
end Go.Proofs.Ytcafanekckkdoaa
