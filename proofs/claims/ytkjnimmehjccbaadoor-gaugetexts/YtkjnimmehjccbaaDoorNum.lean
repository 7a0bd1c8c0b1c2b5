/-
  What the reference's Num returns: the decimal numeral.
-/
import Derived.Test.YtkjnimmehjccbaaDoorMean
import Derived.BigRegion
import Derived.Deep.RegionWith
import Derived.Laws.BytesString
import Derived.Laws.OwnMore
import Derived.IntWalk
namespace Go.Proofs.YtkjnimmehjccbaaDoor
open Go.RowKit

theorem conv_one (z : Int) (w : World) (g : Nat) (h : w.cell? ⟨g, 0, none⟩ = some (.int .u8 z)) :
    (convert 49 9 (.slice (some ⟨g, 0, none⟩) 1 1)).run Tryd.prog w = .ok (.string ⟨#[UInt8.ofNat z.toNat]⟩) w := by
  rw [run_convert_bytes_string w 49 9 5 _ _ 1 Tryd.underlying49 Tryd.underlying5 Tryd.underlying9]
  refine (run_bytesToString (P := Tryd.prog) w ⟨g, 0, none⟩ 1 1 [z] (run_loadCells_list (P := Tryd.prog) w ⟨g, 0, none⟩ [.int .u8 z] (fun j v hj => ?_))).trans rfl
  have hj0 : j = 0 := by
    rcases Nat.eq_zero_or_pos j with h1 | h1
    · exact h1
    · rw [List.getElem?_eq_none (by simp; omega)] at hj; cases hj
  subst hj0
  simp at hj
  subst hj
  rw [Go.WideShapes.add_plain]
  exact h

theorem bcell {W w1 : World} (hb : Below W.heap.size W w1) : (∀ b o, b < W.heap.size → w1.cell? ⟨b, o, none⟩ = W.cell? ⟨b, o, none⟩) ∧ (∀ b o, b < W.heap.size → w1.frozen? ⟨b, o, none⟩ = W.frozen? ⟨b, o, none⟩) :=
  ⟨fun b o h => hb.cell (p := ⟨b, o, none⟩) h, fun b o h => hb.frozen (p := ⟨b, o, none⟩) h⟩

set_option maxHeartbeats 400000 in
theorem num_small (n : Nat) (w : World) (h : n < 10) : Calls Tryd.prog 21 #[.int .i64 n] w fun e w' => e = .returned (.string ⟨(Lib.decDigits n).toArray⟩) ∧ Below w.heap.size w w' := by
  have h1 : ((n : Int) < 10) := by omega
  have HC := conv_one (48 + (n : Int)) (w.alloc (.cells #[.int .u8 (48 + (n : Int))] 5)) w.heap.size (by simp)
  go_enter Tryd.func21, Tryd.ntmps21
  go_wp2
  go_ret
  refine ⟨?_, (Below.refl _ _).alloc (Nat.le_refl _) _⟩
  rw [Lib.decDigits_one h]
  show Ending.returned (.string ⟨#[UInt8.ofNat (48 + (n : Int)).toNat]⟩) = _
  rw [show (48 + (n : Int)).toNat = 48 + n from by omega]

theorem digits_step (n : Nat) (h : ¬ n < 10) : (⟨(Lib.decDigits n).toArray⟩ : ByteArray) = ⟨(Lib.decDigits (n / 10)).toArray⟩ ++ ⟨#[48 + UInt8.ofNat (n % 10)]⟩ := by
  rw [Lib.decDigits, dif_neg h, ← bytes_append]
  have : UInt8.ofNat (48 + n % 10) = 48 + UInt8.ofNat (n % 10) := by rw [UInt8.ofNat_add]; rfl
  rw [this]
set_option maxRecDepth 20000 in
set_option maxHeartbeats 1000000 in
theorem num_any (n : Nat) : ∀ (w : World), n ≤ 9223372036854775807 → Calls Tryd.prog 21 #[.int .i64 n] w fun e w' => e = .returned (.string ⟨(Lib.decDigits n).toArray⟩) ∧ Below w.heap.size w w' := by
  induction n using Nat.strongRecOn with
  | ind n ih =>
    intro w hn
    by_cases h : n < 10
    · exact num_small n w h
    · have IH := Lib.hid (ih (n / 10) (by omega))
      have hlen := digits_le (n / 10) (by omega)
      have h0 : ¬ (n : Int) < 10 := by omega
      have Hn := Lib.hid hn
      have HC := fun w g => conv_one (48 + (n : Int) % 10) w g
      have hq : IntKind.i64.wrap ((n : Int) / 10) = (n : Int) / 10 := IntWalk.i64_in _ (by omega)
      have ht : IntKind.u8.wrap (IntKind.i64.wrap (48 + (n : Int).tmod 10)) = 48 + (n : Int) % 10 := by
        rw [Int.tmod_eq_emod_of_nonneg (by omega), IntWalk.i64_in _ (by omega), IntKind.wrap_u8']
        omega
      have IHz : Hid (∀ w, Calls Tryd.prog 21 #[.int .i64 ((n : Int) / 10)] w fun e w' => e = .returned (.string ⟨(Lib.decDigits (n / 10)).toArray⟩) ∧ Below w.heap.size w w') := by
        intro w
        have := IH.out w (by omega)
        rwa [show ((n / 10 : Nat) : Int) = (n : Int) / 10 from by omega] at this
      clear ih hn
      go_enter Tryd.func21, Tryd.ntmps21
      go_wp2_with fail
      go_region_with ((go_at_call 21; refine (IHz.out _).mono ?_; rintro e w' ⟨rfl, hb⟩; obtain ⟨hcc, hff⟩ := bcell hb; have hz := hb.size; have HB := Lib.hid hb; clear hb))
      · go_wp2
        go_ret
        refine ⟨by rw [digits_step n h]; rfl, ?_⟩
        have hb := HB.out
        exact ((below_drew w).trans (hb.mono (Nat.le_refl _))).alloc (by have := hb.size; simpa using this) _
      · go_wp2
        go_ret
        refine ⟨by rw [digits_step n h]; rfl, ?_⟩
        have hb := HB.out
        exact (((Below.refl w.heap.size w).alloc (Nat.le_refl _) _).drew).trans (hb.mono (by simp))
      · go_wp2
        go_ret
        refine ⟨by rw [digits_step n h]; rfl, ?_⟩
        have hb := HB.out
        exact (((Below.refl w.heap.size w).alloc (Nat.le_refl _) _).drew).trans (hb.mono (by simp))
end Go.Proofs.YtkjnimmehjccbaaDoor
