/-
  What the law's short, the closure of Flat, walk over it, and Flat leave.
-/
import Derived.Test.YtpjoggefklohjaaFi
import Derived.Test.YtpjoggefklohjaaRa
namespace Go.Proofs.Ytpjoggefklohjaa
open Go.RowKit
set_option linter.unusedVariables false

theorem info48 : (Try.prog.info? 48).map (fun i => (i.zero, i.size, i.bytes)) = some (some (.agg #[.int .i64 0, .int .i64 0, .int .u8 0, .int .u8 0, .int .i64 0, .int .u8 0, .int .i64 0, .slice none 0 0, .slice none 0 0]), 9, 104) := by kernel_rfl
theorem info49 : (Try.prog.info? 49).map (fun i => (i.zero, i.size, i.bytes)) = some (some (.agg #[.int .i64 0, .int .i64 0, .int .u8 0, .int .u8 0, .int .i64 0, .int .u8 0, .int .i64 0, .slice none 0 0, .slice none 0 0]), 9, 104) := by kernel_rfl
/-- A truth, and nothing else. -/
def AnyB (w : World) (e : Ending) (w' : World) : Prop := ∃ v, e = .returned (.bool v) ∧ w' = w

set_option maxRecDepth 20000 in
set_option maxHeartbeats 2000000 in
theorem short_any (N : Nat) : ∀ (t : Bd) (deep : Nat) (A : Option Addr) (c : Nat) (w : World), t.size ≤ N → deep ≤ 13 → t.size ≤ 1000000000 → t.wide ≤ 1000000000 → BodyV w A t →
    Calls Try.prog 9 #[.slice A t.len c, .int .i64 deep] w (AnyB w) := by
  induction N with
  | zero =>
    intro t deep A c w hN hd hsz hwd hV
    have ht : t = .nil := by cases t <;> simp [Bd.size] at hN ⊢
    subst ht
    clear hV
    simp only [Bd.len]
    by_cases h12 : deep ≤ 12
    · have h12i : ¬ (12 : Int) < (deep : Int) := by omega
      go_enter Try.func9, Try.ntmps9
      go_wp2_with fail
      go_loopw [5] (fun s5 wr => s5 = .int .i64 0 ∧ wr = w) (fun _ _ => 0)
      case atStart => exact ⟨rfl, rfl⟩
      case round =>
        obtain ⟨rfl, rfl⟩ := hrel
        go_wp2
        go_ret
        exact ⟨_, rfl, rfl⟩
    · have h12i : (12 : Int) < (deep : Int) := by omega
      go_enter Try.func9, Try.ntmps9
      go_wp2
      go_ret
      exact ⟨_, rfl, rfl⟩
  | succ N ih =>
    intro t deep A c w hN hd hsz hwd hV
    have IH := Lib.hid ih
    have HV := Lib.hid hV
    have hlen : t.len ≤ 1000000000 := by have := Bd.len_le t; omega
    clear hV ih
    by_cases h12 : deep ≤ 12
    · have h12i : ¬ (12 : Int) < (deep : Int) := by omega
      by_cases h30 : 30 < t.len
      · have h30i : (30 : Int) < (t.len : Int) := by omega
        go_enter Try.func9, Try.ntmps9
        go_wp2
        go_ret
        exact ⟨_, rfl, rfl⟩
      · have h30i : ¬ (30 : Int) < (t.len : Int) := by omega
        go_enter Try.func9, Try.ntmps9
        go_wp2_with fail
        go_loopw [5] (fun s5 wr => ∃ (i : Nat), s5 = .int .i64 i ∧ i ≤ t.len ∧ wr = w) (fun s5 _ => t.len - (intOf s5).toNat)
        case atStart => exact ⟨0, rfl, Nat.zero_le _, rfl⟩
        case round =>
          obtain ⟨i, rfl, hi, rfl⟩ := hrel
          by_cases hlt : i < t.len
          · obtain ⟨k, a1, a2, b1, b2, args, sub, rest, hdr⟩ := Bd.drop_cons t i hlt
            obtain ⟨b, o, rfl, hat⟩ := HV.out (by omega)
            have hat0 := hat.drop t b o i
            rw [hdr] at hat0
            obtain ⟨⟨d0, d1, d2, d3, d4⟩, ⟨va, d5, ⟨Aa, ca, rfl, _⟩⟩, ⟨As, cs, d6, hsub⟩, _⟩ := hat0
            have HSub : Hid (BodyV wr As sub) := hsub
            have hs := Bd.sub_size t i hdr
            have hal : args.length ≤ 1000000000 := by omega
            have hss : sub.size ≤ N ∧ sub.size ≤ 1000000000 ∧ sub.wide ≤ 1000000000 := by omega
            obtain ⟨la, hla⟩ : ∃ la, la = args.length := ⟨_, rfl⟩
            rw [← hla] at d5 hal
            have hI := IH.out sub (deep + 1) As cs wr hss.1 (by omega) hss.2.1 hss.2.2 HSub.out
            rw [show ((deep + 1 : Nat) : Int) = (deep : Int) + 1 from by omega] at hI
            have HI := Lib.hid hI
            clear hI hat hdr hsub d0 d1 d2 d3 d4 hla hs
            by_cases h20 : 20 < la
            · have h20i : (20 : Int) < (la : Int) := by omega
              go_wp2
              go_ret
              exact ⟨_, rfl, rfl⟩
            · have h20i : ¬ (20 : Int) < (la : Int) := by omega
              go_wp2_with fail
              refine HI.out.mono ?_
              rintro e w3 ⟨v, rfl, rfl⟩
              cases v with
              | true =>
                go_wp2
                go_roundw
                case rel => exact ⟨i + 1, by go_num, by omega, by first | rfl | trivial⟩
                case measure => simp [intOf]; omega
              | false =>
                go_wp2
                go_ret
                exact ⟨_, rfl, rfl⟩
          · obtain rfl : i = t.len := by omega
            go_wp2
            go_ret
            exact ⟨_, rfl, rfl⟩
    · have h12i : (12 : Int) < (deep : Int) := by omega
      go_enter Try.func9, Try.ntmps9
      go_wp2
      go_ret
      exact ⟨_, rfl, rfl⟩
end Go.Proofs.Ytpjoggefklohjaa
