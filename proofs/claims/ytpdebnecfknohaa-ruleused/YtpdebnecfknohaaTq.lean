/-
  What room and the rules on a function leave.
-/
import Derived.Test.YtpdebnecfknohaaTp
namespace Go.Proofs.Ytpdebnecfknohaa
open Go.RowKit
set_option linter.unusedVariables false
set_option linter.unusedSimpArgs false
set_option maxRecDepth 20000

set_option maxHeartbeats 2000000 in
theorem room_any (N : Nat) : ∀ (t : Bd) (A : Option Addr) (c : Nat) (m : Int) (w : World), t.size ≤ N → t.size ≤ 100000000 → -1000000000 ≤ m → m ≤ 1000000000 → BodyV w A t → Calls Try.prog 62 #[.slice A t.len c, .int .i64 m] w (InB w (roomF t m)) := by
  induction N with
  | zero =>
    intro t A c m w hN _ hm1 hm2 hV
    have ht : t = .nil := by cases t <;> simp [Bd.size] at hN ⊢
    subst ht
    clear hV
    simp only [Bd.len, roomF]
    go_enter Try.func62, Try.ntmps62
    go_wp2_with fail
    go_loopw [1, 9] (fun s1 s wr => s1 = .int .i64 m ∧ s = .int .i64 0 ∧ wr = w) (fun _ _ _ => 0)
    case atStart => exact ⟨rfl, rfl, rfl⟩
    case round =>
      obtain ⟨rfl, rfl, rfl⟩ := hrel
      go_wp2
      go_ret
      exact ⟨rfl, Below.refl _ _⟩
  | succ N ih =>
    intro t A c m w hN hbig hm1 hm2 hV
    have IH := Lib.hid ih
    have HV := Lib.hid hV
    obtain ⟨v, hv⟩ : ∃ v, roomF (t.drop 0) m = v := ⟨_, rfl⟩
    have HV0 : Hid (roomF (t.drop 0) m = v) := hv
    rw [show roomF t m = roomF (t.drop 0) m from by simp [Bd.drop], hv]
    have hlen := Bd.len_le t
    obtain ⟨n, hn⟩ : ∃ n, n = t.len := ⟨_, rfl⟩
    have HN := Lib.hid hn
    rw [← hn] at hlen ⊢
    clear hV ih hv hn
    go_enter Try.func62, Try.ntmps62
    go_wp2_with fail
    go_loopw [1, 9] (fun s1 s9 wr => ∃ (i : Nat) (mi : Int), i ≤ n ∧ s9 = .int .i64 (i : Int) ∧ s1 = .int .i64 mi ∧ -1000000000 - (i : Int) ≤ mi ∧ mi ≤ 1000000000 ∧ Hid (roomF (t.drop i) mi = v) ∧ Hid (Below w.heap.size w wr)) (fun _ s9 _ => n - (intOf s9).toNat)
    case atStart => exact ⟨0, m, Nat.zero_le _, rfl, rfl, by omega, hm2, HV0, Below.refl _ _⟩
    case round =>
      clear HV0
      obtain ⟨i, mi, hi, rfl, rfl, hmi1, hmi2, hE, hB⟩ := hrel
      by_cases hlt : i < n
      · have hiL : i < t.len := by rw [← HN.out]; exact hlt
        have hli : (i : Int) < (n : Int) := by omega
        obtain ⟨k, a1, a2, b1, b2, xs, sub, rest, hdr⟩ := Bd.drop_cons t i hiL
        obtain ⟨b, o, rfl, hat⟩ := HV.out (by omega)
        have hat0 := hat.drop t b o i
        have hsz1 := Bd.size_drop t i
        have Hnx := Lib.hid (Bd.drop_succ t i hdr)
        have hE2 := hE.out
        rw [hdr] at hat0 hsz1 hE2
        simp only [Bd.size] at hsz1
        simp only [roomF] at hE2
        obtain ⟨⟨d0, d1, d2, d3, d4⟩, ⟨va, d5, ⟨Aa, ca, rfl, _⟩⟩, ⟨As, cs, d6, hsub⟩, _⟩ := hat0
        have hbl : b < w.heap.size := World.block_lt_of_cell? w ⟨b, o + i * 7, none⟩ d0
        have e0 := cell_old hB.out hbl d0
        have e1 := cell_old hB.out hbl d1
        have e2 := cell_old hB.out hbl d2
        have e3 := cell_old hB.out hbl d3
        have e4 := cell_old hB.out hbl d4
        have e5 := cell_old hB.out hbl d5
        have e6 := cell_old hB.out hbl d6
        have HSub : Hid (BodyV w As sub) := hsub
        have HE2 := Lib.hid hE2
        have HBA : Hid (Below w.heap.size w (wr.alloc (.cells #[.int .u8 k, .int .u8 a1, .int .i64 a2, .int .u8 b1, .int .i64 b2, .slice Aa xs.length ca, .slice As sub.len cs] 50))) := hB.out.alloc hB.out.size _
        clear hat hdr hsub d0 d1 d2 d3 d4 d5 d6 hE2 hE
        have hrl := roomF_le sub (mi - 1)
        by_cases hc : 0 ≤ mi - 1 ∧ k = 7
        · obtain ⟨hm0, rfl⟩ := hc
          have hE3 := HE2.out
          have hc7 : 0 ≤ mi - 1 ∧ (7 : Int) = 7 := ⟨hm0, rfl⟩
          rw [if_pos hc7] at hE3
          clear hc7
          have HE3 := Lib.hid hE3
          have hnn := roomF_nn sub (mi - 1) hm0
          have HI := Lib.hid (IH.out sub As cs (mi - 1) _ (by omega) (by omega) (by omega) (by omega) (HSub.out.old HBA.out))
          clear hE3 HE2
          go_wp2_with fail
          refine HI.out.mono ?_
          rintro e w2 ⟨rfl, hb2⟩
          have HB2 := Lib.hid (HBA.out.trans (hb2.mono HBA.out.size))
          clear hb2 e0 e1 e2 e3 e4 e5 e6 HI
          generalize roomF sub (mi - 1) = y at *
          by_cases hy : y < 0
          · obtain rfl : y = v := by have := HE3.out; rwa [if_pos hy] at this
            clear HE3
            go_wp2
            go_ret
            exact ⟨rfl, HB2.out⟩
          · have HE4 : Hid (roomF (t.drop (i + 1)) y = v) := by show _ = _; rw [Hnx.out]; have := HE3.out; rwa [if_neg hy] at this
            clear HE3
            go_wp2
            go_roundw
            case rel => exact ⟨i + 1, y, by omega, by go_num, rfl, by omega, by omega, HE4, HB2⟩
            case measure => simp [intOf]; omega
        · have hE3 := HE2.out
          rw [if_neg hc] at hE3
          have HE3 := Lib.hid hE3
          clear hE3 HE2
          by_cases hy : mi - 1 < 0
          · obtain rfl : mi - 1 = v := by have := HE3.out; rwa [if_pos hy] at this
            clear HE3 hc
            have hy1 : ¬ 0 ≤ mi - 1 := by omega
            go_wp2
            go_ret
            exact ⟨rfl, HBA.out⟩
          · have HE4 : Hid (roomF (t.drop (i + 1)) (mi - 1) = v) := by show _ = _; rw [Hnx.out]; have := HE3.out; rwa [if_neg hy] at this
            have hk7 : (k == 7) = false := by
              have : k ≠ 7 := fun h => hc ⟨by omega, h⟩
              simpa using this
            have hy1 : 0 ≤ mi - 1 := by omega
            clear HE3 hc
            go_wp2
            go_roundw
            case rel => exact ⟨i + 1, mi - 1, by omega, by go_num, rfl, by omega, by omega, HE4, HBA⟩
            case measure => simp [intOf]; omega
      · obtain rfl : i = n := by omega
        obtain rfl : mi = v := by
          have := hE.out
          rw [Bd.drop_end t i (by have := HN.out; omega)] at this
          exact this
        go_wp2
        go_ret
        exact ⟨rfl, hB.out⟩
end Go.Proofs.Ytpdebnecfknohaa
