/-
  What the law's 'short' leaves.
-/
import Derived.Test.YtpdebnecfknohaaFi
import Derived.Test.YtpdebnecfknohaaKb
namespace Go.Proofs.Ytpdebnecfknohaa
open Go.RowKit
set_option linter.unusedVariables false
set_option linter.unusedSimpArgs false
set_option maxRecDepth 20000

/-- Have a body's statements few arguments, and references of few kinds? -/
def shR : Bd → Int → Bool
  | .nil, _ => true
  | .cons k a1 a2 b1 b2 xs sub rest, d => (decide (xs.length ≤ 20) && ((decide (d + 1 ≤ 12) && (decide (sub.len ≤ 30) && shR sub (d + 1))) && (decide (a1 ≤ 4) && (decide (b1 ≤ 4) && xs.all fun p => decide (p.1 ≤ 4))))) && shR rest d
def shF (t : Bd) (d : Int) : Bool := decide (d ≤ 12) && (decide (t.len ≤ 30) && shR t d)
theorem shR_low : ∀ (t : Bd) (d : Int) (e : Nat), t.fit → shR t d = true → ∀ x ∈ t.flat e, x.Low
  | .nil, _, _, _, _ => by simp [Bd.flat]
  | .cons k a1 a2 b1 b2 xs sub rest, d, e, hf, h => by
    obtain ⟨⟨_, f1, _, f2, _⟩, ⟨f3, _⟩, f4, f5⟩ := hf
    simp only [shR, Bool.and_eq_true, decide_eq_true_eq, List.all_eq_true] at h
    obtain ⟨⟨_, ⟨_, _, h1⟩, h2, h3, h4⟩, h5⟩ := h
    intro x hx
    simp only [Bd.flat, List.mem_cons, List.mem_append] at hx
    rcases hx with rfl | hx | hx
    · exact ⟨f1.1, h2, f2.1, h3, fun p hp => ⟨(f3 p hp).1.1, h4 p hp⟩⟩
    · split at hx
      · exact shR_low sub _ _ f4 h1 x hx
      · simp at hx
    · exact shR_low rest _ _ f5 h5 x hx
theorem shF_low (t : Bd) (hf : t.fit) (h : shF t 0 = true) : ∀ x ∈ t.flat 0, x.Low := by
  simp only [shF, Bool.and_eq_true] at h
  exact shR_low t 0 0 hf h.2.2

def SaB (w : World) (v : Bool) (e : Ending) (w' : World) : Prop := e = .returned (.bool v) ∧ w = w'
set_option maxHeartbeats 4000000 in
theorem short_any' (N : Nat) : ∀ (t : Bd) (A : Option Addr) (c : Nat) (d : Int) (w : World), t.size ≤ N → t.size ≤ 100000000 → 0 ≤ d → d ≤ 1000 → BodyV w A t → Calls Try.prog 20 #[.slice A t.len c, .int .i64 d] w (SaB w (shF t d)) := by
  induction N with
  | zero =>
    intro t A c d w hN _ hd1 hd2 hV
    have ht : t = .nil := by cases t <;> simp [Bd.size] at hN ⊢
    subst ht
    clear hV
    obtain ⟨v, hv⟩ : ∃ v, v = shF .nil d := ⟨_, rfl⟩
    rw [← hv]
    simp only [shF, Bd.len, shR] at hv
    simp only [Bd.len]
    go_enter Try.func20, Try.ntmps20
    by_cases h12 : d ≤ 12
    · have hlt : ¬ 12 < d := by omega
      obtain rfl : v = true := by rw [hv]; simp [h12]
      clear hv h12
      go_wp2_with fail
      go_loopw [5] (fun s wr => s = .int .i64 0 ∧ wr = w) (fun _ _ => 0)
      case atStart => exact ⟨rfl, rfl⟩
      case round =>
        obtain ⟨rfl, rfl⟩ := hrel
        go_wp2
        go_ret
        exact ⟨rfl, rfl⟩
    · have hlt : 12 < d := by omega
      obtain rfl : v = false := by rw [hv]; simp [h12]
      clear hv h12
      go_wp2
      go_ret
      exact ⟨rfl, rfl⟩
  | succ N ih =>
    intro t A c d w hN hbig hd1 hd2 hV
    have IH := Lib.hid ih
    have HV := Lib.hid hV
    obtain ⟨v, hv⟩ : ∃ v, v = shF t d := ⟨_, rfl⟩
    rw [← hv]
    simp only [shF] at hv
    have hlen := Bd.len_le t
    obtain ⟨n, hn⟩ : ∃ n, n = t.len := ⟨_, rfl⟩
    have HN := Lib.hid hn
    rw [← hn] at hlen hv ⊢
    clear hV ih hn
    go_enter Try.func20, Try.ntmps20
    by_cases h12 : d ≤ 12
    · have hlt : ¬ 12 < d := by omega
      by_cases h30 : n ≤ 30
      · have hl30 : ¬ 30 < (n : Int) := by omega
        have HE0 : Hid (shR (t.drop 0) d = v) := by show _ = _; rw [hv]; simp [h12, h30, Bd.drop]
        clear hv h12 h30
        go_wp2_with fail
        go_loopw [5] (fun s5 wr => ∃ (i : Nat), i ≤ n ∧ s5 = .int .i64 (i : Int) ∧ w = wr ∧ Hid (shR (t.drop i) d = v)) (fun s5 _ => n - (intOf s5).toNat)
        case atStart => exact ⟨0, Nat.zero_le _, rfl, rfl, HE0⟩
        case round =>
          clear HE0
          obtain ⟨i, hi, rfl, rfl, hE⟩ := hrel
          by_cases hlt2 : i < n
          · have hiL : i < t.len := by rw [← HN.out]; exact hlt2
            have hli : (i : Int) < (n : Int) := by omega
            obtain ⟨k, a1, a2, b1, b2, xs, sub, rest, hdr⟩ := Bd.drop_cons t i hiL
            obtain ⟨b, o, rfl, hat⟩ := HV.out (by omega)
            have hat0 := hat.drop t b o i
            have hsz1 := Bd.size_drop t i
            have Hnx := Lib.hid (Bd.drop_succ t i hdr)
            have hE2 := hE.out
            rw [hdr] at hat0 hsz1 hE2
            simp only [Bd.size] at hsz1
            simp only [shR] at hE2
            obtain ⟨⟨d0, d1, d2, d3, d4⟩, ⟨va, d5, ⟨Aa, ca, rfl, hargs⟩⟩, ⟨As, cs, d6, hsub⟩, _⟩ := hat0
            have hbl : b < w.heap.size := World.block_lt_of_cell? w ⟨b, o + i * 7, none⟩ d0
            have HSub : Hid (BodyV w As sub) := hsub
            have HArg : Hid (0 < xs.length → ∃ b o, Aa = some ⟨b, o, none⟩ ∧ ∀ i, i < xs.length → w.cell? ⟨b, o + i * 2, none⟩ = some (.int .u8 (xs.getD i (0, 0)).1) ∧ w.cell? ⟨b, o + i * 2 + 1, none⟩ = some (.int .i64 (xs.getD i (0, 0)).2)) := hargs
            obtain ⟨q, hq⟩ : ∃ q, q = xs.length := ⟨_, rfl⟩
            have HQ := Lib.hid hq
            rw [← hq] at d5 hE2
            have HE2 := Lib.hid hE2
            have HI := Lib.hid (IH.out sub As cs (d + 1) w (by omega) (by omega) (by omega) (by omega) hsub)
            clear hat hdr hsub hargs hE2 hE hq
            by_cases h20 : q ≤ 20
            · have hl20 : ¬ 20 < (q : Int) := by omega
              have hE3 := HE2.out
              rw [decide_eq_true h20, Bool.true_and] at hE3
              obtain ⟨r, hr⟩ : ∃ r, r = shF sub (d + 1) := ⟨_, rfl⟩
              have HI2 := HI.out
              rw [← hr] at HI2
              unfold shF at hr
              rw [← hr] at hE3
              have HI := Lib.hid HI2
              have HE3 := Lib.hid hE3
              clear HE2 hE3 hr HI2 h20
              go_wp2_with fail
              refine HI.out.mono ?_
              rintro e w2 ⟨rfl, rfl⟩
              clear HI
              cases r with
              | false =>
                obtain rfl : false = v := by have := HE3.out; simpa using this
                clear HE3
                go_wp2
                go_ret
                exact ⟨rfl, rfl⟩
              | true =>
                have hE4 := HE3.out
                rw [Bool.true_and] at hE4
                clear HE3
                by_cases ha4 : a1 ≤ 4
                · have hla : ¬ 4 < a1 := by omega
                  rw [decide_eq_true ha4, Bool.true_and] at hE4
                  by_cases hb4 : b1 ≤ 4
                  · have hlb : ¬ 4 < b1 := by omega
                    rw [decide_eq_true hb4, Bool.true_and] at hE4
                    have HE4 : Hid (((xs.drop 0).all (fun p => decide (p.1 ≤ 4)) && shR rest d) = v) := by rw [List.drop_zero]; exact hE4
                    clear hE4 ha4 hb4
                    go_wp2_with fail
                    obtain ⟨w9, hw9⟩ : ∃ w9, w9 = w := ⟨_, rfl⟩
                    go_loopw [6] (fun s6 wr => ∃ (k : Nat), k ≤ q ∧ s6 = .int .i64 (k : Int) ∧ w9 = wr ∧ Hid (((xs.drop k).all (fun p => decide (p.1 ≤ 4)) && shR rest d) = v)) (fun s6 _ => q - (intOf s6).toNat)
                    case atStart => exact ⟨0, Nat.zero_le _, rfl, hw9, HE4⟩
                    case round =>
                      clear HE4
                      obtain ⟨k, hk, rfl, rfl, hE5⟩ := hrel
                      subst hw9
                      by_cases hkl : k < q
                      · have hkx : k < xs.length := by rw [← HQ.out]; exact hkl
                        have hki : (k : Int) < (q : Int) := by omega
                        obtain ⟨b', o', rfl, hc⟩ := HArg.out (by omega)
                        obtain ⟨c1, _⟩ := hc k hkx
                        have hE6 := hE5.out
                        rw [List.drop_eq_getElem_cons hkx, List.all_cons] at hE6
                        rw [show xs.getD k (0, 0) = xs[k] from by simp [List.getD, hkx]] at c1
                        generalize xs[k] = p at c1 hE6
                        obtain ⟨p1, p2⟩ := p
                        dsimp only at c1 hE6
                        have hqk : (q : Int) = (q : Int) := rfl
                        clear hc hE5 hqk
                        by_cases hp4 : p1 ≤ 4
                        · have hlp : ¬ 4 < p1 := by omega
                          rw [decide_eq_true hp4, Bool.true_and] at hE6
                          have HE6 : Hid (((xs.drop (k + 1)).all (fun p => decide (p.1 ≤ 4)) && shR rest d) = v) := hE6
                          clear hE6 hp4
                          go_wp2
                          go_roundw
                          case rel => exact ⟨k + 1, by omega, by go_num, by first | rfl | trivial, HE6⟩
                          case measure => simp [intOf]; omega
                        · have hlp : 4 < p1 := by omega
                          obtain rfl : false = v := by rw [decide_eq_false hp4] at hE6; simpa using hE6
                          clear hE6
                          go_wp2
                          go_ret
                          exact ⟨rfl, rfl⟩
                      · obtain rfl : k = q := by omega
                        have HE6 : Hid (shR (t.drop (i + 1)) d = v) := by
                          show _ = _
                          rw [Hnx.out]
                          have := hE5.out
                          rwa [List.drop_of_length_le (by have := HQ.out; omega), List.all_nil, Bool.true_and] at this
                        clear hE5
                        go_wp2
                        go_roundw
                        case rel => exact ⟨i + 1, by omega, by go_num, by first | rfl | trivial, HE6⟩
                        case measure => simp [intOf]; omega
                  · have hlb : 4 < b1 := by omega
                    obtain rfl : false = v := by rw [decide_eq_false hb4] at hE4; simpa using hE4
                    clear hE4
                    go_wp2
                    go_ret
                    exact ⟨rfl, rfl⟩
                · have hla : 4 < a1 := by omega
                  obtain rfl : false = v := by rw [decide_eq_false ha4] at hE4; simpa using hE4
                  clear hE4
                  go_wp2
                  go_ret
                  exact ⟨rfl, rfl⟩
            · have hl20 : 20 < (q : Int) := by omega
              obtain rfl : false = v := by have := HE2.out; rw [decide_eq_false h20] at this; simpa using this
              clear HE2 HI
              go_wp2
              go_ret
              exact ⟨rfl, rfl⟩
          · obtain rfl : i = n := by omega
            obtain rfl : true = v := by
              have := hE.out
              rw [Bd.drop_end t i (by have := HN.out; omega)] at this
              exact this
            go_wp2
            go_ret
            exact ⟨rfl, rfl⟩
      · have hl30 : 30 < (n : Int) := by omega
        obtain rfl : v = false := by rw [hv]; simp [h30]
        clear hv h12 h30
        go_wp2
        go_ret
        exact ⟨rfl, rfl⟩
    · have hlt : 12 < d := by omega
      obtain rfl : v = false := by rw [hv]; simp [h12]
      clear hv h12
      go_wp2
      go_ret
      exact ⟨rfl, rfl⟩
theorem short_any (t : Bd) (A : Option Addr) (c : Nat) (d : Int) (w : World) (hs : t.size ≤ 100000000) (h0 : 0 ≤ d) (h1 : d ≤ 1000) (hV : BodyV w A t) : Calls Try.prog 20 #[.slice A t.len c, .int .i64 d] w (SaB w (shF t d)) := short_any' t.size t A c d w (Nat.le_refl _) hs h0 h1 hV
end Go.Proofs.Ytpdebnecfknohaa
