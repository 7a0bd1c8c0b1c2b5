/-
  Lex: the reference's nibble, and how the reference reads.
-/
import Derived.Test.YtgaedkaohjphaaaLg
namespace Go.Proofs.Ytgaedkaohjphaaa
open Go.RowKit
set_option linter.unusedVariables false
set_option linter.unusedSimpArgs false
set_option maxRecDepth 20000

def nibF (b : Nat) : Nat := if 48 ≤ b ∧ b ≤ 57 then b - 48 else if 97 ≤ b ∧ b ≤ 102 then b - 87 else 16
theorem nib_any (b : Nat) (hb : b < 256) (w : World) : Calls Try.prog 31 #[.int .u8 (b : Int)] w fun e w' => e = .returned (.int .u8 (nibF b : Nat)) ∧ w = w' := by
  have hD := digit_any (b : Int) w
  by_cases h1 : 48 ≤ b ∧ b ≤ 57
  · have hdf : digitF (b : Int) = true := by simp [digitF]; omega
    rw [hdf] at hD
    have hnb : nibF b = b - 48 := if_pos h1
    rw [hnb]
    have hw : IntKind.u8.wrap ((b : Int) - 48) = ((b - 48 : Nat) : Int) := by simp [IntKind.wrap, IntKind.signed, IntKind.bits]; omega
    go_enter Try.func31, Try.ntmps31
    go_wp2_with fail
    refine hD.mono ?_
    rintro e w2 ⟨rfl, rfl⟩
    go_wp2
    go_ret
    exact ⟨by rw [← hw]; rfl, rfl⟩
  · have hdf : digitF (b : Int) = false := by simp [digitF]; omega
    rw [hdf] at hD
    by_cases h2 : 97 ≤ b ∧ b ≤ 102
    · have hnb : nibF b = b - 87 := by unfold nibF; rw [if_neg h1, if_pos h2]
      rw [hnb]
      have h3 : (97 : Int) ≤ (b : Int) := by omega
      have h4 : (b : Int) ≤ 102 := by omega
      go_enter Try.func31, Try.ntmps31
      go_wp2_with fail
      refine hD.mono ?_
      rintro e w2 ⟨rfl, rfl⟩
      go_wp2
      go_ret
      have h5 : ((b : Int) - 97 + 10) = ((b - 87 : Nat) : Int) := by omega
      refine ⟨?_, rfl⟩
      show Ending.returned (.int .u8 ((b : Int) - 97 + 10)) = _
      rw [h5]
    · have hnb : nibF b = 16 := by unfold nibF; rw [if_neg h1, if_neg h2]
      rw [hnb]
      have h5 : (b : Int) < 97 ∨ (102 : Int) < (b : Int) := by omega
      go_enter Try.func31, Try.ntmps31
      go_wp2_with fail
      refine hD.mono ?_
      rintro e w2 ⟨rfl, rfl⟩
      rcases h5 with h5 | h5
      all_goals
        go_wp2
        go_ret
        exact ⟨rfl, rfl⟩
theorem nib_dig : ∀ x, x < 256 → (0 ≤ Lib.indexByte digs (UInt8.ofNat x) ∧ Lib.indexByte digs (UInt8.ofNat x) = (nibF x : Int) ∧ nibF x ≤ 15) ∨ (Lib.indexByte digs (UInt8.ofNat x) = -1 ∧ nibF x = 16) := by decide +kernel
theorem nib_digB (x : UInt8) : (0 ≤ Lib.indexByte digs x ∧ Lib.indexByte digs x = (nibF x.toNat : Int) ∧ nibF x.toNat ≤ 15) ∨ (Lib.indexByte digs x = -1 ∧ nibF x.toNat = 16) := by
  have := nib_dig x.toNat x.toNat_lt
  simpa using this
theorem sign_dec : ∀ x, x < 256 → UInt8.ofNat x ∈ signs → smallB (UInt8.ofNat x) = false ∧ Lib.indexByte marks (UInt8.ofNat x) < 0 ∧ 0 ≤ Lib.indexByte signs (UInt8.ofNat x) := by decide +kernel
theorem sign_no : ∀ x, x < 256 → ¬ UInt8.ofNat x ∈ signs → Lib.indexByte signs (UInt8.ofNat x) < 0 := by decide +kernel
theorem mark_dec : ∀ x, x < 256 → ((UInt8.ofNat x ∈ marks ↔ 0 ≤ Lib.indexByte marks (UInt8.ofNat x)) ∧ (UInt8.ofNat x ∈ marks ↔ (x = 37 ∨ x = 36 ∨ x = 64 ∨ x = 35))) := by decide +kernel
/-- In the reference's order. -/
theorem readF_signs (p : List UInt8) (a : Nat) (x : UInt8) (ha : a < p.length) (hx : p.getD a 0 = x) (h : x ∈ signs) : readF p a = (⟨3, 0, [x], a⟩, a + 1, true) := by
  have h1 := sign_dec x.toNat x.toNat_lt (by simpa using h)
  simp only [UInt8.ofNat_toNat] at h1
  unfold readF
  rw [if_neg (by omega), hx, if_neg (by rw [h1.1]; simp), if_neg (by omega), if_pos h1.2.2]
theorem readF_small (p : List UInt8) (a : Nat) (x : UInt8) (ha : a < p.length) (hx : p.getD a 0 = x) (h : smallB x = true) : readF p a = (⟨1, 0, (p.drop a).take (cntW smallB (p.drop a)), a⟩, a + cntW smallB (p.drop a), true) := by
  unfold readF
  rw [if_neg (by omega), hx, if_pos h]
theorem readF_name (p : List UInt8) (a : Nat) (x : UInt8) (ha : a < p.length) (hx : p.getD a 0 = x) (h : ¬ smallB x = true) (hm : x.toNat = 37 ∨ x.toNat = 36 ∨ x.toNat = 64 ∨ x.toNat = 35) : readF p a = (⟨2, x, (rnF p (a + 1)).1, a⟩, (rnF p (a + 1)).2.1, (rnF p (a + 1)).2.2) := by
  have h1 := mark_dec x.toNat x.toNat_lt
  simp only [UInt8.ofNat_toNat] at h1
  unfold readF
  rw [if_neg (by omega), hx, if_neg h, if_pos (h1.1.1 (h1.2.2 hm))]
theorem readF_none (p : List UInt8) (a : Nat) (x : UInt8) (ha : a < p.length) (hx : p.getD a 0 = x) (h : ¬ smallB x = true) (hm : ¬ (x.toNat = 37 ∨ x.toNat = 36 ∨ x.toNat = 64 ∨ x.toNat = 35)) (hs : ¬ x ∈ signs) : readF p a = (tok0, a, false) := by
  have h1 := mark_dec x.toNat x.toNat_lt
  simp only [UInt8.ofNat_toNat] at h1
  have h2 := sign_no x.toNat x.toNat_lt (by simpa using hs)
  simp only [UInt8.ofNat_toNat] at h2
  unfold readF
  rw [if_neg (by omega), hx, if_neg h, if_neg (fun h3 => hm (h1.2.1 (h1.1.2 h3))), if_neg (by omega)]
/-- A byte of what stands in quotes, in the reference's order. -/
theorem qb_out (x : UInt8) (l : List UInt8) (h : x.toNat < 32 ∨ 126 < x.toNat) : qbF (x :: l) = (0, 0) := by
  have h92 : ¬ (92 : UInt8) = x := by rintro rfl; simp at h
  unfold qbF
  rw [if_neg (by simp [seenF]; omega), if_neg (by simp [List.isPrefixOf, h92]), if_neg (by simp [List.isPrefixOf, h92])]
theorem qb_plain (x : UInt8) (l : List UInt8) (h : ¬ (x.toNat < 32 ∨ 126 < x.toNat)) (h92 : x.toNat ≠ 92) : qbF (x :: l) = (x, 1) := by
  unfold qbF
  rw [if_pos ⟨h92, by simp [seenF]; omega⟩]
  rfl
theorem qb_esc (y : UInt8) (l : List UInt8) (h : y.toNat = 34 ∨ y.toNat = 92) : qbF (92 :: y :: l) = (y, 2) := by
  have hy : y = 34 ∨ y = 92 := h.imp (fun h => UInt8.toNat_inj.1 h) (fun h => UInt8.toNat_inj.1 h)
  unfold qbF
  rw [if_neg (by simp), if_pos (by rcases hy with rfl | rfl <;> simp [List.isPrefixOf])]
  rfl
theorem qb_hex (u v : UInt8) (l : List UInt8) (hu : nibF u.toNat ≤ 15) (hv : nibF v.toNat ≤ 15) : qbF (92 :: 120 :: u :: v :: l) = (UInt8.ofNat (16 * nibF u.toNat + nibF v.toNat), 4) := by
  have h1 : Lib.indexByte digs u = (nibF u.toNat : Int) := by rcases nib_digB u with h | h <;> omega
  have h2 : Lib.indexByte digs v = (nibF v.toNat : Int) := by rcases nib_digB v with h | h <;> omega
  unfold qbF
  rw [if_neg (by simp), if_neg (by simp [List.isPrefixOf]), if_pos ⟨by simp [List.isPrefixOf], by simp⟩]
  simp only [List.getD_cons_succ, List.getD_cons_zero, h1, h2]
  rw [if_pos ⟨by omega, by omega⟩]
  simp only [Int.toNat_natCast]
  rw [Nat.mul_comm]
theorem qb_bad (l : List UInt8) (h1 : ∀ y r, l = y :: r → y.toNat ≠ 34 ∧ y.toNat ≠ 92) (h2 : ∀ u v r, l = 120 :: u :: v :: r → 15 < nibF u.toNat ∨ 15 < nibF v.toNat) : qbF (92 :: l) = (0, 0) := by
  have hnp : ¬ (([92, 34] : List UInt8).isPrefixOf (92 :: l) = true ∨ ([92, 92] : List UInt8).isPrefixOf (92 :: l) = true) := by
    cases l with
    | nil => simp [List.isPrefixOf]
    | cons y r =>
      have := h1 y r rfl
      have a1 : ¬ (34 : UInt8) = y := by rintro rfl; exact this.1 rfl
      have a2 : ¬ (92 : UInt8) = y := by rintro rfl; exact this.2 rfl
      simp [List.isPrefixOf, a1, a2]
  unfold qbF
  rw [if_neg (by simp), if_neg hnp]
  by_cases hp : ([92, 120] : List UInt8).isPrefixOf (92 :: l) = true ∧ 4 ≤ (92 :: l).length
  · rw [if_pos hp]
    obtain ⟨hp1, hp2⟩ := hp
    cases l with
    | nil => simp at hp2
    | cons y r =>
      have hy : (120 : UInt8) = y := by simpa [List.isPrefixOf] using hp1
      subst hy
      cases r with
      | nil => simp at hp2
      | cons u r =>
        cases r with
        | nil => simp at hp2
        | cons v r =>
          have := h2 u v r rfl
          simp only [List.getD_cons_succ, List.getD_cons_zero]
          rw [if_neg]
          rintro ⟨h3, h4⟩
          rcases nib_digB u with h5 | h5 <;> rcases nib_digB v with h6 | h6 <;> omega
  · rw [if_neg hp]
end Go.Proofs.Ytgaedkaohjphaaa
