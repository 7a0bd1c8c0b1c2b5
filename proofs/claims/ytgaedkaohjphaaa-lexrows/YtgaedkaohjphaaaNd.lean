/-
  Lex: a name that is quoted is read as that name.
-/
import Derived.Test.YtgaedkaohjphaaaNb
import Derived.Test.YtgaedkaohjphaaaMc
namespace Go.Proofs.Ytgaedkaohjphaaa
open Go.RowKit
set_option linter.unusedVariables false
set_option linter.unusedSimpArgs false
set_option maxRecDepth 20000
theorem dig_in : ∀ k, k < 16 → Lib.indexByte digs (digs.getD k 0) = (k : Int) := by decide +kernel
theorem esc_eq (b : UInt8) (h : escF (b.toNat : Int) = true) : b = 34 ∨ b = 92 := by
  simp only [escF, Bool.or_eq_true, beq_iff_eq] at h
  rcases h with h | h
  · left; exact UInt8.toNat_inj.1 (by show b.toNat = 34; omega)
  · right; exact UInt8.toNat_inj.1 (by show b.toNat = 92; omega)
/-- A byte in quotes is read as it. -/
theorem qb_byte (b : UInt8) (r : List UInt8) : qbF (qbyte b ++ r) = (b, (qbyte b).length) := by
  unfold qbyte
  by_cases he : escF (b.toNat : Int) = true
  · rw [if_pos he]
    rcases esc_eq b he with rfl | rfl
    · unfold qbF
      rw [if_neg (by simp), if_pos (.inl (by simp [List.isPrefixOf]))]
      rfl
    · unfold qbF
      rw [if_neg (by simp), if_pos (.inr (by simp [List.isPrefixOf]))]
      rfl
  · rw [if_neg he]
    have h92 : b.toNat ≠ 92 := fun h => he (by simp [escF, h])
    by_cases hs : seenF (b.toNat : Int) = true
    · rw [if_pos hs]
      unfold qbF
      rw [if_pos ⟨h92, hs⟩]
      rfl
    · rw [if_neg hs]
      have hb := b.toNat_lt
      have d1 := dig_in (b.toNat / 16) (by omega)
      have d2 := dig_in (b.toNat % 16) (by omega)
      generalize digs.getD (b.toNat / 16) 0 = x at *
      generalize digs.getD (b.toNat % 16) 0 = y at *
      unfold qbF
      rw [if_neg (by simp), if_neg (by simp [List.isPrefixOf]), if_pos ⟨by simp [List.isPrefixOf], by simp⟩]
      simp only [List.cons_append, List.nil_append, List.getD_cons_succ, List.getD_cons_zero]
      rw [d1, d2, if_pos ⟨by omega, by omega⟩]
      simp only [Int.toNat_natCast, List.length_cons, List.length_nil]
      rw [show b.toNat / 16 * 16 + b.toNat % 16 = b.toNat from by omega]
      simp
theorem qbyte_head (b : UInt8) (r : List UInt8) : (qbyte b ++ r).headD 0 ≠ 34 := by
  unfold qbyte
  by_cases he : escF (b.toNat : Int) = true
  · rw [if_pos he]; simp
  · rw [if_neg he]
    by_cases hs : seenF (b.toNat : Int) = true
    · rw [if_pos hs]
      intro h
      have : b = 34 := h
      exact he (by rw [this]; rfl)
    · rw [if_neg hs]; simp
theorem drop_mid (a b : List UInt8) : (a ++ b).drop a.length = b := by simp
theorem getD_mid (a b : List UInt8) : (a ++ b).getD a.length 0 = b.headD 0 := by
  rw [List.getD_eq_getElem?_getD, List.getElem?_append_right (Nat.le_refl _), Nat.sub_self]
  cases b <;> rfl
/-- The loop over what stands in quotes. -/
theorem rq_flat : ∀ (s pre acc r : List UInt8) (f : Nat), (s.flatMap qbyte).length < f → rqF (pre ++ (s.flatMap qbyte ++ 34 :: r)) f pre.length acc = (acc ++ s, pre.length + (s.flatMap qbyte).length + 1, true)
  | [], pre, acc, r, f, hf => by
    obtain ⟨f, rfl⟩ : ∃ g, f = g + 1 := ⟨f - 1, by omega⟩
    rw [rqF]
    simp only [List.flatMap_nil, List.nil_append]
    rw [getD_mid, if_neg (by simp), if_neg (by simp)]
    simp
  | x :: s, pre, acc, r, f, hf => by
    obtain ⟨f, rfl⟩ : ∃ g, f = g + 1 := ⟨f - 1, by omega⟩
    have hl := qbyte_len x
    simp only [List.flatMap_cons, List.length_append] at hf
    rw [rqF]
    simp only [List.flatMap_cons, List.append_assoc]
    rw [getD_mid, drop_mid, if_pos ⟨by simp; omega, qbyte_head x _⟩, qb_byte]
    simp only
    rw [if_neg (by omega)]
    have := rq_flat s (pre ++ qbyte x) (acc ++ [x]) r f (by omega)
    simp only [List.append_assoc, List.length_append] at this
    rw [this]
    simp only [List.singleton_append, List.length_append]
    congr 2
    omega
theorem cntW_run (f : UInt8 → Bool) (y : UInt8) (hy : f y = false) (r : List UInt8) : ∀ l : List UInt8, l.all f = true → cntW f (l ++ y :: r) = l.length
  | [], _ => by simp [cntW, hy]
  | x :: l, h => by
    simp only [List.all_cons, Bool.and_eq_true] at h
    simp only [List.cons_append, cntW, h.1, if_true, cntW_run f y hy r l h.2, List.length_cons]
theorem start_34 (x : UInt8) (h : startB x = true) : x ≠ 34 := by
  rintro rfl
  revert h; decide
/-- Behind a mark. -/
theorem rn_q (s r : List UInt8) (m : UInt8) : rnF ([m] ++ (qF s ++ 32 :: r)) 1 = (s, 1 + (qF s).length, true) := by
  unfold qF
  by_cases hb : isBareF s = true
  · rw [if_pos hb]
    cases s with
    | nil => cases hb
    | cons x l =>
      rw [isBareF, Bool.and_eq_true] at hb
      unfold rnF
      have h34 := start_34 x hb.1
      have hd : ([m] ++ (x :: l ++ 32 :: r)).drop 1 = x :: l ++ 32 :: r := rfl
      rw [if_neg (by simp [h34]), hd]
      have hc : bareF (x :: l ++ 32 :: r) = (x :: l).length := by
        simp only [List.cons_append, bareF, hb.1, if_true, List.length_cons]
        rw [cntW_run nameB 32 (by decide) r l hb.2]
      rw [hc]
      simp
  · rw [if_neg hb]
    unfold rnF
    rw [if_pos ⟨by simp, by simp⟩]
    have := rq_flat s ([m] ++ [34]) [] (32 :: r) (([m] ++ ([34] ++ s.flatMap qbyte ++ [34] ++ 32 :: r)).length + 1) (by simp; omega)
    simp only [List.append_assoc, List.cons_append, List.nil_append, List.length_cons, List.length_nil, Nat.zero_add, Nat.reduceAdd] at this ⊢
    rw [this]
    simp only [List.length_append, List.length_cons, List.length_nil]
    congr 2
    omega
theorem next_q (s r : List UInt8) (m : UInt8) (hm : m ∈ marks) : nextF ([m] ++ (qF s ++ 32 :: r)) 0 = (⟨2, m, s, 0⟩, 0, 0, 1 + (qF s).length) := by
  have hr := rn_q s r m
  obtain ⟨q, hq⟩ : ∃ q, q = [m] ++ (qF s ++ 32 :: r) := ⟨_, rfl⟩
  rw [← hq] at hr ⊢
  have hl : 1 ≤ q.length := by rw [hq]; simp
  have g0 : q.getD 0 0 = m := by rw [hq]; rfl
  have hms : m = 37 ∨ m = 36 ∨ m = 64 ∨ m = 35 := by simpa [marks] using hm
  have hgap : gapF (q.drop 0) = (0, true) := by
    rw [hq]
    rcases hms with rfl | rfl | rfl | rfl <;>
      simp [gapF, blankF, List.isPrefixOf]
  have s0 : skipF q (q.length + 1) 0 = (0, true) := skip_stop q q.length 0 (by omega) hgap
  have r0 : readF q 0 = (⟨2, m, s, 0⟩, 1 + (qF s).length, true) := by
    unfold readF
    rw [if_neg (by omega), g0, if_neg (by rcases hms with rfl | rfl | rfl | rfl <;> decide), if_pos (by rcases hms with rfl | rfl | rfl | rfl <;> decide), hr]
  simp only [nextF, s0, r0]
  simp
end Go.Proofs.Ytgaedkaohjphaaa
