/-
  Lex: names and signs in a row, plain.
-/
import Derived.Test.YtgaedkaohjphaaaOg0
import Derived.Test.YtgaedkaohjphaaaNd
namespace Go.Proofs.Ytgaedkaohjphaaa
open Go.RowKit
set_option linter.unusedVariables false
set_option linter.unusedSimpArgs false
set_option maxRecDepth 20000
/-- No byte of a name stands first. -/
def cleanH (r : List UInt8) : Prop := ∀ x l, r = x :: l → nameB x = false
theorem cntW_run2 (f : UInt8 → Bool) (r : List UInt8) (hr : ∀ x l, r = x :: l → f x = false) : ∀ l : List UInt8, l.all f = true → cntW f (l ++ r) = l.length
  | [], _ => by
    cases r with
    | nil => rfl
    | cons y r => simp [cntW, hr y r rfl]
  | x :: l, h => by
    simp only [List.all_cons, Bool.and_eq_true] at h
    simp only [List.cons_append, cntW, h.1, if_true, cntW_run2 f r hr l h.2, List.length_cons]
theorem rn_q2 (s r pre : List UInt8) (hr : cleanH r) : rnF (pre ++ (qF s ++ r)) pre.length = (s, pre.length + (qF s).length, true) := by
  unfold qF
  by_cases hb : isBareF s = true
  · rw [if_pos hb]
    cases s with
    | nil => cases hb
    | cons x l =>
      rw [isBareF, Bool.and_eq_true] at hb
      unfold rnF
      have h34 := start_34 x hb.1
      rw [drop_mid, getD_mid, if_neg (by simp [h34])]
      have hc : bareF (x :: l ++ r) = (x :: l).length := by
        simp only [List.cons_append, bareF, hb.1, if_true, List.length_cons]
        rw [cntW_run2 nameB r hr l hb.2]
      rw [hc]
      simp
  · rw [if_neg hb]
    unfold rnF
    rw [getD_mid, if_pos ⟨by simp, by simp⟩]
    have := rq_flat s (pre ++ [34]) [] r ((pre ++ ([34] ++ s.flatMap qbyte ++ [34] ++ r)).length + 1) (by simp; omega)
    simp only [List.append_assoc, List.cons_append, List.nil_append, List.length_cons, List.length_nil, Nat.zero_add, Nat.reduceAdd, List.length_append] at this ⊢
    rw [this]
    congr 2
    omega
theorem read_name (pre s r : List UInt8) (hr : cleanH r) : readF (pre ++ 64 :: (qF s ++ r)) pre.length = (⟨2, 64, s, pre.length⟩, pre.length + 1 + (qF s).length, true) := by
  have h := rn_q2 s r (pre ++ [64]) hr
  rw [List.append_assoc, List.singleton_append, List.length_append, List.length_singleton] at h
  have hl : pre.length ≠ (pre ++ 64 :: (qF s ++ r)).length := by simp
  unfold readF
  rw [if_neg hl, getD_mid, List.headD_cons, if_neg (by decide), if_pos (by decide), h]
theorem skip_at (pre : List UInt8) (x : UInt8) (r : List UInt8) (hb : blankF (x.toNat : Int) = false) (h47 : x ≠ 47) : skipF (pre ++ x :: r) ((pre ++ x :: r).length + 1) pre.length = (pre.length, true) :=
  skip_stop _ _ _ (by simp) (by rw [drop_mid]; exact gap_none x r hb (fun y l h _ => absurd h h47))
theorem next_name (pre s r : List UInt8) (hr : cleanH r) : nextF (pre ++ 64 :: (qF s ++ r)) pre.length = (⟨2, 64, s, pre.length⟩, 0, 0, pre.length + 1 + (qF s).length) := by
  simp only [nextF, skip_at pre 64 (qF s ++ r) (by decide) (by decide), read_name pre s r hr]
  simp
theorem sign_all : ∀ c ∈ signs, blankF (c.toNat : Int) = false ∧ c ≠ 47 ∧ smallB c = false ∧ Lib.indexByte marks c < 0 ∧ 0 ≤ Lib.indexByte signs c ∧ nameB c = false := by decide
theorem next_sign (pre r : List UInt8) (c : UInt8) (hc : c ∈ signs) : nextF (pre ++ c :: r) pre.length = (⟨3, 0, [c], pre.length⟩, 0, 0, pre.length + 1) := by
  obtain ⟨h1, h2, h3, h4, h5, _⟩ := sign_all c hc
  have hl : pre.length ≠ (pre ++ c :: r).length := by simp
  have hr : readF (pre ++ c :: r) pre.length = (⟨3, 0, [c], pre.length⟩, pre.length + 1, true) := by
    unfold readF
    rw [if_neg hl, getD_mid, List.headD_cons, if_neg (by rw [h3]; simp), if_neg (by omega), if_pos h5]
  simp only [nextF, skip_at pre c r h1 h2, hr]
  simp
/-- A name, and the sign behind it, or none. -/
def itF (x : List UInt8 × List UInt8) : List UInt8 := 64 :: (qF x.1 ++ x.2)
def okI (x : List UInt8 × List UInt8) : Prop := x.2 = [] ∨ ∃ c, c ∈ signs ∧ x.2 = [c]
theorem clean_flat (X : List (List UInt8 × List UInt8)) : cleanH (X.flatMap itF) := fun x l h => by
  cases X with
  | nil => cases h
  | cons y Y =>
    simp only [List.flatMap_cons, itF, List.cons_append] at h
    injection h with h1 h2
    subst h1
    decide
theorem clean_it (x : List UInt8 × List UInt8) (hx : okI x) (r : List UInt8) (hr : cleanH r) : cleanH (x.2 ++ r) := by
  rcases hx with h | ⟨c, hc, h⟩
  · rw [h]; exact hr
  · rw [h]
    intro y l hy
    injection hy with h1 h2
    subst h1
    exact (sign_all c hc).2.2.2.2.2
theorem tok_step (p : List UInt8) (f a : Nat) (t : Tok) (a' : Nat) (hf : p.length - a < f) (ha : a ≤ p.length) (h : nextF p a = (t, 0, 0, a')) (ht : t.kind ≠ 0) : ∃ f', toksF p f a [] = (t :: (toksF p f' a' []).1, (toksF p f' a' []).2) ∧ a' ≤ p.length ∧ p.length - a' < f' := by
  rcases seq_cases p f a hf ha with ⟨k, e1, e2⟩ | ⟨e1, e2⟩ | ⟨t', a2, f', e1, e2, e3, e4⟩
  · rw [e2] at h
    injection h with h1 h2
    injection h2 with h3 h4
    injection h4 with h5 h6
    omega
  · rw [e2] at h
    injection h with h1 h2
    subst h1
    exact absurd rfl ht
  · rw [e2] at h
    injection h with h1 h2
    injection h2 with h3 h4
    injection h4 with h5 h6
    subst h1; subst h6
    exact ⟨f', e1, e3, e4⟩
theorem toks_end (p : List UInt8) (f : Nat) (hf : 0 < f) : toksF p f p.length [] = ([⟨0, 0, [], p.length⟩], -1) := by
  obtain ⟨f, rfl⟩ : ∃ g, f = g + 1 := ⟨f - 1, by omega⟩
  rw [toksF, skip_end, if_neg (by simp), if_pos rfl]
  rfl
/-- All tokens of such a row. -/
theorem rows_toks : ∀ (X : List (List UInt8 × List UInt8)) (pre : List UInt8) (f : Nat), (∀ x ∈ X, okI x) → (pre ++ X.flatMap itF).length - pre.length < f → ∃ L, toksF (pre ++ X.flatMap itF) f pre.length [] = (L ++ [⟨0, 0, [], (pre ++ X.flatMap itF).length⟩], -1)
  | [], pre, f, _, hf => by
    refine ⟨[], ?_⟩
    simp only [List.flatMap_nil, List.append_nil, List.nil_append] at hf ⊢
    exact toks_end pre f (by omega)
  | x :: X, pre, f, hx, hf => by
    have h1 := hx x List.mem_cons_self
    have hp : pre ++ (x :: X).flatMap itF = pre ++ 64 :: (qF x.1 ++ (x.2 ++ X.flatMap itF)) := by simp [itF]
    have hn := next_name pre x.1 (x.2 ++ X.flatMap itF) (clean_it x h1 _ (clean_flat X))
    rw [← hp] at hn
    obtain ⟨f1, e1, e2, e3⟩ := tok_step _ f _ _ _ hf (by simp) hn (by simp)
    rw [e1]
    rcases h1 with h | ⟨c, hc, h⟩
    · have hq : pre ++ (x :: X).flatMap itF = (pre ++ itF x) ++ X.flatMap itF := by simp
      have hl : pre.length + 1 + (qF x.1).length = (pre ++ itF x).length := by simp [itF, h]; omega
      rw [hl] at e3 ⊢
      rw [hq] at e3 ⊢
      obtain ⟨L, hL⟩ := rows_toks X (pre ++ itF x) f1 (fun y hy => hx y (List.mem_cons_of_mem _ hy)) e3
      rw [hL]
      exact ⟨_ :: L, rfl⟩
    · have hq : pre ++ (x :: X).flatMap itF = (pre ++ 64 :: qF x.1) ++ c :: X.flatMap itF := by simp [itF, h]
      have hl : pre.length + 1 + (qF x.1).length = (pre ++ 64 :: qF x.1).length := by simp; omega
      have hn2 := next_sign (pre ++ 64 :: qF x.1) (X.flatMap itF) c hc
      rw [← hq, ← hl] at hn2
      obtain ⟨f2, g1, g2, g3⟩ := tok_step _ f1 _ _ _ e3 e2 hn2 (by simp)
      rw [g1]
      have hq2 : pre ++ (x :: X).flatMap itF = (pre ++ itF x) ++ X.flatMap itF := by simp
      have hl2 : pre.length + 1 + (qF x.1).length + 1 = (pre ++ itF x).length := by simp [itF, h]; omega
      rw [hl2] at g3 ⊢
      rw [hq2] at g3 ⊢
      obtain ⟨L, hL⟩ := rows_toks X (pre ++ itF x) f2 (fun y hy => hx y (List.mem_cons_of_mem _ hy)) g3
      rw [hL]
      exact ⟨_ :: _ :: L, rfl⟩
end Go.Proofs.Ytgaedkaohjphaaa
