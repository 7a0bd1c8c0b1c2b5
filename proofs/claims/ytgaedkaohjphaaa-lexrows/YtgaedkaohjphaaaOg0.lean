/-
  Lex: the tokens that Next tells, one by one.
-/
import Derived.Test.YtgaedkaohjphaaaOf0
import Derived.Test.YtgaedkaohjphaaaLl
namespace Go.Proofs.Ytgaedkaohjphaaa
open Go.RowKit
set_option linter.unusedVariables false
set_option linter.unusedSimpArgs false
set_option maxRecDepth 20000
theorem toksF_acc (p : List UInt8) : ∀ (f a : Nat) (acc : List Tok), toksF p f a acc = (acc ++ (toksF p f a []).1, (toksF p f a []).2)
  | 0, a, acc => by simp [toksF]
  | f + 1, a, acc => by
    rw [toksF, toksF]
    split
    · simp
    · split
      · simp
      · split
        · simp
        · rw [toksF_acc p f _ (acc ++ _), toksF_acc p f _ ([] ++ _)]
          simp
/-- What stands at a place: none; the end; a token, and the rest. -/
theorem seq_cases (p : List UInt8) (f a : Nat) (hf : p.length - a < f) (ha : a ≤ p.length) :
    (∃ k : Nat, toksF p f a [] = ([], (k : Int)) ∧ nextF p a = (tok0, k, 7, a)) ∨
    (toksF p f a [] = ([(⟨0, 0, [], p.length⟩ : Tok)], -1) ∧ nextF p a = ((⟨0, 0, [], p.length⟩ : Tok), 0, 0, p.length)) ∨
    (∃ t a' f', toksF p f a [] = (t :: (toksF p f' a' []).1, (toksF p f' a' []).2) ∧ nextF p a = (t, 0, 0, a') ∧ a' ≤ p.length ∧ p.length - a' < f') := by
  obtain ⟨f, rfl⟩ : ∃ g, f = g + 1 := ⟨f - 1, by omega⟩
  have hs := skipF_le p (p.length + 1) a ha
  rw [toksF]
  unfold nextF
  by_cases h1 : (skipF p (p.length + 1) a).2 = false
  · left
    rw [if_pos h1, if_pos h1]
    exact ⟨_, rfl, rfl⟩
  rw [if_neg h1, if_neg h1]
  by_cases h2 : (skipF p (p.length + 1) a).1 = p.length
  · right; left
    rw [if_pos h2, h2]
    have hr : readF p p.length = (⟨0, 0, [], p.length⟩, p.length, true) := by unfold readF; rw [if_pos rfl]
    rw [hr]
    exact ⟨rfl, by simp⟩
  rw [if_neg h2]
  have hgt := readF_gt p (skipF p (p.length + 1) a).1 (by omega)
  have hle := readF_le p (skipF p (p.length + 1) a).1 (by omega)
  by_cases h3 : (readF p (skipF p (p.length + 1) a).1).2.2 = false
  · left
    rw [if_pos h3, if_pos h3]
    exact ⟨_, rfl, rfl⟩
  · right; right
    rw [if_neg h3, if_neg h3]
    have h4 : (readF p (skipF p (p.length + 1) a).1).2.2 = true := by simpa using h3
    refine ⟨_, _, f, ?_, rfl, hle h4, ?_⟩
    · rw [toksF_acc]; simp
    · have := hgt h4; omega
/-- Where the lexer stands when some tokens have been told. -/
def SeqAt (p : List UInt8) (L : List Tok) (bd : Int) (i a : Nat) : Prop :=
  (∃ f, p.length - a < f ∧ L.drop i = (toksF p f a []).1 ∧ bd = (toksF p f a []).2) ∨ (i = L.length ∧ a = p.length ∧ bd = -1)
theorem seq_next (p : List UInt8) (L : List Tok) (bd : Int) (i a : Nat) (ha : a ≤ p.length) (h : SeqAt p L bd i a) (hi : i < L.length) : ∃ a', nextF p a = (L[i], 0, 0, a') ∧ a' ≤ p.length ∧ SeqAt p L bd (i + 1) a' := by
  rcases h with ⟨f, hf, h1, h2⟩ | ⟨h1, _⟩
  · rw [List.drop_eq_getElem_cons hi] at h1
    rcases seq_cases p f a hf ha with ⟨k, e1, e2⟩ | ⟨e1, e2⟩ | ⟨t, a', f', e1, e2, e3, e4⟩
    · rw [e1] at h1; cases h1
    · rw [e1] at h1 h2
      injection h1 with h3 h4
      refine ⟨p.length, by rw [e2, h3], Nat.le_refl _, .inr ⟨?_, rfl, h2⟩⟩
      have := congrArg List.length h4
      simp only [List.length_drop, List.length_nil] at this
      omega
    · rw [e1] at h1 h2
      injection h1 with h3 h4
      exact ⟨a', by rw [e2, h3], e3, .inl ⟨f', e4, h4, h2⟩⟩
  · omega
theorem seq_last (p : List UInt8) (L : List Tok) (bd : Int) (a : Nat) (ha : a ≤ p.length) (h : SeqAt p L bd L.length a) : (∃ k : Nat, bd = (k : Int) ∧ nextF p a = (tok0, k, 7, a)) ∨ (bd = -1 ∧ nextF p a = (⟨0, 0, [], p.length⟩, 0, 0, p.length)) := by
  rcases h with ⟨f, hf, h1, h2⟩ | ⟨_, rfl, h2⟩
  · rw [List.drop_of_length_le (Nat.le_refl _)] at h1
    rcases seq_cases p f a hf ha with ⟨k, e1, e2⟩ | ⟨e1, e2⟩ | ⟨t, a', f', e1, e2, e3, e4⟩
    · rw [e1] at h2
      exact .inl ⟨k, h2, e2⟩
    · rw [e1] at h1; cases h1
    · rw [e1] at h1; cases h1
  · refine .inr ⟨h2, ?_⟩
    unfold nextF
    rw [skip_end]
    have hr : readF p p.length = (⟨0, 0, [], p.length⟩, p.length, true) := by unfold readF; rw [if_pos rfl]
    simp [hr]
theorem seq_start (p : List UInt8) : SeqAt p (toksF p (p.length + 1) 0 []).1 (toksF p (p.length + 1) 0 []).2 0 0 :=
  .inl ⟨p.length + 1, by omega, rfl, rfl⟩
/-- The cells of the i-th token of a row. -/
theorem toksV_at : ∀ (L : List Tok) (i j : Nat) (hi : i < L.length), j < 4 → (toksV L)[i * 4 + j]? = (tcs L[i])[j]?
  | t :: L, 0, j, _, hj => by
    rw [show toksV (t :: L) = tcs t ++ toksV L from rfl, Nat.zero_mul, Nat.zero_add, List.getElem?_append_left (by rw [tcs_len]; exact hj)]
    rfl
  | t :: L, i + 1, j, hi, hj => by
    rw [show toksV (t :: L) = tcs t ++ toksV L from rfl, List.getElem?_append_right (by rw [tcs_len]; omega), tcs_len, show (i + 1) * 4 + j - 4 = i * 4 + j from by omega, toksV_at L i j (by simpa using hi) hj]
    rfl
/-- A row whose block nothing writes. -/
theorem own_kept {w w' : World} {base e size n q : Nat} {v : Value} {xs : List Value} (h : w.ownsRow base e size v n xs) (hq : q < base) (hk : ∀ k, k < w.heap.size → k ≠ q → w'.heap[k]? = w.heap[k]?) : w'.ownsRow base e size v n xs := by
  refine ⟨h.1, ?_⟩
  rcases h.2 with h1 | ⟨k, cap, cur, hv, h2, hb, rest⟩
  · exact .inl h1
  · exact .inr ⟨k, cap, cur, hv, h2, (hk k (Array.getElem?_eq_some_iff.1 hb).1 (by omega)).trans hb, rest⟩
theorem own_tok {w : World} {base m c : Nat} {A : Option Addr} {L : List Tok} (h : w.ownsRow base 34 4 (.slice A m c) m (toksV L)) (i : Nat) (hi : i < L.length) : ∃ g, A = some ⟨g, 0, none⟩ ∧ base ≤ g ∧ g < w.heap.size ∧ m ≤ c ∧ m = L.length ∧
    w.cell? ⟨g, i * 4, none⟩ = some (.int .u8 (L[i].kind : Int)) ∧ w.cell? ⟨g, i * 4 + 1, none⟩ = some (.int .u8 (L[i].mark.toNat : Int)) ∧ w.cell? ⟨g, i * 4 + 2, none⟩ = some (.string (bs L[i].text)) ∧ w.cell? ⟨g, i * 4 + 3, none⟩ = some (.int .i64 (L[i].at_ : Int)) := by
  have hlen := h.1
  rw [toksV_len] at hlen
  have hm : m = L.length := by omega
  rcases h.2 with ⟨h1, h2⟩ | ⟨g, cap, cur, hv, h2, hb, h3, rest⟩
  · omega
  · injection hv with hv1 hv2 hv3
    subst hv1; subst hv3
    have hc := fun j v hj => h.cells (g := g) rfl j v hj
    refine ⟨g, rfl, h2, (Array.getElem?_eq_some_iff.1 hb).1, h3, hm, ?_, ?_, ?_, ?_⟩
    · have := hc (i * 4 + 0) _ ((toksV_at L i 0 hi (by omega)).trans rfl)
      rwa [Go.WideShapes.add_plain, Nat.zero_add] at this
    · have := hc (i * 4 + 1) _ ((toksV_at L i 1 hi (by omega)).trans rfl)
      rwa [Go.WideShapes.add_plain, Nat.zero_add] at this
    · have := hc (i * 4 + 2) _ ((toksV_at L i 2 hi (by omega)).trans rfl)
      rwa [Go.WideShapes.add_plain, Nat.zero_add] at this
    · have := hc (i * 4 + 3) _ ((toksV_at L i 3 hi (by omega)).trans rfl)
      rwa [Go.WideShapes.add_plain, Nat.zero_add] at this
theorem own_cap {w : World} {base e size m : Nat} {v : Value} {xs : List Value} (h : w.ownsRow base e size v m xs) : m ≤ 9223372036854775807 := by
  rcases h.2 with ⟨h1, h2⟩ | ⟨g, cap, cur, hv, h2, hb, h3, h4, _⟩
  · omega
  · unfold maxLen at h4; omega
end Go.Proofs.Ytgaedkaohjphaaa
