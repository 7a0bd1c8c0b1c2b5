
/-
  A statement that stands so often in a row, appended one by one.
-/
import Derived.Test.YtpdebnecfknohaaSw
namespace Go.Proofs.Ytpdebnecfknohaa
open Go.RowKit
set_option linter.unusedVariables false
set_option maxRecDepth 20000

/-- A statement without a body, so often. -/
def Bd.rep (k a1 a2 b1 b2 : Int) (xs : List (Int × Int)) : Nat → Bd
  | 0 => .nil
  | n + 1 => .cons k a1 a2 b1 b2 xs .nil (Bd.rep k a1 a2 b1 b2 xs n)
theorem rep_len (k a1 a2 b1 b2 : Int) (xs : List (Int × Int)) (n : Nat) : (Bd.rep k a1 a2 b1 b2 xs n).len = n := by
  induction n with
  | zero => rfl
  | succ n ih => simp only [Bd.rep, Bd.len, ih]
theorem rep_size (k a1 a2 b1 b2 : Int) (xs : List (Int × Int)) (n : Nat) : (Bd.rep k a1 a2 b1 b2 xs n).size = n := by
  induction n with
  | zero => rfl
  | succ n ih => simp only [Bd.rep, Bd.size, ih]; omega
theorem rep_wide (k a1 a2 b1 b2 : Int) (xs : List (Int × Int)) (n : Nat) : (Bd.rep k a1 a2 b1 b2 xs n).wide = n * xs.length := by
  induction n with
  | zero => simp [Bd.rep, Bd.wide]
  | succ n ih => simp only [Bd.rep, Bd.wide, ih, Nat.succ_mul]; omega
theorem rep_cnt (k a1 a2 b1 b2 : Int) (xs : List (Int × Int)) (n d : Nat) : (Bd.rep k a1 a2 b1 b2 xs n).cnt d = n := by
  induction n with
  | zero => rfl
  | succ n ih =>
    simp only [Bd.rep, Bd.cnt, ih]
    split <;> omega
/-- The cells of so many statements. -/
def seven (k a1 a2 b1 b2 : Int) (va vs : Value) : List Value := [.int .u8 k, .int .u8 a1, .int .i64 a2, .int .u8 b1, .int .i64 b2, va, vs]
def sevens (k a1 a2 b1 b2 : Int) (va vs : Value) : Nat → List Value
  | 0 => []
  | n + 1 => seven k a1 a2 b1 b2 va vs ++ sevens k a1 a2 b1 b2 va vs n
theorem sevens_len (k a1 a2 b1 b2 : Int) (va vs : Value) (n : Nat) : (sevens k a1 a2 b1 b2 va vs n).length = n * 7 := by
  induction n with
  | zero => rfl
  | succ n ih => simp only [sevens, List.length_append, ih, seven]; simp; omega
theorem sevens_snoc (k a1 a2 b1 b2 : Int) (va vs : Value) (n : Nat) : sevens k a1 a2 b1 b2 va vs (n + 1) = sevens k a1 a2 b1 b2 va vs n ++ seven k a1 a2 b1 b2 va vs := by
  induction n with
  | zero => simp [sevens]
  | succ n ih =>
    show seven k a1 a2 b1 b2 va vs ++ sevens k a1 a2 b1 b2 va vs (n + 1) = _
    conv => lhs; rw [ih]
    rw [← List.append_assoc]; rfl
theorem sevens_one (k a1 a2 b1 b2 : Int) (Aa As : Option Addr) (la ls ca cs n : Nat) : ∀ u ∈ sevens k a1 a2 b1 b2 (.slice Aa la ca) (.slice As ls cs) n, u.oneCell' = true := by
  induction n with
  | zero => intro u hu; simp [sevens] at hu
  | succ n ih =>
    intro u hu
    rcases List.mem_append.1 hu with h | h
    · simp [seven] at h; rcases h with rfl | rfl | rfl | rfl | rfl | rfl | rfl <;> rfl
    · exact ih u h
/-- Cells of so many statements read as a body. -/
theorem sevens_at {w : World} (k a1 a2 b1 b2 : Int) (xs : List (Int × Int)) (va : Value) (As : Option Addr) (cs : Nat) (ha : ArgsAt w va xs) (b : Nat) : ∀ (n o : Nat), (∀ j u, (sevens k a1 a2 b1 b2 va (.slice As 0 cs) n)[j]? = some u → w.cell? ⟨b, o + j, none⟩ = some u) → BdAt w b o (Bd.rep k a1 a2 b1 b2 xs n)
  | 0, _, _ => trivial
  | n + 1, o, h => by
    have g : ∀ j u, (seven k a1 a2 b1 b2 va (.slice As 0 cs))[j]? = some u → w.cell? ⟨b, o + j, none⟩ = some u := fun j u hj => by
      refine h j u ?_
      show (seven k a1 a2 b1 b2 va (.slice As 0 cs) ++ _)[j]? = _
      have hlt : j < (seven k a1 a2 b1 b2 va (.slice As 0 cs)).length := by
        rcases Nat.lt_or_ge j (seven k a1 a2 b1 b2 va (.slice As 0 cs)).length with h | h
        · exact h
        · rw [List.getElem?_eq_none h] at hj; cases hj
      rw [List.getElem?_append_left hlt]; exact hj
    refine ⟨⟨g 0 _ rfl, g 1 _ rfl, g 2 _ rfl, g 3 _ rfl, g 4 _ rfl⟩, ⟨va, g 5 _ rfl, ha⟩, ⟨As, cs, g 6 _ rfl, fun h => by simp [Bd.len] at h⟩, ?_⟩
    refine sevens_at k a1 a2 b1 b2 xs va As cs ha b n (o + 7) fun j u hj => ?_
    have := h (7 + j) u (by
      show (seven k a1 a2 b1 b2 va (.slice As 0 cs) ++ _)[7 + j]? = _
      rw [List.getElem?_append_right (by simp [seven])]
      simpa [seven] using hj)
    rwa [show o + 7 + j = o + (7 + j) from by omega]
theorem info50 : (Try.prog.info? 50).map (fun i => (i.zero, i.size, i.bytes)) = some (some (.agg #[.int .u8 0, .int .u8 0, .int .i64 0, .int .u8 0, .int .i64 0, .slice none 0 0, .slice none 0 0]), 7, 88) := by kernel_rfl
/-- An owned row's cells. -/
theorem own_cellsM {w : World} {base n size : Nat} {e : TypeId} {q cap : Nat} {xs : List Value} (h : w.ownsRow base e size (.slice (some ⟨q, 0, none⟩) n cap) n xs) : ∀ j u, xs[j]? = some u → w.cell? ⟨q, 0 + j, none⟩ = some u := by
  intro j u hj
  rcases h.2 with ⟨hv, _⟩ | ⟨k, cap', cur, hv, h2, hk, h3, h4, h5, h6⟩
  · cases hv
  · injection hv with hv1 hv2 hv3
    injection hv1 with hv1
    injection hv1 with hv1
    subst hv1
    rw [cell_of_row w q _ cur e (0, 0) hk, Nat.zero_add, ← Array.getElem?_toList]
    rw [← h6] at hj
    rcases Nat.lt_or_ge j (n * size) with h | h
    · rwa [List.getElem?_take_of_lt h] at hj
    · rw [List.getElem?_eq_none (by rw [List.length_take]; omega)] at hj; cases hj
/-- One statement more, as the loop appends it. -/
theorem push7 (base : Nat) (v : Value) (n : Nat) (k a1 a2 b1 b2 : Int) (Aa As : Option Addr) (la ls ca cs : Nat) (w : World) (h : w.ownsRow base 50 7 v n (sevens k a1 a2 b1 b2 (.slice Aa la ca) (.slice As ls cs) n)) (hl : n ≤ 1000) (hb : base ≤ w.heap.size) :
    ∃ v' w', (Builtin.append_ #[38, 38] 38 #[v, .slice (some ⟨w.heap.size, 0, none⟩) 1 1]).run Try.prog (w.alloc (.cells #[.int .u8 k, .int .u8 a1, .int .i64 a2, .int .u8 b1, .int .i64 b2, .slice Aa la ca, .slice As ls cs] 50)) = .ok v' w' ∧ w'.ownsRow base 50 7 v' (n + 1) (sevens k a1 a2 b1 b2 (.slice Aa la ca) (.slice As ls cs) (n + 1)) ∧ (w.alloc (.cells #[.int .u8 k, .int .u8 a1, .int .i64 a2, .int .u8 b1, .int .i64 b2, .slice Aa la ca, .slice As ls cs] 50)).grownBy w' v.ownBlock := by
  obtain ⟨i0, hi0, hz0, hz1, hz2⟩ := info_parts info50
  have hc : ∀ j u, (seven k a1 a2 b1 b2 (.slice Aa la ca) (.slice As ls cs))[j]? = some u → (w.alloc (.cells #[.int .u8 k, .int .u8 a1, .int .i64 a2, .int .u8 b1, .int .i64 b2, .slice Aa la ca, .slice As ls cs] 50)).cell? ((⟨w.heap.size, 0, none⟩ : Addr).add j) = some u := by
    intro j u hj
    rw [Go.WideShapes.add_plain, cell_of_row _ w.heap.size _ _ 50 (0, 0) (heap_alloc_new w _), Nat.zero_add]
    simpa [seven] using hj
  obtain ⟨v5, w5, hr5, hO5, hg5, _, _⟩ := run_append_own_at (P := Try.prog) (w.alloc (.cells #[.int .u8 k, .int .u8 a1, .int .i64 a2, .int .u8 b1, .int .i64 b2, .slice Aa la ca, .slice As ls cs] 50)) base 38 38 50 i0 (.agg #[.int .u8 0, .int .u8 0, .int .i64 0, .int .u8 0, .int .i64 0, .slice none 0 0, .slice none 0 0]) 7 88 Try.underlying38 hi0 hz0 hz1 hz2 rfl (by decide) v n _ (h.alloc _) ⟨w.heap.size, 0, none⟩ 1 1 (seven k a1 a2 b1 b2 (.slice Aa la ca) (.slice As ls cs)) rfl hc (by intro u hu; simp [seven] at hu; rcases hu with rfl | rfl | rfl | rfl | rfl | rfl | rfl <;> rfl) (by unfold maxLen; omega) (by omega) (by simp; omega)
  refine ⟨v5, w5, hr5, ?_, hg5⟩
  rw [sevens_snoc]; exact hO5
/-- All of a row behind one statement. -/
theorem joined7 (base q cap n : Nat) (k a1 a2 b1 b2 : Int) (Aa As : Option Addr) (la ls ca cs : Nat) (w : World) (h : w.ownsRow base 50 7 (.slice (some ⟨q, 0, none⟩) n cap) n (sevens k a1 a2 b1 b2 (.slice Aa la ca) (.slice As ls cs) n)) (hl : n ≤ 1000) (B : Nat) (hB : B ≤ w.heap.size) :
    ∃ v' w', (Builtin.append_ #[38, 38] 38 #[.slice (some ⟨w.heap.size, 0, none⟩) 1 1, .slice (some ⟨q, 0, none⟩) n cap]).run Try.prog (w.alloc (.cells #[.int .u8 7, .int .u8 0, .int .i64 0, .int .u8 0, .int .i64 0, .slice none 0 0, .slice none 0 0] 50)) = .ok v' w' ∧ w'.ownsRow w.heap.size 50 7 v' (1 + n) (seven 7 0 0 0 0 (.slice none 0 0) (.slice none 0 0) ++ sevens k a1 a2 b1 b2 (.slice Aa la ca) (.slice As ls cs) n) ∧ (w.alloc (.cells #[.int .u8 7, .int .u8 0, .int .i64 0, .int .u8 0, .int .i64 0, .slice none 0 0, .slice none 0 0] 50)).grownBy w' (some w.heap.size) := by
  obtain ⟨i0, hi0, hz0, hz1, hz2⟩ := info_parts info50
  have hlt := (h.lt q rfl).2
  have hc : ∀ j u, (sevens k a1 a2 b1 b2 (.slice Aa la ca) (.slice As ls cs) n)[j]? = some u → (w.alloc (.cells #[.int .u8 7, .int .u8 0, .int .i64 0, .int .u8 0, .int .i64 0, .slice none 0 0, .slice none 0 0] 50)).cell? ((⟨q, 0, none⟩ : Addr).add j) = some u := by
    intro j u hj
    rw [Go.WideShapes.add_plain, World.cell?_of_block (a := ⟨q, 0 + j, none⟩) (heap_alloc_old w _ hlt)]
    exact own_cellsM h j u hj
  have hown : (w.alloc (.cells #[.int .u8 7, .int .u8 0, .int .i64 0, .int .u8 0, .int .i64 0, .slice none 0 0, .slice none 0 0] 50)).ownsRow w.heap.size 50 7 (.slice (some ⟨w.heap.size, 0, none⟩) 1 1) 1 (seven 7 0 0 0 0 (.slice none 0 0) (.slice none 0 0)) :=
    ⟨rfl, .inr ⟨w.heap.size, 1, _, rfl, Nat.le_refl _, heap_alloc_new w _, Nat.le_refl _, by unfold maxLen; omega, rfl, rfl⟩⟩
  obtain ⟨v5, w5, hr5, hO5, hg5, _, _⟩ := run_append_own_at (P := Try.prog) (w.alloc (.cells #[.int .u8 7, .int .u8 0, .int .i64 0, .int .u8 0, .int .i64 0, .slice none 0 0, .slice none 0 0] 50)) w.heap.size 38 38 50 i0 (.agg #[.int .u8 0, .int .u8 0, .int .i64 0, .int .u8 0, .int .i64 0, .slice none 0 0, .slice none 0 0]) 7 88 Try.underlying38 hi0 hz0 hz1 hz2 rfl (by decide) (.slice (some ⟨w.heap.size, 0, none⟩) 1 1) 1 _ hown ⟨q, 0, none⟩ n cap (sevens k a1 a2 b1 b2 (.slice Aa la ca) (.slice As ls cs) n) (sevens_len ..) hc (sevens_one _ _ _ _ _ _ _ _ _ _ _ _) (by unfold maxLen; omega) (by omega) (by simp)
  exact ⟨v5, w5, hr5, hO5, hg5⟩
end Go.Proofs.Ytpdebnecfknohaa
