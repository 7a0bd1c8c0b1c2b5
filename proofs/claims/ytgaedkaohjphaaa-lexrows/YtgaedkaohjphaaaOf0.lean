/-
  Lex: rows of the reference's tokens.
-/
import Derived.Test.YtgaedkaohjphaaaOb0
import Derived.Test.YtgaedkaohjphaaaOe
namespace Go.Proofs.Ytgaedkaohjphaaa
open Go.RowKit
set_option linter.unusedVariables false
set_option linter.unusedSimpArgs false
set_option maxRecDepth 20000
def tcs (t : Tok) : List Value := t.cells.toList
def toksV (L : List Tok) : List Value := L.flatMap tcs
theorem tcs_len (t : Tok) : (tcs t).length = 4 := rfl
theorem toksV_len : ∀ L : List Tok, (toksV L).length = L.length * 4
  | [] => rfl
  | t :: L => by
    have := toksV_len L
    simp only [toksV, List.flatMap_cons, List.length_append, tcs_len, List.length_cons] at this ⊢
    omega
theorem info34 : (Try.prog.info? 34).map (fun i => (i.zero, i.size, i.bytes)) = some (some (.agg #[.int .u8 0, .int .u8 0, .string ⟨#[]⟩, .int .i64 0]), 4, 32) := by kernel_rfl
/-- A token more. -/
theorem pushT (base g : Nat) (v : Value) (m : Nat) (L : List Tok) (x : Tok) (w : World) (hg : g = w.heap.size) (hm : m = L.length) (h : w.ownsRow base 34 4 v m (toksV L)) (hl : m ≤ 1000000000) (hb : base ≤ w.heap.size) :
    ∃ A c w', (Builtin.append_ #[26, 26] 26 #[v, .slice (some ⟨g, 0, none⟩) 1 1]).run Try.prog (w.alloc (.cells x.cells 34)) = .ok (.slice A (m + 1) c) w' ∧ w'.ownsRow base 34 4 (.slice A (m + 1) c) (m + 1) (toksV (L ++ [x])) ∧ Below base w w' := by
  subst hm hg
  obtain ⟨i0, hi0, hz0, hz1, hz2⟩ := info_parts info34
  have hc : ∀ j u, (tcs x)[j]? = some u → (w.alloc (.cells x.cells 34)).cell? ((⟨w.heap.size, 0, none⟩ : Addr).add j) = some u := by
    intro j u hj
    rw [Go.WideShapes.add_plain, cell_of_row _ w.heap.size _ _ 34 (0, 0) (heap_alloc_new w _), Nat.zero_add, ← Array.getElem?_toList]
    exact hj
  obtain ⟨v5, w5, hr5, hO5, hg5, _, hat⟩ := run_append_own_at (P := Try.prog) (w.alloc (.cells x.cells 34)) base 26 26 34 i0 (.agg #[.int .u8 0, .int .u8 0, .string ⟨#[]⟩, .int .i64 0]) 4 32 Try.underlying26 hi0 hz0 hz1 hz2 rfl (by decide) v L.length _ (h.alloc _) ⟨w.heap.size, 0, none⟩ 1 1 (tcs x) rfl hc (by intro u hu; simp only [tcs, Tok.cells, List.mem_cons, List.not_mem_nil, or_false] at hu; rcases hu with rfl | rfl | rfl | rfl <;> rfl) (by unfold maxLen; omega) (by omega) (by simp; omega)
  obtain ⟨q5, c5, rfl⟩ : ∃ q5 c5, v5 = .slice (some ⟨q5, 0, none⟩) (L.length + 1) c5 := by
    rcases hO5.2 with ⟨_, h1⟩ | ⟨k, cap, cur, hv, _⟩
    · omega
    · exact ⟨k, cap, hv⟩
  refine ⟨_, c5, w5, hr5, ?_, ?_⟩
  · rw [show toksV (L ++ [x]) = toksV L ++ tcs x from by simp [toksV]]; exact hO5
  · exact ((Below.refl base w).alloc hb _).grown hg5 (by simp; omega) (fun k hk => (h.lt k hk).1)
end Go.Proofs.Ytgaedkaohjphaaa
