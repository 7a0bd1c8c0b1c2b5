
/-
  Appends that make a list anew, and one change of a module that was made.
-/
import Derived.Test.YtpdebnecfknohaaQm
import Derived.Test.YtpdebnecfknohaaFp
namespace Go.Proofs.Ytpdebnecfknohaa
open Go.RowKit
set_option linter.unusedVariables false
set_option maxRecDepth 20000

theorem YI.turn5 {w4 wc wA : World} {q8 qf : Nat} {N : Md} {Bs Bg Be : Option Addr} {ds dg df de : Nat} {f f' : Fn} {l : List Fn} (h : YI w4 wc q8 N Bs Bg (some ⟨qf, 0, none⟩) Be ds dg df de) (hfl : N.funcs = f :: l) (hb : Below wc.heap.size wc wA) (cs : List Value) (hl5 : cs.length = 5) (hcs : ∀ i v, cs[i]? = some v → wc.cell? ⟨qf, i, none⟩ = some v) (j : Nat) (hj : j < 5) (u : Value) (hf : FnS (fun k => k ≠ qf) wA (cs.set j u) f') (hfit : f'.Fit) : Yz w4 (wA.setCell ⟨qf, j, none⟩ u) q8 := by
  obtain ⟨_, hql, cur, hB⟩ := h.fns.blk qf rfl
  have hBA : Blk wA qf 40 cur := (hb.block qf hql).trans hB
  have hcur : ∀ i v, cs[i]? = some v → cur[i]? = some v := fun i v hv => by rw [← hB.cell]; exact hcs i v hv
  refine h.turn hfl hb j hj u (cs.set j u) (fun i v hv => ?_) hf hfit
  rw [(hBA.set_ j u).cell]
  by_cases hij : i = j
  · subst hij
    have hi : i < cs.length := by omega
    have h1 := hcur i _ (List.getElem?_eq_getElem hi)
    have hs : i < cur.size := by
      rcases Nat.lt_or_ge i cur.size with h | h
      · exact h
      · rw [Array.getElem?_eq_none h] at h1; cases h1
    rw [List.getElem?_set_self hi] at hv
    rw [Array.getElem?_setIfInBounds_self_of_lt hs]
    exact hv
  · rw [List.getElem?_set_ne (by omega)] at hv
    rw [Array.getElem?_setIfInBounds_ne (by omega)]
    exact hcur i v hv
theorem app_ints (w : World) (b o n c : Nat) (l : List Int) (hl : l.length = n) (hn : n ≤ 1000000) (hc : ∀ j u, (intV l)[j]? = some u → w.cell? ⟨b, o + j, none⟩ = some u) :
    ∃ A' c' w', (Builtin.append_ #[27, 27] 27 #[.slice none 0 0, .slice (some ⟨b, o, none⟩) n c]).run Try.prog w = .ok (.slice A' n c') w' ∧ w'.ownsRow w.heap.size 3 1 (.slice A' n c') n (intV l) ∧ Below w.heap.size w w' := by
  obtain ⟨i0, hi0, hz0, hz1, hz2⟩ := info_parts info3
  obtain ⟨v5, w5, hr5, hO5, hg5, _, _⟩ := run_append_own_at (P := Try.prog) w w.heap.size 27 27 3 i0 (.int .i64 0) 1 8 Try.underlying27 hi0 hz0 hz1 hz2 rfl (by decide) (.slice none 0 0) 0 [] (World.ownsRow_nil _ _ _ _) ⟨b, o, none⟩ n c (intV l) (by rw [intV_len, hl]; omega) (fun j u hu => by rw [Go.WideShapes.add_plain]; exact hc j u hu) (by intro u hu; simp [intV] at hu; obtain ⟨x, _, rfl⟩ := hu; rfl) (by unfold maxLen; omega) (by omega) (Nat.le_refl _)
  rw [Nat.zero_add, List.nil_append] at hO5
  obtain ⟨A', c', rfl⟩ := own_slice hO5
  exact ⟨A', c', w5, hr5, hO5, (Below.refl _ _).grown hg5 (Nat.le_refl _) (fun k hk => by simp [Value.ownBlock] at hk)⟩
theorem app_strs (w : World) (b o n c : Nat) (l : List (List UInt8)) (hl : l.length = n) (hn : n ≤ 1000000) (hc : ∀ j u, (strV l)[j]? = some u → w.cell? ⟨b, o + j, none⟩ = some u) :
    ∃ A' c' w', (Builtin.append_ #[26, 26] 26 #[.slice none 0 0, .slice (some ⟨b, o, none⟩) n c]).run Try.prog w = .ok (.slice A' n c') w' ∧ w'.ownsRow w.heap.size 9 1 (.slice A' n c') n (strV l) ∧ Below w.heap.size w w' := by
  obtain ⟨i0, hi0, hz0, hz1, hz2⟩ := info_parts info9
  obtain ⟨v5, w5, hr5, hO5, hg5, _, _⟩ := run_append_own_at (P := Try.prog) w w.heap.size 26 26 9 i0 (.string ⟨#[]⟩) 1 16 Try.underlying26 hi0 hz0 hz1 hz2 rfl (by decide) (.slice none 0 0) 0 [] (World.ownsRow_nil _ _ _ _) ⟨b, o, none⟩ n c (strV l) (by rw [strV_len, hl]; omega) (fun j u hu => by rw [Go.WideShapes.add_plain]; exact hc j u hu) (by intro u hu; simp [strV] at hu; obtain ⟨x, _, rfl⟩ := hu; rfl) (by unfold maxLen; omega) (by omega) (Nat.le_refl _)
  rw [Nat.zero_add, List.nil_append] at hO5
  obtain ⟨A', c', rfl⟩ := own_slice hO5
  exact ⟨A', c', w5, hr5, hO5, (Below.refl _ _).grown hg5 (Nat.le_refl _) (fun k hk => by simp [Value.ownBlock] at hk)⟩
/-- Statements behind one that is new. -/
theorem app_body (S : Nat → Prop) (w : World) (k : Int) (A0 : Option Addr) (n0 c0 : Nat) (sub t : Bd) (hn0 : n0 = sub.len) (hsub : BodyS S w A0 sub) (Ab : Option Addr) (nb cb : Nat) (hnb : nb = t.len) (ht : BodyS S w Ab t) (hl : nb ≤ 1000000) (hS : ∀ k, w.heap.size ≤ k → S k) :
    ∃ A' c' w', (Builtin.append_ #[38, 38] 38 #[.slice (some ⟨w.heap.size, 0, none⟩) 1 1, .slice Ab nb cb]).run Try.prog (w.alloc (.cells #[.int .u8 k, .int .u8 0, .int .i64 0, .int .u8 0, .int .i64 0, .slice none 0 0, .slice A0 n0 c0] 50)) = .ok (.slice A' (1 + nb) c') w' ∧ BodyS S w' A' (.cons k 0 0 0 0 [] sub t) ∧ Below w.heap.size w w' := by
  subst hn0 hnb
  obtain ⟨i0, hi0, hz0, hz1, hz2⟩ := info_parts info50
  have hBA : Below w.heap.size w (w.alloc (.cells #[.int .u8 k, .int .u8 0, .int .i64 0, .int .u8 0, .int .i64 0, .slice none 0 0, .slice A0 sub.len c0] 50)) := (Below.refl _ _).alloc (Nat.le_refl _) _
  have hown : (w.alloc (.cells #[.int .u8 k, .int .u8 0, .int .i64 0, .int .u8 0, .int .i64 0, .slice none 0 0, .slice A0 sub.len c0] 50)).ownsRow w.heap.size 50 7 (.slice (some ⟨w.heap.size, 0, none⟩) 1 1) 1 (seven k 0 0 0 0 (.slice none 0 0) (.slice A0 sub.len c0)) :=
    ⟨rfl, .inr ⟨w.heap.size, 1, _, rfl, Nat.le_refl _, heap_alloc_new w _, Nat.le_refl _, by unfold maxLen; omega, rfl, rfl⟩⟩
  have fin : ∀ (w' : World) (A' : Option Addr) (c' : Nat) (cs : List Value), Below w.heap.size w w' → CellsB S w cs t → w'.ownsRow w.heap.size 50 7 (.slice A' (1 + t.len) c') (1 + t.len) (seven k 0 0 0 0 (.slice none 0 0) (.slice A0 sub.len c0) ++ cs) → BodyS S w' A' (.cons k 0 0 0 0 [] sub t) := fun w' A' c' cs hb hcs ho => by
    have hK : Kept S w w' := fun k _ hk => hb.block k hk
    exact own_body (by simp only [Bd.len]; omega) ho ⟨.slice none 0 0, A0, c0, cs, rfl, ⟨none, 0, rfl, fun hp => by simp at hp⟩, hsub.kept hK (fun _ h _ => h), CellsB.kept hK (fun _ h _ => h) t cs hcs⟩ hS
  cases Ab with
  | none =>
    have h0 : t.len = 0 := by
      rcases Nat.eq_zero_or_pos t.len with h0 | h0
      · exact h0
      · obtain ⟨b, o, hA, _⟩ := ht h0; cases hA
    have hti : t = .nil := by cases t with | nil => rfl | cons => simp [Bd.len] at h0
    subst hti
    refine ⟨some ⟨w.heap.size, 0, none⟩, 1, _, ?_, fin _ _ _ [] hBA rfl (by rw [List.append_nil]; exact hown), hBA⟩
    simp [Builtin.append_, run_underlying Try.underlying38, sizeOf, typeInfo, hi0, Builtin.lenOf, Builtin.firstCells, storeCells, Bd.len]
  | some a =>
    obtain ⟨cs, hcs, hcc⟩ : ∃ cs, CellsB S w cs t ∧ ∀ j u, cs[j]? = some u → w.cell? (a.add j) = some u := by
      rcases Nat.eq_zero_or_pos t.len with h0 | h0
      · have ht : t = .nil := by cases t with | nil => rfl | cons => simp [Bd.len] at h0
        subst ht
        exact ⟨[], rfl, fun j u hj => by simp at hj⟩
      · obtain ⟨b, o, hA, hb⟩ := ht h0
        injection hA with hA
        subst hA
        obtain ⟨cs, h1, h2⟩ := BdS.cells t b o hb
        exact ⟨cs, h1, fun j u hj => by rw [Go.WideShapes.add_plain]; exact h2 j u hj⟩
    obtain ⟨v5, w5, hr5, hO5, hg5, _, _⟩ := run_append_own_at (P := Try.prog) (w.alloc (.cells #[.int .u8 k, .int .u8 0, .int .i64 0, .int .u8 0, .int .i64 0, .slice none 0 0, .slice A0 sub.len c0] 50)) w.heap.size 38 38 50 i0 (.agg #[.int .u8 0, .int .u8 0, .int .i64 0, .int .u8 0, .int .i64 0, .slice none 0 0, .slice none 0 0]) 7 88 Try.underlying38 hi0 hz0 hz1 hz2 rfl (by decide) (.slice (some ⟨w.heap.size, 0, none⟩) 1 1) 1 _ hown a t.len cb cs (CellsB.len t cs hcs) (fun j u hj => by
        have := hcc j u hj
        rw [World.cell?_alloc_lt w _ _ (World.block_lt_of_cell? w _ this)]
        exact this) (CellsB.one t cs hcs) (by unfold maxLen; omega) (by omega) (by simp)
    obtain ⟨A', c', rfl⟩ := own_slice hO5
    have hb5 : Below w.heap.size w w5 := hBA.grown hg5 (by simp) (fun k hk => by simp [Value.ownBlock] at hk; omega)
    exact ⟨A', c', w5, hr5, fin _ _ _ cs hb5 hcs hO5, hb5⟩
end Go.Proofs.Ytpdebnecfknohaa
