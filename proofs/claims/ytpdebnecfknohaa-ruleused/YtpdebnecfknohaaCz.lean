
/-
  One round of copyBody: what Clone leaves, and that all bodies read as before.
-/
import Derived.Test.YtpdebnecfknohaaCy
namespace Go.Proofs.Ytpdebnecfknohaa
open Go.RowKit
set_option linter.unusedVariables false
set_option maxRecDepth 20000

set_option maxRecDepth 20000 in
set_option maxHeartbeats 1000000 in
theorem cloneS2_any (S : Nat → Prop) (Ab : Option Addr) (cb : Nat) (t : Bd) (w : World) (h : BodyS S w Ab t) (hl : t.len ≤ 1000000000) :
    Calls Try.prog 66 #[.slice Ab t.len cb] w fun e w' => ∃ A c, e = .returned (.slice A t.len c) ∧ (∃ cs, w'.ownsRow w.heap.size 50 7 (.slice A t.len c) t.len cs ∧ CellsB S w cs t ∧ (∀ a, Ab = some a → ∀ j u, cs[j]? = some u → w.cell? (a.add j) = some u)) ∧ Below w.heap.size w w' := by
  obtain ⟨i0, hi0, hz0, hz1, hz2⟩ := info_parts info50
  obtain ⟨n, hnl⟩ : ∃ n, n = t.len := ⟨_, rfl⟩
  have HNL := Lib.hid hnl
  cases Ab with
  | none =>
    have h0 : t.len = 0 := by
      rcases Nat.eq_zero_or_pos t.len with h0 | h0
      · exact h0
      · obtain ⟨b, o, hA, _⟩ := h h0; cases hA
    have ht : t = .nil := by cases t with | nil => rfl | cons => simp [Bd.len] at h0
    subst ht
    clear h
    have hq := fun W => Lib.run_eql_slice_nil (P := Try.prog) W 38 50 none 0 cb 0 0 Try.underlying38
    simp only [Bd.len]
    go_enter Try.func66, Try.ntmps66
    go_wp2
    go_ret
    exact ⟨none, 0, rfl, ⟨[], World.ownsRow_nil _ _ _ _, rfl, fun a h => by cases h⟩, Below.refl _ _⟩
  | some a =>
    obtain ⟨cs, hcs, hcc⟩ : ∃ cs, CellsB S w cs t ∧ ∀ j u, cs[j]? = some u → w.cell? (a.add j) = some u := by
      rcases Nat.eq_zero_or_pos t.len with h0 | h0
      · have ht : t = .nil := by cases t with | nil => rfl | cons => simp [Bd.len] at h0
        subst ht
        exact ⟨[], rfl, fun j u hj => by simp at hj⟩
      · obtain ⟨b, o, hA, hb⟩ := h h0
        injection hA with hA
        subst hA
        obtain ⟨cs, h1, h2⟩ := BdS.cells t b o hb
        exact ⟨cs, h1, fun j u hj => by rw [Go.WideShapes.add_plain]; exact h2 j u hj⟩
    have HF := Lib.hid hcc
    have HCS := Lib.hid hcs
    have HFL : Hid (cs.length = n * 7) := by show _ = _; rw [CellsB.len t cs hcs, hnl]
    rw [← hnl] at hl ⊢
    clear hcc h hnl hcs
    have hq := fun W => Lib.run_eql_slice_nil (P := Try.prog) W 38 50 (some a) n cb 0 0 Try.underlying38
    go_enter Try.func66, Try.ntmps66
    go_wp2_with (first | (at_builtin; refine wpList_append_own_at _ rfl (.tmp 5) (.tmp 6) 38 rfl w.heap.size 50 i0 (.agg #[.int .u8 0, .int .u8 0, .int .i64 0, .int .u8 0, .int .i64 0, .slice none 0 0, .slice none 0 0]) 7 88 Try.underlying38 hi0 hz0 hz1 hz2 rfl (by decide) (.slice (some ⟨w.heap.size, 0, none⟩) 0 0) 0 [] rfl ?d1 a n cb cs rfl ?c1 ?c2 ?c3 ?c4 ?c5 ?c6 ?_))
    case d1 => exact World.ownsRow_made w #[] 0 (Nat.le_refl _) (by unfold maxLen; omega) rfl
    case c1 => exact HFL.out
    case c2 =>
      intro j u hu
      have := HF.out j u hu
      rw [World.cell?_alloc_lt w _ _ (World.block_lt_of_cell? w _ this)]
      exact this
    case c3 => exact CellsB.one t cs HCS.out
    case c4 => unfold maxLen; omega
    case c5 => omega
    case c6 => simp
    intro v' w1 hown hg _ hat
    have hown' : w1.ownsRow w.heap.size 50 7 v' n cs := by simpa using hown
    obtain ⟨A, c, rfl⟩ := own_slice hown'
    have HO := Lib.hid hown'
    have HB := Lib.hid (((Below.refl w.heap.size w).alloc (Nat.le_refl _) (.cells #[] 50)).grown hg (by simp) (fun k hk => by simp [Value.ownBlock] at hk; omega))
    clear hown hown' hg hat
    go_wp2
    go_ret
    exact ⟨A, c, rfl, ⟨cs, HO.out, HCS.out, fun a' h => by injection h with h; subst h; exact HF.out⟩, HB.out⟩

theorem Swap.of {W W5 W' : World} {q p : Nat} {k a1 a2 b1 b2 : Int} {Aa As A1 A4 : Option Addr} {ca cs c1 c4 : Nat} {xs : List (Int × Int)} {sub : Bd} (hb : Below W.heap.size W W5)
    (h0 : W.cell? ⟨q, p, none⟩ = some (.int .u8 k)) (h1 : W.cell? ⟨q, p + 1, none⟩ = some (.int .u8 a1)) (h2 : W.cell? ⟨q, p + 2, none⟩ = some (.int .i64 a2)) (h3 : W.cell? ⟨q, p + 3, none⟩ = some (.int .u8 b1)) (h4 : W.cell? ⟨q, p + 4, none⟩ = some (.int .i64 b2)) (h5 : W.cell? ⟨q, p + 5, none⟩ = some (.slice Aa xs.length ca)) (h6 : W.cell? ⟨q, p + 6, none⟩ = some (.slice As sub.len cs))
    (hfar : ∀ a : Addr, a.block ≠ q → W'.cell? a = W5.cell? a) (hsame : ∀ o, (∀ j, j < 7 → o ≠ p + j) → W'.cell? ⟨q, o, none⟩ = W5.cell? ⟨q, o, none⟩)
    (g0 : W'.cell? ⟨q, p, none⟩ = some (.int .u8 k)) (g1 : W'.cell? ⟨q, p + 1, none⟩ = some (.int .u8 a1)) (g2 : W'.cell? ⟨q, p + 2, none⟩ = some (.int .i64 a2)) (g3 : W'.cell? ⟨q, p + 3, none⟩ = some (.int .u8 b1)) (g4 : W'.cell? ⟨q, p + 4, none⟩ = some (.int .i64 b2)) (g5 : W'.cell? ⟨q, p + 5, none⟩ = some (.slice A1 xs.length c1)) (g6 : W'.cell? ⟨q, p + 6, none⟩ = some (.slice A4 sub.len c4))
    (ha : ArgsAt W (.slice Aa xs.length ca) xs) (hA : ArgsS (fun k => k ≠ q) W5 (.slice A1 xs.length c1) xs)
    {csb : List Value} {base : Nat} (hO : W5.ownsRow base 50 7 (.slice A4 sub.len c4) sub.len csb) (hbase : q < base) (hl : csb.length = sub.len * 7) (hcc : ∀ a, As = some a → ∀ j u, csb[j]? = some u → W.cell? (a.add j) = some u) : Swap W W' q p := by
  have key : ∀ b o u, W.cell? ⟨b, o, none⟩ = some u → ¬ (b = q ∧ (o = p + 5 ∨ o = p + 6)) → W'.cell? ⟨b, o, none⟩ = some u := fun b o u hu hne => by
    have hlt := World.block_lt_of_cell? W ⟨b, o, none⟩ hu
    have hu5 := cell_old hb hlt hu
    by_cases hq : b = q
    · subst hq
      by_cases hj : ∀ j, j < 7 → o ≠ p + j
      · rw [hsame o hj]; exact hu5
      · obtain ⟨j, hj⟩ := Classical.not_forall.1 hj
        obtain ⟨hj7, hoj⟩ := Classical.not_imp.1 hj
        have hoj : o = p + j := Classical.not_not.1 hoj
        subst hoj
        match j, hj7 with
        | 0, _ => rw [Nat.add_zero] at hu ⊢; rw [hu] at h0; injection h0 with e; rw [e]; exact g0
        | 1, _ => rw [hu] at h1; injection h1 with e; rw [e]; exact g1
        | 2, _ => rw [hu] at h2; injection h2 with e; rw [e]; exact g2
        | 3, _ => rw [hu] at h3; injection h3 with e; rw [e]; exact g3
        | 4, _ => rw [hu] at h4; injection h4 with e; rw [e]; exact g4
        | 5, _ => exact absurd ⟨rfl, .inl rfl⟩ hne
        | 6, _ => exact absurd ⟨rfl, .inr rfl⟩ hne
    · rw [hfar _ hq]; exact hu5
  refine ⟨fun b o k' x hx => key b o _ hx (fun ⟨e1, e2⟩ => ?_), fun b o A n c hx hne => key b o _ hx hne, ⟨Aa, xs.length, ca, A1, c1, xs, h5, g5, ha, fun hp b o hA1 => ?_⟩, ⟨As, sub.len, cs, A4, c4, h6, g6, fun hp b o hA4 => ?_⟩⟩
  · subst e1
    rcases e2 with rfl | rfl
    · rw [h5] at hx; cases hx
    · rw [h6] at hx; cases hx
  · obtain ⟨A0, c0, hv, hx⟩ := hA
    injection hv with hv1 hv2 hv3
    subst hv1
    obtain ⟨b', o', hA', hne, hc'⟩ := hx hp
    refine ⟨b', o', hA', fun j u hj hu => ?_⟩
    obtain ⟨A2, c2, hv, hy⟩ := ha
    injection hv with hv1 hv2 hv3
    subst hv1
    obtain ⟨b2, o2, hA2, hc2⟩ := hy hp
    rw [hA1] at hA2
    injection hA2 with hA2
    injection hA2 with e1 e2
    subst e1 e2
    rw [hfar _ hne]
    have hd : ∀ (Z : World) (bz oz : Nat), (∀ i, i < xs.length → Z.cell? ⟨bz, oz + i * 2, none⟩ = some (.int .u8 (xs.getD i (0, 0)).1) ∧ Z.cell? ⟨bz, oz + i * 2 + 1, none⟩ = some (.int .i64 (xs.getD i (0, 0)).2)) → ∃ v, (refV xs)[j]? = some v ∧ Z.cell? ⟨bz, oz + j, none⟩ = some v := fun Z bz oz hz => by
      have hjl : j < (refV xs).length := by rw [refV_len]; exact hj
      exact ⟨_, List.getElem?_eq_getElem hjl, refV_at hz j _ (List.getElem?_eq_getElem hjl)⟩
    obtain ⟨v1, hv1, hz1⟩ := hd W b o hc2
    obtain ⟨v2, hv2, hz2⟩ := hd W5 b' o' hc'
    rw [hv1] at hv2
    injection hv2 with hv2
    rw [hz1] at hu
    injection hu with hu
    rw [hz2, ← hv2, hu]
  · obtain ⟨q4, cap, hv, hb4, _⟩ := own_formM hO hp
    injection hv with hv1 _ hv3
    subst hv1 hv3
    refine ⟨q4, 0, rfl, fun j u hj hu => ?_⟩
    have hjl : j < csb.length := by rw [hl]; exact hj
    have h1 := hcc _ hA4 j _ (List.getElem?_eq_getElem hjl)
    rw [Go.WideShapes.add_plain, hu] at h1
    rw [hfar _ (by show q4 ≠ q; omega), own_cellsM hO j _ (List.getElem?_eq_getElem hjl)]
    exact h1.symm
end Go.Proofs.Ytpdebnecfknohaa
