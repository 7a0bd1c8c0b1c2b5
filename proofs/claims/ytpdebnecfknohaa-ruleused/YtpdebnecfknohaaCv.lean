
/-
  Where one statement's lists are replaced by copies of them, all bodies read as before, in blocks of a kind.
-/
import Derived.Test.YtpdebnecfknohaaFp
namespace Go.Proofs.Ytpdebnecfknohaa
open Go.RowKit
set_option linter.unusedVariables false
set_option maxRecDepth 20000

theorem BdS.inS {S : Nat → Prop} {W : World} {b o : Nat} {t : Bd} (hp : 0 < t.len) (h : BdS S W b o t) : S b := by
  cases t with
  | nil => simp [Bd.len] at hp
  | cons => exact h.1
/-- A slice's first m cells a place are copied, in another world. -/
def CopiedS (S' : Nat → Prop) (m : Nat) (W W' : World) (A : Option Addr) (n : Nat) (A' : Option Addr) : Prop := 0 < n → ∀ b o, A = some ⟨b, o, none⟩ → ∃ b' o', A' = some ⟨b', o', none⟩ ∧ S' b' ∧ ∀ j u, j < n * m → W.cell? ⟨b, o + j, none⟩ = some u → W'.cell? ⟨b', o' + j, none⟩ = some u
/-- One statement's two lists are copies now; all else is as it was. -/
structure SwapS (S S' : Nat → Prop) (W W' : World) (q p : Nat) : Prop where
  mono : ∀ k, S k → S' k
  ints : ∀ b o k x, W.cell? ⟨b, o, none⟩ = some (.int k x) → W'.cell? ⟨b, o, none⟩ = some (.int k x)
  rest : ∀ b o A n c, W.cell? ⟨b, o, none⟩ = some (.slice A n c) → ¬ (b = q ∧ (o = p + 5 ∨ o = p + 6)) → W'.cell? ⟨b, o, none⟩ = some (.slice A n c)
  args : ∃ A n c A' c' xs, W.cell? ⟨q, p + 5, none⟩ = some (.slice A n c) ∧ W'.cell? ⟨q, p + 5, none⟩ = some (.slice A' n c') ∧ ArgsAt W (.slice A n c) xs ∧ CopiedS S' 2 W W' A n A'
  body : ∃ A n c A' c', W.cell? ⟨q, p + 6, none⟩ = some (.slice A n c) ∧ W'.cell? ⟨q, p + 6, none⟩ = some (.slice A' n c') ∧ CopiedS S' 7 W W' A n A'
variable {S S' : Nat → Prop} {W W' : World} {q p : Nat}
theorem SwapS.argsAt (h : SwapS S S' W W' q p) {v : Value} {xs : List (Int × Int)} (ha : ArgsS S W v xs) : ArgsS S' W' v xs := by
  obtain ⟨A, c, rfl, ha⟩ := ha
  refine ⟨A, c, rfl, fun hp => ?_⟩
  obtain ⟨b, o, hA, hb, hc⟩ := ha hp
  exact ⟨b, o, hA, h.mono _ hb, fun i hi => ⟨h.ints _ _ _ _ (hc i hi).1, h.ints _ _ _ _ (hc i hi).2⟩⟩
theorem copied_argsS {A A' : Option Addr} {n c c' m : Nat} {xs : List (Int × Int)} (hm : 2 ≤ m) (hc : CopiedS S' m W W' A n A') (ha : ArgsS S W (.slice A n c) xs) : ArgsS S' W' (.slice A' n c') xs := by
  obtain ⟨A0, c0, hv, ha⟩ := ha
  injection hv with hv1 hv2 hv3
  subst hv1 hv2
  refine ⟨A', c', rfl, fun hp => ?_⟩
  obtain ⟨b, o, hA, hb, hx⟩ := ha hp
  obtain ⟨b', o', hA', hb', hcp⟩ := hc hp b o hA
  refine ⟨b', o', hA', hb', fun i hi => ?_⟩
  have h1 : i * 2 + 1 < xs.length * m := by
    have : xs.length * 2 ≤ xs.length * m := Nat.mul_le_mul_left _ hm
    omega
  refine ⟨hcp (i * 2) _ (by omega) (hx i hi).1, ?_⟩
  rw [Nat.add_assoc]
  exact hcp (i * 2 + 1) _ h1 (by rw [← Nat.add_assoc]; exact (hx i hi).2)

/-- Cells of statements, from one place to another one. -/
def CpBS (S' : Nat → Prop) (W W' : World) (q p b o b' o' n : Nat) : Prop := ∀ i, i < n → (∀ j k x, j < 5 → W.cell? ⟨b, o + i * 7 + j, none⟩ = some (.int k x) → W'.cell? ⟨b', o' + i * 7 + j, none⟩ = some (.int k x)) ∧
  (∀ A m c, W.cell? ⟨b, o + i * 7 + 5, none⟩ = some (.slice A m c) → ∃ A' c', W'.cell? ⟨b', o' + i * 7 + 5, none⟩ = some (.slice A' m c') ∧ (A' = A ∧ c' = c ∨ CopiedS S' 2 W W' A m A')) ∧
  (∀ A m c, W.cell? ⟨b, o + i * 7 + 6, none⟩ = some (.slice A m c) → ∃ A' c', W'.cell? ⟨b', o' + i * 7 + 6, none⟩ = some (.slice A' m c') ∧ (A' = A ∨ CopiedS S' 7 W W' A m A' ∨ ∃ xs, ArgsAt W (.slice A m c) xs))
theorem CpBS.shift {b o b' o' n : Nat} (h : CpBS S' W W' q p b o b' o' (n + 1)) : CpBS S' W W' q p b (o + 7) b' (o' + 7) n := fun i hi => by
  have := h (i + 1) (by omega)
  rw [show o + 7 + i * 7 = o + (i + 1) * 7 from by omega, show o' + 7 + i * 7 = o' + (i + 1) * 7 from by omega]
  exact this
theorem SwapS.here (h : SwapS S S' W W' q p) (b o n : Nat) : CpBS S' W W' q p b o b o n := fun i hi => by
  obtain ⟨A5, n5, c5, A5', c5', xs5, g1, g2, g3, g4⟩ := h.args
  obtain ⟨A6, n6, c6, A6', c6', k1, k2, k3⟩ := h.body
  refine ⟨fun j k x _ hx => h.ints _ _ _ _ hx, fun A m c hx => ?_, fun A m c hx => ?_⟩
  · by_cases hq : b = q ∧ (o + i * 7 + 5 = p + 5 ∨ o + i * 7 + 5 = p + 6)
    · obtain ⟨rfl, hq | hq⟩ := hq
      · rw [hq] at hx ⊢
        rw [hx] at g1
        injection g1 with g1
        injection g1 with e1 e2 e3
        subst e1 e2 e3
        exact ⟨A5', c5', g2, .inr g4⟩
      · rw [hq] at hx ⊢
        rw [hx] at k1
        injection k1 with k1
        injection k1 with e1 e2 e3
        subst e1 e2 e3
        refine ⟨A6', c6', k2, .inr fun hp b2 o2 hA => ?_⟩
        obtain ⟨b', o', hA', hb', hc⟩ := k3 hp b2 o2 hA
        exact ⟨b', o', hA', hb', fun j u hj hu => hc j u (by omega) hu⟩
    · exact ⟨A, c, h.rest _ _ _ _ _ hx hq, .inl ⟨rfl, rfl⟩⟩
  · by_cases hq : b = q ∧ (o + i * 7 + 6 = p + 5 ∨ o + i * 7 + 6 = p + 6)
    · obtain ⟨rfl, hq | hq⟩ := hq
      · rw [hq] at hx ⊢
        rw [hx] at g1
        injection g1 with g1
        injection g1 with e1 e2 e3
        subst e1 e2 e3
        exact ⟨A5', c5', g2, .inr (.inr ⟨xs5, g3⟩)⟩
      · rw [hq] at hx ⊢
        rw [hx] at k1
        injection k1 with k1
        injection k1 with e1 e2 e3
        subst e1 e2 e3
        exact ⟨A6', c6', k2, .inr (.inl k3)⟩
    · exact ⟨A, c, h.rest _ _ _ _ _ hx hq, .inl rfl⟩
theorem SwapS.bdAt (h : SwapS S S' W W' q p) (N : Nat) : ∀ (t : Bd) (b o b' o' : Nat), t.size ≤ N → BdS S W b o t → S' b' → CpBS S' W W' q p b o b' o' t.len → BdS S' W' b' o' t := by
  induction N with
  | zero =>
    intro t b o b' o' hN _ _ _
    cases t with
    | nil => trivial
    | cons => simp [Bd.size] at hN
  | succ N ih =>
    intro t b o b' o' hN ht hSb hc
    cases t with
    | nil => trivial
    | cons k a1 a2 b1 b2 xs sub rest =>
      obtain ⟨hS0, ⟨h0, h1, h2, h3, h4⟩, ⟨va, h5, ha⟩, ⟨A, c, h6, hs⟩, hr⟩ := ht
      simp only [Bd.size] at hN
      obtain ⟨e0, e5, e6⟩ := hc 0 (by simp [Bd.len])
      simp only [Nat.zero_mul, Nat.add_zero] at e0 e5 e6
      obtain ⟨Aa, ca, rfl, ha'⟩ := ha
      have haa : ArgsS S W (.slice Aa xs.length ca) xs := ⟨Aa, ca, rfl, ha'⟩
      obtain ⟨Aa', ca', g5, hg5⟩ := e5 _ _ _ h5
      obtain ⟨A', c', g6, hg6⟩ := e6 _ _ _ h6
      refine ⟨hSb, ⟨e0 0 _ _ (by omega) h0, e0 1 _ _ (by omega) h1, e0 2 _ _ (by omega) h2, e0 3 _ _ (by omega) h3, e0 4 _ _ (by omega) h4⟩, ⟨_, g5, ?_⟩, ⟨A', c', g6, fun hp => ?_⟩, ih rest b (o + 7) b' (o' + 7) (by omega) hr hSb (CpBS.shift hc)⟩
      · rcases hg5 with ⟨rfl, rfl⟩ | hg5
        · exact h.argsAt haa
        · exact copied_argsS (Nat.le_refl _) hg5 haa
      · obtain ⟨bs, os, hA, hbs⟩ := hs hp
        rcases hg6 with rfl | hg6 | ⟨ys, hys⟩
        · exact ⟨bs, os, hA, ih sub bs os bs os (by omega) hbs (h.mono _ (BdS.inS hp hbs)) (h.here bs os sub.len)⟩
        · obtain ⟨b2, o2, hA2, hb2, hcp⟩ := hg6 hp bs os hA
          refine ⟨b2, o2, hA2, ih sub bs os b2 o2 (by omega) hbs hb2 fun i hi => ⟨fun j k x hj hx => ?_, fun A m c hx => ⟨A, c, ?_, .inl ⟨rfl, rfl⟩⟩, fun A m c hx => ⟨A, c, ?_, .inl rfl⟩⟩⟩
          · rw [Nat.add_assoc]; exact hcp (i * 7 + j) _ (by omega) (by rw [← Nat.add_assoc]; exact hx)
          · rw [Nat.add_assoc]; exact hcp (i * 7 + 5) _ (by omega) (by rw [← Nat.add_assoc]; exact hx)
          · rw [Nat.add_assoc]; exact hcp (i * 7 + 6) _ (by omega) (by rw [← Nat.add_assoc]; exact hx)
        · exfalso
          obtain ⟨A0, c0, hv, hy⟩ := hys
          injection hv with hv1 hv2 hv3
          subst hv1
          rw [hv2] at hp
          obtain ⟨b2, o2, hA2, hcy⟩ := hy hp
          rw [hA] at hA2
          injection hA2 with hA2
          injection hA2 with e1 e2
          subst e1 e2
          have hi := (hcy 0 hp).2
          cases sub with
          | nil => simp [Bd.len] at hv2; omega
          | cons k2 x1 x2 y1 y2 zs s2 r2 =>
            have hj := hbs.2.1.2.1
            simp only [Nat.zero_mul, Nat.add_zero] at hi
            rw [hi] at hj
            injection hj with hj
            injection hj with hj
            cases hj
theorem SwapS.bodyS (h : SwapS S S' W W' q p) {A : Option Addr} {t : Bd} (ht : BodyS S W A t) : BodyS S' W' A t := fun hp => by
  obtain ⟨b, o, hA, hb⟩ := ht hp
  exact ⟨b, o, hA, h.bdAt t.size t b o b o (Nat.le_refl _) hb (h.mono _ (BdS.inS hp hb)) (h.here b o t.len)⟩
/-- One round's stores: a statement with copies of its lists. -/
theorem SwapS.of {W5 : World} {k a1 a2 b1 b2 : Int} {Aa As A1 A4 : Option Addr} {ca cs c1 c4 : Nat} {xs : List (Int × Int)} {sub : Bd} (hb : Below W.heap.size W W5) (hmono : ∀ k, S k → S' k)
    (h0 : W.cell? ⟨q, p, none⟩ = some (.int .u8 k)) (h1 : W.cell? ⟨q, p + 1, none⟩ = some (.int .u8 a1)) (h2 : W.cell? ⟨q, p + 2, none⟩ = some (.int .i64 a2)) (h3 : W.cell? ⟨q, p + 3, none⟩ = some (.int .u8 b1)) (h4 : W.cell? ⟨q, p + 4, none⟩ = some (.int .i64 b2)) (h5 : W.cell? ⟨q, p + 5, none⟩ = some (.slice Aa xs.length ca)) (h6 : W.cell? ⟨q, p + 6, none⟩ = some (.slice As sub.len cs))
    (hfar : ∀ a : Addr, a.block ≠ q → W'.cell? a = W5.cell? a) (hsame : ∀ o, (∀ j, j < 7 → o ≠ p + j) → W'.cell? ⟨q, o, none⟩ = W5.cell? ⟨q, o, none⟩)
    (g0 : W'.cell? ⟨q, p, none⟩ = some (.int .u8 k)) (g1 : W'.cell? ⟨q, p + 1, none⟩ = some (.int .u8 a1)) (g2 : W'.cell? ⟨q, p + 2, none⟩ = some (.int .i64 a2)) (g3 : W'.cell? ⟨q, p + 3, none⟩ = some (.int .u8 b1)) (g4 : W'.cell? ⟨q, p + 4, none⟩ = some (.int .i64 b2)) (g5 : W'.cell? ⟨q, p + 5, none⟩ = some (.slice A1 xs.length c1)) (g6 : W'.cell? ⟨q, p + 6, none⟩ = some (.slice A4 sub.len c4))
    (ha : ArgsAt W (.slice Aa xs.length ca) xs) (hA : ArgsS (fun k => k ≠ q ∧ S' k) W5 (.slice A1 xs.length c1) xs)
    {csb : List Value} {base : Nat} (hO : W5.ownsRow base 50 7 (.slice A4 sub.len c4) sub.len csb) (hbase : q < base) (hS4 : ∀ k, some k = (Value.slice A4 sub.len c4).ownBlock → S' k) (hl : csb.length = sub.len * 7) (hcc : ∀ a, As = some a → ∀ j u, csb[j]? = some u → W.cell? (a.add j) = some u) : SwapS S S' W W' q p := by
  have key : ∀ b o u, W.cell? ⟨b, o, none⟩ = some u → ¬ (b = q ∧ (o = p + 5 ∨ o = p + 6)) → W'.cell? ⟨b, o, none⟩ = some u := fun b o u hu hne => by
    have hlt := World.block_lt_of_cell? W ⟨b, o, none⟩ hu
    have hu5 := cell_old hb hlt hu
    by_cases hq : b = q
    · subst hq
      by_cases hj : ∀ j, j < 7 → o ≠ p + j
      · rw [hsame o hj]; exact hu5
      · obtain ⟨j, hj⟩ := Classical.not_forall.1 hj
        obtain ⟨hj7, hoj⟩ := Classical.not_imp.1 hj
        have hoj : o = p + j := Classical.not_not.1 hoj
        subst hoj
        match j, hj7 with
        | 0, _ => rw [Nat.add_zero] at hu ⊢; rw [hu] at h0; injection h0 with e; rw [e]; exact g0
        | 1, _ => rw [hu] at h1; injection h1 with e; rw [e]; exact g1
        | 2, _ => rw [hu] at h2; injection h2 with e; rw [e]; exact g2
        | 3, _ => rw [hu] at h3; injection h3 with e; rw [e]; exact g3
        | 4, _ => rw [hu] at h4; injection h4 with e; rw [e]; exact g4
        | 5, _ => exact absurd ⟨rfl, .inl rfl⟩ hne
        | 6, _ => exact absurd ⟨rfl, .inr rfl⟩ hne
    · rw [hfar _ hq]; exact hu5
  refine ⟨hmono, fun b o k' x hx => key b o _ hx (fun ⟨e1, e2⟩ => ?_), fun b o A n c hx hne => key b o _ hx hne, ⟨Aa, xs.length, ca, A1, c1, xs, h5, g5, ha, fun hp b o hA1 => ?_⟩, ⟨As, sub.len, cs, A4, c4, h6, g6, fun hp b o hA4 => ?_⟩⟩
  · subst e1
    rcases e2 with rfl | rfl
    · rw [h5] at hx; cases hx
    · rw [h6] at hx; cases hx
  · obtain ⟨A0, c0, hv, hx⟩ := hA
    injection hv with hv1 hv2 hv3
    subst hv1
    obtain ⟨b', o', hA', ⟨hne, hSb⟩, hc'⟩ := hx hp
    refine ⟨b', o', hA', hSb, fun j u hj hu => ?_⟩
    obtain ⟨A2, c2, hv, hy⟩ := ha
    injection hv with hv1 hv2 hv3
    subst hv1
    obtain ⟨b2, o2, hA2, hc2⟩ := hy hp
    rw [hA1] at hA2
    injection hA2 with hA2
    injection hA2 with e1 e2
    subst e1 e2
    rw [hfar _ hne]
    have hd : ∀ (Z : World) (bz oz : Nat), (∀ i, i < xs.length → Z.cell? ⟨bz, oz + i * 2, none⟩ = some (.int .u8 (xs.getD i (0, 0)).1) ∧ Z.cell? ⟨bz, oz + i * 2 + 1, none⟩ = some (.int .i64 (xs.getD i (0, 0)).2)) → ∃ v, (refV xs)[j]? = some v ∧ Z.cell? ⟨bz, oz + j, none⟩ = some v := fun Z bz oz hz => by
      have hjl : j < (refV xs).length := by rw [refV_len]; exact hj
      exact ⟨_, List.getElem?_eq_getElem hjl, refV_at hz j _ (List.getElem?_eq_getElem hjl)⟩
    obtain ⟨v1, hv1, hz1⟩ := hd W b o hc2
    obtain ⟨v2, hv2, hz2⟩ := hd W5 b' o' hc'
    rw [hv1] at hv2
    injection hv2 with hv2
    rw [hz1] at hu
    injection hu with hu
    rw [hz2, ← hv2, hu]
  · obtain ⟨q4, cap, hv, hb4, _⟩ := own_formM hO hp
    injection hv with hv1 _ hv3
    subst hv1 hv3
    refine ⟨q4, 0, rfl, hS4 q4 rfl, fun j u hj hu => ?_⟩
    have hjl : j < csb.length := by rw [hl]; exact hj
    have h1 := hcc _ hA4 j _ (List.getElem?_eq_getElem hjl)
    rw [Go.WideShapes.add_plain, hu] at h1
    rw [hfar _ (by show q4 ≠ q; omega), own_cellsM hO j _ (List.getElem?_eq_getElem hjl)]
    exact h1.symm
end Go.Proofs.Ytpdebnecfknohaa
