
/-
  Where one statement's lists are replaced by copies of them, all bodies read as before.
-/
import Derived.Test.YtpdebnecfknohaaFp
namespace Go.Proofs.Ytpdebnecfknohaa
open Go.RowKit
set_option linter.unusedVariables false
set_option maxRecDepth 20000

/-- A slice's first m cells a place are copied, in another world. -/
def Copied (m : Nat) (W W' : World) (A : Option Addr) (n : Nat) (A' : Option Addr) : Prop := 0 < n → ∀ b o, A = some ⟨b, o, none⟩ → ∃ b' o', A' = some ⟨b', o', none⟩ ∧ ∀ j u, j < n * m → W.cell? ⟨b, o + j, none⟩ = some u → W'.cell? ⟨b', o' + j, none⟩ = some u
/-- One statement's two lists are copies now; all else is as it was. -/
structure Swap (W W' : World) (q p : Nat) : Prop where
  ints : ∀ b o k x, W.cell? ⟨b, o, none⟩ = some (.int k x) → W'.cell? ⟨b, o, none⟩ = some (.int k x)
  rest : ∀ b o A n c, W.cell? ⟨b, o, none⟩ = some (.slice A n c) → ¬ (b = q ∧ (o = p + 5 ∨ o = p + 6)) → W'.cell? ⟨b, o, none⟩ = some (.slice A n c)
  args : ∃ A n c A' c' xs, W.cell? ⟨q, p + 5, none⟩ = some (.slice A n c) ∧ W'.cell? ⟨q, p + 5, none⟩ = some (.slice A' n c') ∧ ArgsAt W (.slice A n c) xs ∧ Copied 2 W W' A n A'
  body : ∃ A n c A' c', W.cell? ⟨q, p + 6, none⟩ = some (.slice A n c) ∧ W'.cell? ⟨q, p + 6, none⟩ = some (.slice A' n c') ∧ Copied 7 W W' A n A'
variable {W W' : World} {q p : Nat}
theorem Swap.argsAt (h : Swap W W' q p) {v : Value} {xs : List (Int × Int)} (ha : ArgsAt W v xs) : ArgsAt W' v xs := by
  obtain ⟨A, c, rfl, ha⟩ := ha
  refine ⟨A, c, rfl, fun hp => ?_⟩
  obtain ⟨b, o, hA, hc⟩ := ha hp
  exact ⟨b, o, hA, fun i hi => ⟨h.ints _ _ _ _ (hc i hi).1, h.ints _ _ _ _ (hc i hi).2⟩⟩
theorem copied_args {A A' : Option Addr} {n c c' m : Nat} {xs : List (Int × Int)} (hm : 2 ≤ m) (hc : Copied m W W' A n A') (ha : ArgsAt W (.slice A n c) xs) : ArgsAt W' (.slice A' n c') xs := by
  obtain ⟨A0, c0, hv, ha⟩ := ha
  injection hv with hv1 hv2 hv3
  subst hv1 hv2
  refine ⟨A', c', rfl, fun hp => ?_⟩
  obtain ⟨b, o, hA, hx⟩ := ha hp
  obtain ⟨b', o', hA', hcp⟩ := hc hp b o hA
  refine ⟨b', o', hA', fun i hi => ?_⟩
  have h1 : i * 2 + 1 < xs.length * m := by
    have : xs.length * 2 ≤ xs.length * m := Nat.mul_le_mul_left _ hm
    omega
  refine ⟨hcp (i * 2) _ (by omega) (hx i hi).1, ?_⟩
  rw [Nat.add_assoc]
  exact hcp (i * 2 + 1) _ h1 (by rw [← Nat.add_assoc]; exact (hx i hi).2)

/-- Cells of statements, from one place to another one. -/
def CpB (W W' : World) (q p b o b' o' n : Nat) : Prop := ∀ i, i < n → (∀ j k x, j < 5 → W.cell? ⟨b, o + i * 7 + j, none⟩ = some (.int k x) → W'.cell? ⟨b', o' + i * 7 + j, none⟩ = some (.int k x)) ∧
  (∀ A m c, W.cell? ⟨b, o + i * 7 + 5, none⟩ = some (.slice A m c) → ∃ A' c', W'.cell? ⟨b', o' + i * 7 + 5, none⟩ = some (.slice A' m c') ∧ (A' = A ∧ c' = c ∨ Copied 2 W W' A m A')) ∧
  (∀ A m c, W.cell? ⟨b, o + i * 7 + 6, none⟩ = some (.slice A m c) → ∃ A' c', W'.cell? ⟨b', o' + i * 7 + 6, none⟩ = some (.slice A' m c') ∧ (A' = A ∨ Copied 7 W W' A m A' ∨ ∃ xs, ArgsAt W (.slice A m c) xs))
theorem CpB.shift {b o b' o' n : Nat} (h : CpB W W' q p b o b' o' (n + 1)) : CpB W W' q p b (o + 7) b' (o' + 7) n := fun i hi => by
  have := h (i + 1) (by omega)
  rw [show o + 7 + i * 7 = o + (i + 1) * 7 from by omega, show o' + 7 + i * 7 = o' + (i + 1) * 7 from by omega]
  exact this
theorem Swap.here (h : Swap W W' q p) (b o n : Nat) : CpB W W' q p b o b o n := fun i hi => by
  obtain ⟨A5, n5, c5, A5', c5', xs5, g1, g2, g3, g4⟩ := h.args
  obtain ⟨A6, n6, c6, A6', c6', k1, k2, k3⟩ := h.body
  refine ⟨fun j k x _ hx => h.ints _ _ _ _ hx, fun A m c hx => ?_, fun A m c hx => ?_⟩
  · by_cases hq : b = q ∧ (o + i * 7 + 5 = p + 5 ∨ o + i * 7 + 5 = p + 6)
    · obtain ⟨rfl, hq | hq⟩ := hq
      · rw [hq] at hx ⊢
        rw [hx] at g1
        injection g1 with g1
        injection g1 with e1 e2 e3
        subst e1 e2 e3
        exact ⟨A5', c5', g2, .inr g4⟩
      · rw [hq] at hx ⊢
        rw [hx] at k1
        injection k1 with k1
        injection k1 with e1 e2 e3
        subst e1 e2 e3
        refine ⟨A6', c6', k2, .inr fun hp b2 o2 hA => ?_⟩
        obtain ⟨b', o', hA', hc⟩ := k3 hp b2 o2 hA
        exact ⟨b', o', hA', fun j u hj hu => hc j u (by omega) hu⟩
    · exact ⟨A, c, h.rest _ _ _ _ _ hx hq, .inl ⟨rfl, rfl⟩⟩
  · by_cases hq : b = q ∧ (o + i * 7 + 6 = p + 5 ∨ o + i * 7 + 6 = p + 6)
    · obtain ⟨rfl, hq | hq⟩ := hq
      · rw [hq] at hx ⊢
        rw [hx] at g1
        injection g1 with g1
        injection g1 with e1 e2 e3
        subst e1 e2 e3
        exact ⟨A5', c5', g2, .inr (.inr ⟨xs5, g3⟩)⟩
      · rw [hq] at hx ⊢
        rw [hx] at k1
        injection k1 with k1
        injection k1 with e1 e2 e3
        subst e1 e2 e3
        exact ⟨A6', c6', k2, .inr (.inl k3)⟩
    · exact ⟨A, c, h.rest _ _ _ _ _ hx hq, .inl rfl⟩
theorem Swap.bdAt (h : Swap W W' q p) (N : Nat) : ∀ (t : Bd) (b o b' o' : Nat), t.size ≤ N → BdAt W b o t → CpB W W' q p b o b' o' t.len → BdAt W' b' o' t := by
  induction N with
  | zero =>
    intro t b o b' o' hN _ _
    cases t with
    | nil => trivial
    | cons => simp [Bd.size] at hN
  | succ N ih =>
    intro t b o b' o' hN ht hc
    cases t with
    | nil => trivial
    | cons k a1 a2 b1 b2 xs sub rest =>
      obtain ⟨⟨h0, h1, h2, h3, h4⟩, ⟨va, h5, ha⟩, ⟨A, c, h6, hs⟩, hr⟩ := ht
      simp only [Bd.size] at hN
      obtain ⟨e0, e5, e6⟩ := hc 0 (by simp [Bd.len])
      simp only [Nat.zero_mul, Nat.add_zero] at e0 e5 e6
      obtain ⟨Aa, ca, rfl, ha'⟩ := ha
      have haa : ArgsAt W (.slice Aa xs.length ca) xs := ⟨Aa, ca, rfl, ha'⟩
      obtain ⟨Aa', ca', g5, hg5⟩ := e5 _ _ _ h5
      obtain ⟨A', c', g6, hg6⟩ := e6 _ _ _ h6
      refine ⟨⟨e0 0 _ _ (by omega) h0, e0 1 _ _ (by omega) h1, e0 2 _ _ (by omega) h2, e0 3 _ _ (by omega) h3, e0 4 _ _ (by omega) h4⟩, ⟨_, g5, ?_⟩, ⟨A', c', g6, fun hp => ?_⟩, ih rest b (o + 7) b' (o' + 7) (by omega) hr (CpB.shift hc)⟩
      · rcases hg5 with ⟨rfl, rfl⟩ | hg5
        · exact h.argsAt haa
        · exact copied_args (Nat.le_refl _) hg5 haa
      · obtain ⟨bs, os, hA, hbs⟩ := hs hp
        rcases hg6 with rfl | hg6 | ⟨ys, hys⟩
        · exact ⟨bs, os, hA, ih sub bs os bs os (by omega) hbs (h.here bs os sub.len)⟩
        · obtain ⟨b2, o2, hA2, hcp⟩ := hg6 hp bs os hA
          refine ⟨b2, o2, hA2, ih sub bs os b2 o2 (by omega) hbs fun i hi => ⟨fun j k x hj hx => ?_, fun A m c hx => ⟨A, c, ?_, .inl ⟨rfl, rfl⟩⟩, fun A m c hx => ⟨A, c, ?_, .inl rfl⟩⟩⟩
          · rw [Nat.add_assoc]; exact hcp (i * 7 + j) _ (by omega) (by rw [← Nat.add_assoc]; exact hx)
          · rw [Nat.add_assoc]; exact hcp (i * 7 + 5) _ (by omega) (by rw [← Nat.add_assoc]; exact hx)
          · rw [Nat.add_assoc]; exact hcp (i * 7 + 6) _ (by omega) (by rw [← Nat.add_assoc]; exact hx)
        · exfalso
          obtain ⟨A0, c0, hv, hy⟩ := hys
          injection hv with hv1 hv2 hv3
          subst hv1
          rw [hv2] at hp
          obtain ⟨b2, o2, hA2, hcy⟩ := hy hp
          rw [hA] at hA2
          injection hA2 with hA2
          injection hA2 with e1 e2
          subst e1 e2
          have hi := (hcy 0 hp).2
          cases sub with
          | nil => simp [Bd.len] at hv2; omega
          | cons k2 x1 x2 y1 y2 zs s2 r2 =>
            have hj := hbs.1.2.1
            simp only [Nat.zero_mul, Nat.add_zero] at hi
            rw [hi] at hj
            injection hj with hj
            injection hj with hj
            cases hj
theorem Swap.bodyV (h : Swap W W' q p) {A : Option Addr} {t : Bd} (ht : BodyV W A t) : BodyV W' A t := fun hp => by
  obtain ⟨b, o, hA, hb⟩ := ht hp
  exact ⟨b, o, hA, h.bdAt t.size t b o b o (Nat.le_refl _) hb (h.here b o t.len)⟩
end Go.Proofs.Ytpdebnecfknohaa
