/-
  The bytes of numbers stand in the order of how many they are, and of themselves, as the numbers do; plain lists, no conditions beyond those in each theorem.
-/
import Derived.Test.YtcafanekckkdoaaEnc
import GoSem.Op.String
namespace Go.Proofs.Ytcafanekckkdoaa

def less : List Nat → List Nat → Bool
  | _, [] => false
  | [], _ :: _ => true
  | a :: x, b :: y => decide (a < b) || (decide (a = b) && less x y)

theorem less_map : ∀ (x y : List Nat), (∀ c ∈ x, c < 256) → (∀ c ∈ y, c < 256) → Op.bytesLess (x.map UInt8.ofNat) (y.map UInt8.ofNat) = less x y
  | _, [], _, _ => by simp [less, Op.bytesLess]
  | [], _ :: _, _, _ => by simp [less, Op.bytesLess]
  | a :: x, b :: y, hx, hy => by
    have ha := hx a (by simp)
    have hb := hy b (by simp)
    have ih := less_map x y (fun c hc => hx c (by simp [hc])) (fun c hc => hy c (by simp [hc]))
    simp only [List.map_cons, Op.bytesLess, less, ih]
    have e1 : decide (UInt8.ofNat a < UInt8.ofNat b) = decide (a < b) := by
      rw [decide_eq_decide, UInt8.lt_iff_toNat_lt]; simp; omega
    have e2 : (UInt8.ofNat a == UInt8.ofNat b) = decide (a = b) := by
      rw [Bool.eq_iff_iff]; simp [← UInt8.toNat_inj]; omega
    rw [e1, e2]

theorem less_snoc : ∀ (x y : List Nat) (c d : Nat), x.length = y.length → less (x ++ [c]) (y ++ [d]) = (less x y || (decide (x = y) && decide (c < d)))
  | [], [], c, d, _ => by simp [less]
  | [], _ :: _, _, _, h => by simp at h
  | _ :: _, [], _, _, h => by simp at h
  | a :: x, b :: y, c, d, h => by
    have ih := less_snoc x y c d (by simpa using h)
    simp only [List.cons_append, less, ih]
    by_cases e : a = b
    · subst e; simp
    · simp [e]

theorem hiz_len (m : Nat) (h : 0 < m) : (hiz m).length = (hiz (m / 128)).length + 1 := by rw [hiz_step m h]; simp
theorem hiz_0 : hiz 0 = [] := by simp [hiz]
theorem hiz_nil (m : Nat) (h : (hiz m).length = 0) : m = 0 := by
  rcases Nat.eq_zero_or_pos m with h0 | h0
  · exact h0
  · have := hiz_len m h0; omega
theorem hiz_mono : ∀ (a b : Nat), a ≤ b → (hiz a).length ≤ (hiz b).length := by
  intro a
  induction a using Nat.strongRecOn with
  | ind a ih =>
    intro b hab
    rcases Nat.eq_zero_or_pos a with h0 | h0
    · subst h0; simp [hiz_0]
    · have := ih (a / 128) (by omega) (b / 128) (by omega)
      have h1 := hiz_len a h0
      have h2 := hiz_len b (by omega)
      omega
theorem hiz_ord : ∀ (a b : Nat), (hiz a).length = (hiz b).length → less (hiz a) (hiz b) = decide (a < b) ∧ (hiz a = hiz b ↔ a = b) := by
  intro a
  induction a using Nat.strongRecOn with
  | ind a ih =>
    intro b hl
    rcases Nat.eq_zero_or_pos a with h0 | h0
    · subst h0
      rw [hiz_0] at hl
      have := hiz_nil b hl.symm
      subst this
      simp [hiz_0, less]
    · have hb : 0 < b := by
        rcases Nat.eq_zero_or_pos b with h1 | h1
        · subst h1; rw [hiz_0] at hl; have := hiz_nil a hl; omega
        · exact h1
      have h1 := hiz_len a h0
      have h2 := hiz_len b hb
      obtain ⟨i1, i2⟩ := ih (a / 128) (by omega) (b / 128) (by omega)
      rw [hiz_step a h0, hiz_step b hb]
      refine ⟨?_, ?_⟩
      · have i3 : decide (hiz (a / 128) = hiz (b / 128)) = decide (a / 128 = b / 128) := decide_eq_decide.2 i2
        rw [less_snoc _ _ _ _ (by omega), i1, i3]
        by_cases c1 : a / 128 < b / 128
        · simp [c1]; omega
        · by_cases c2 : a / 128 = b / 128
          · simp [c2]; omega
          · simp [c1, c2]; omega
      · constructor
        · intro h
          have := List.append_inj' h rfl
          have e := i2.1 this.1
          have e2 := this.2
          simp at e2
          omega
        · rintro rfl; rfl
theorem put_mono (a b : Nat) (h : a ≤ b) : (put a).length ≤ (put b).length := by
  rw [put_step a, put_step b]
  have := hiz_mono (a / 128) (b / 128) (by omega)
  simp; omega
theorem put_ord (a b : Nat) (hl : (put a).length = (put b).length) : less (put a) (put b) = decide (a < b) ∧ (put a = put b ↔ a = b) := by
  rw [put_step a, put_step b] at hl ⊢
  have hl : (hiz (a / 128)).length = (hiz (b / 128)).length := by simpa using hl
  obtain ⟨i1, i2⟩ := hiz_ord (a / 128) (b / 128) hl
  refine ⟨?_, ?_⟩
  · have i3 : decide (hiz (a / 128) = hiz (b / 128)) = decide (a / 128 = b / 128) := decide_eq_decide.2 i2
    rw [less_snoc _ _ _ _ hl, i1, i3]
    by_cases c1 : a / 128 < b / 128
    · simp [c1]; omega
    · by_cases c2 : a / 128 = b / 128
      · simp [c2]; omega
      · simp [c1, c2]; omega
  · constructor
    · intro h
      have := List.append_inj' h rfl
      have e := i2.1 this.1
      have e2 := this.2
      simp at e2
      omega
    · rintro rfl; rfl
end Go.Proofs.Ytcafanekckkdoaa
