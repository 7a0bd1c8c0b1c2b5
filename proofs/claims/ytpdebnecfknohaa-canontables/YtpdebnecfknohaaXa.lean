/-
  Canon: strings that are gathered, each once, and sorted, plain.
-/
import Derived.Test.YtpdebnecfknohaaCs
import Derived.Sort.Walk0
namespace Go.Proofs.Ytpdebnecfknohaa
open Go.RowKit
set_option linter.unusedVariables false
set_option linter.unusedSimpArgs false

/-- A string more, if it isn't there. -/
def addF (l : List (List UInt8)) (x : List UInt8) : List (List UInt8) := if l.contains x = true then l else l ++ [x]
def addsF : List (List UInt8) → List (List UInt8) → List (List UInt8)
  | l, [] => l
  | l, x :: xs => addsF (addF l x) xs
theorem addF_mem (l : List (List UInt8)) (x y : List UInt8) : y ∈ addF l x ↔ y ∈ l ∨ y = x := by
  unfold addF
  split
  · rename_i h
    constructor
    · exact .inl
    · rintro (h1 | rfl)
      · exact h1
      · simpa using h
  · simp
theorem addF_nodup (l : List (List UInt8)) (x : List UInt8) (h : l.Nodup) : (addF l x).Nodup := by
  unfold addF
  split
  · exact h
  · rename_i h1
    rw [List.nodup_append]
    refine ⟨h, by simp, ?_⟩
    intro a ha b hb
    have hb : b = x := by simpa using hb
    subst hb
    rintro rfl
    exact h1 (by simpa using ha)
theorem addsF_mem : ∀ (xs l : List (List UInt8)) (y : List UInt8), y ∈ addsF l xs ↔ y ∈ l ∨ y ∈ xs
  | [], l, y => by simp [addsF]
  | x :: xs, l, y => by
    rw [addsF, addsF_mem xs, addF_mem]
    simp only [List.mem_cons]
    exact or_assoc
theorem addsF_nodup : ∀ (xs l : List (List UInt8)), l.Nodup → (addsF l xs).Nodup
  | [], l, h => h
  | x :: xs, l, h => addsF_nodup xs _ (addF_nodup l x h)
theorem addsF_snoc : ∀ (xs l : List (List UInt8)) (x : List UInt8), addsF l (xs ++ [x]) = addF (addsF l xs) x
  | [], l, x => rfl
  | y :: xs, l, x => by rw [List.cons_append, addsF, addsF_snoc xs, addsF]
theorem addF_len (l : List (List UInt8)) (x : List UInt8) : (addF l x).length ≤ l.length + 1 := by unfold addF; split <;> simp
/-- Rising, each once. -/
def Rising (l : List (List UInt8)) : Prop := l.Pairwise (· < ·)
theorem gtF_lt (a b : List UInt8) : gtF a b = true ↔ b < a := by
  unfold gtF
  rw [Go.Proofs.bytesLess_eq]
  simp only [Bool.not_eq_true', Bool.or_eq_false_iff, decide_eq_false_iff_not, beq_eq_false_iff_ne, ne_eq]
  constructor
  · rintro ⟨h1, h2⟩
    rcases Std.lt_trichotomy a b with h | h | h
    · exact absurd h h1
    · exact absurd h h2
    · exact h
  · intro h
    exact ⟨fun h1 => List.lt_irrefl _ (List.lt_trans h h1), fun h1 => by subst h1; exact List.lt_irrefl _ h⟩
/-- What stands at the end goes to its place. -/
theorem bub_rising : ∀ (k : Nat) (a : List (List UInt8)) (x : List UInt8) (b : List (List UInt8)), a.length = k → Rising (a ++ b) → (∀ y ∈ b, x < y) → x ∉ a → Rising (bub k (a ++ x :: b)) ∧ (bub k (a ++ x :: b)).Perm (a ++ x :: b)
  | 0, a, x, b, hk, hr, hb, hx => by
    have : a = [] := List.eq_nil_of_length_eq_zero hk
    subst this
    exact ⟨List.pairwise_cons.2 ⟨hb, hr⟩, List.Perm.refl _⟩
  | k + 1, a, x, b, hk, hr, hb, hx => by
    obtain ⟨a', y, rfl⟩ : ∃ a' y, a = a' ++ [y] := by
      rcases List.eq_nil_or_concat a with h | ⟨a', y, h⟩
      · subst h; simp at hk
      · exact ⟨a', y, by rw [h, List.concat_eq_append]⟩
    have hk' : a'.length = k := by simpa using hk
    have h0 : (a' ++ [y] ++ x :: b).getD k [] = y := by
      rw [List.append_assoc, List.getD_eq_getElem?_getD, List.getElem?_append_right (by omega), hk', Nat.sub_self]; rfl
    have h1 : (a' ++ [y] ++ x :: b).getD (k + 1) [] = x := by
      rw [List.getD_eq_getElem?_getD, List.getElem?_append_right (by simp; omega)]
      simp [hk']
    rw [bub, h0, h1]
    by_cases hg : gtF y x = true
    · rw [if_pos hg]
      have hsw : swp (a' ++ [y] ++ x :: b) k = a' ++ x :: (y :: b) := by
        unfold swp
        rw [h0, h1, List.append_assoc, List.set_append_right _ _ (by omega), List.set_append_right _ _ (by omega), hk']
        simp [Nat.add_sub_cancel_left]
      rw [hsw]
      have hyx := (gtF_lt y x).1 hg
      have hr2 : Rising (a' ++ (y :: b)) := by simpa using hr
      have ih := bub_rising k a' x (y :: b) hk' hr2 (fun z hz => by
        rcases List.mem_cons.1 hz with rfl | hz
        · exact hyx
        · exact hb z hz) (fun h => hx (List.mem_append_left _ h))
      refine ⟨ih.1, ih.2.trans ?_⟩
      rw [List.append_assoc]
      exact List.Perm.append_left a' (List.Perm.swap y x b)
    · rw [if_neg hg]
      refine ⟨?_, List.Perm.refl _⟩
      have hle : ¬ x < y := fun h => hg ((gtF_lt y x).2 h)
      have hyx : y < x := by
        rcases Std.lt_trichotomy x y with h | h | h
        · exact absurd h hle
        · exact absurd (by rw [h]; simp) hx
        · exact h
      have hr' := List.pairwise_append.1 hr
      refine List.pairwise_append.2 ⟨hr'.1, List.pairwise_cons.2 ⟨hb, hr'.2.1⟩, fun z hz u hu => ?_⟩
      rcases List.mem_cons.1 hu with rfl | hu
      · rcases List.mem_append.1 hz with hz | hz
        · exact List.lt_trans ((List.pairwise_append.1 hr'.1).2.2 z hz y (by simp)) hyx
        · have : z = y := by simpa using hz
          rw [this]; exact hyx
      · exact hr'.2.2 z hz u hu
theorem numF_neg : ∀ (l : List (List UInt8)) (s : List UInt8) (i : Nat), numF l s i < 0 ↔ s ∉ l
  | [], s, i => by simp [numF]
  | x :: l, s, i => by
    rw [numF]
    by_cases h : x = s
    · rw [if_pos h]; subst h; simp
    · rw [if_neg h, numF_neg l s (i + 1)]
      simp only [List.mem_cons, not_or]
      exact ⟨fun h2 => ⟨fun e => h e.symm, h2⟩, fun h2 => h2.2⟩
theorem numF_at : ∀ (l : List (List UInt8)) (j i : Nat) (hj : j < l.length), l.Nodup → numF l l[j] i = ((i + j : Nat) : Int)
  | x :: l, 0, i, hj, hn => by simp [numF]
  | x :: l, j + 1, i, hj, hn => by
    have hn' := List.nodup_cons.1 hn
    have hjl : j < l.length := by simpa using hj
    have hne : ¬ x = l[j] := fun h => hn'.1 (by rw [h]; exact List.getElem_mem hjl)
    rw [numF, List.getElem_cons_succ, if_neg hne, numF_at l j (i + 1) hjl hn'.2]
    congr 1; omega
/-- What the reference gathers: rising, each once, just those that are used. -/
theorem canL_spec (g : List Int) (L : List Fn) (strs : List (List UInt8)) : ∀ i, i ≤ strs.length → Rising (canL g L strs i) ∧ ∀ x, x ∈ canL g L strs i ↔ ∃ j, ∃ h : j < strs.length, j < i ∧ usedF g L (j : Int) = true ∧ strs[j] = x
  | 0, _ => ⟨List.Pairwise.nil, fun x => by simp [canL]⟩
  | i + 1, hi => by
    obtain ⟨h1, h2⟩ := canL_spec g L strs i (by omega)
    have hil : i < strs.length := hi
    have hgd : strs.getD i [] = strs[i] := by rw [List.getD_eq_getElem?_getD, List.getElem?_eq_getElem hil]; rfl
    rw [canL, hgd]
    by_cases hc : usedF g L (i : Int) = true ∧ numF (canL g L strs i) strs[i] 0 < 0
    · rw [if_pos hc]
      have hx := (numF_neg _ _ _).1 hc.2
      have hb := bub_rising _ (canL g L strs i) strs[i] [] rfl (by simpa using h1) (by simp) hx
      refine ⟨hb.1, fun x => ?_⟩
      rw [hb.2.mem_iff]
      simp only [List.mem_append, List.mem_singleton, h2]
      constructor
      · rintro (⟨j, hj, hji, hu, he⟩ | rfl)
        · exact ⟨j, hj, by omega, hu, he⟩
        · exact ⟨i, hil, by omega, hc.1, rfl⟩
      · rintro ⟨j, hj, hji, hu, he⟩
        by_cases hjl : j < i
        · exact .inl ⟨j, hj, hjl, hu, he⟩
        · obtain rfl : j = i := by omega
          exact .inr he.symm
    · rw [if_neg hc]
      refine ⟨h1, fun x => ?_⟩
      rw [h2]
      constructor
      · rintro ⟨j, hj, hji, hu, he⟩
        exact ⟨j, hj, by omega, hu, he⟩
      · rintro ⟨j, hj, hji, hu, he⟩
        by_cases hjl : j < i
        · exact ⟨j, hj, hjl, hu, he⟩
        · obtain rfl : j = i := by omega
          have hin : strs[j] ∈ canL g L strs j := by
            refine Decidable.byContradiction fun hn => hc ⟨hu, (numF_neg _ _ _).2 hn⟩
          rw [he] at hin
          exact (h2 x).1 hin
theorem rising_nodup {l : List (List UInt8)} (h : Rising l) : l.Nodup := h.imp fun h e => by subst e; exact List.lt_irrefl _ h
theorem rising_eq : ∀ {a b : List (List UInt8)}, Rising a → Rising b → (∀ x, x ∈ a ↔ x ∈ b) → a = b
  | [], [], _, _, _ => rfl
  | [], y :: b, _, _, h => absurd ((h y).2 (by simp)) (by simp)
  | x :: a, [], _, _, h => absurd ((h x).1 (by simp)) (by simp)
  | x :: a, y :: b, ha, hb, h => by
    have ha' := List.pairwise_cons.1 ha
    have hb' := List.pairwise_cons.1 hb
    have hxy : x = y := by
      rcases List.mem_cons.1 ((h x).1 (by simp)) with e | e
      · exact e
      · rcases List.mem_cons.1 ((h y).2 (by simp)) with e2 | e2
        · exact e2.symm
        · exact absurd (List.lt_trans (ha'.1 y e2) (hb'.1 x e)) (List.lt_irrefl _)
    subst hxy
    congr 1
    refine rising_eq ha'.2 hb'.2 fun z => ?_
    constructor
    · intro hz
      rcases List.mem_cons.1 ((h z).1 (List.mem_cons_of_mem _ hz)) with e | e
      · subst e; exact absurd (ha'.1 z hz) (List.lt_irrefl _)
      · exact e
    · intro hz
      rcases List.mem_cons.1 ((h z).2 (List.mem_cons_of_mem _ hz)) with e | e
      · subst e; exact absurd (hb'.1 z hz) (List.lt_irrefl _)
      · exact e
/-- Sorted. -/
def srtF (l : List (List UInt8)) : List (List UInt8) := l.mergeSort fun x y => decide (x ≤ y)
theorem srt_mem (l : List (List UInt8)) (x : List UInt8) : x ∈ srtF l ↔ x ∈ l := (List.mergeSort_perm l _).mem_iff
theorem srt_len (l : List (List UInt8)) : (srtF l).length = l.length := List.length_mergeSort l
theorem srt_rising (l : List (List UInt8)) (h : l.Nodup) : Rising (srtF l) := by
  have h1 : (srtF l).Pairwise (fun x y => (decide (x ≤ y)) = true) := List.pairwise_mergeSort (fun a b c hab hbc => by
    simp only [decide_eq_true_eq] at *
    exact List.le_trans hab hbc) (fun a b => by
    rcases Std.lt_trichotomy a b with h | h | h
    · simp [List.le_of_lt h]
    · subst h; simp
    · simp [List.le_of_lt h]) l
  have h2 : (srtF l).Nodup := (List.mergeSort_perm l _).nodup_iff.2 h
  refine (h1.and h2).imp fun {a b} hab => ?_
  have hle : a ≤ b := by simpa using hab.1
  rcases Std.lt_trichotomy a b with h | h | h
  · exact h
  · exact absurd h hab.2
  · exact absurd h (List.not_lt.2 hle)
end Go.Proofs.Ytpdebnecfknohaa
