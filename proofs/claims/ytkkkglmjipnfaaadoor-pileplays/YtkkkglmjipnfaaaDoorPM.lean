/-
  Plain mathematics of sets as rising lists of blocks: a block is a number and the bits of sixty-four numbers. No program here.
-/
import Derived.Laws.BitsAllLaws
namespace Go.Proofs.YtkkkglmjipnfaaaDoor

abbrev Bks := List (Int × Nat)
def two64 : Nat := 18446744073709551616
def top : Int := 144115188075855872

/-- The bits of a block; 0, if it isn't there. -/
def look : Bks → Int → Nat
  | [], _ => 0
  | (a, b) :: L, k => if a = k then b else look L k
/-- Rising, none below 0, none empty. -/
def Good (L : Bks) : Prop := L.Pairwise (fun p q => p.1 < q.1) ∧ ∀ p ∈ L, 0 ≤ p.1 ∧ p.1 < top ∧ 0 < p.2 ∧ p.2 < two64
/-- Is a number in it? -/
def has (L : Bks) (n : Int) : Bool := (look L (n / 64)).testBit (n % 64).toNat

theorem good_nil : Good [] := ⟨List.Pairwise.nil, by simp⟩
theorem Good.tail {p : Int × Nat} {L : Bks} (h : Good (p :: L)) : Good L := ⟨(List.pairwise_cons.1 h.1).2, fun q hq => h.2 q (List.mem_cons_of_mem _ hq)⟩
theorem look_mem {L : Bks} {k : Int} (h : look L k ≠ 0) : (k, look L k) ∈ L := by
  induction L with
  | nil => simp [look] at h
  | cons p L ih =>
    obtain ⟨a, b⟩ := p
    unfold look at h ⊢
    by_cases e : a = k
    · rw [if_pos e] at h ⊢; subst e; simp
    · rw [if_neg e] at h ⊢; exact List.mem_cons_of_mem _ (ih h)
theorem look_none {L : Bks} {k : Int} (h : ∀ p ∈ L, p.1 ≠ k) : look L k = 0 := by
  induction L with
  | nil => rfl
  | cons p L ih =>
    obtain ⟨a, b⟩ := p
    unfold look
    rw [if_neg (h (a, b) (by simp)), ih (fun q hq => h q (List.mem_cons_of_mem _ hq))]
theorem look_of_mem {L : Bks} (hg : Good L) {p : Int × Nat} (h : p ∈ L) : look L p.1 = p.2 := by
  induction L with
  | nil => simp at h
  | cons q L ih =>
    obtain ⟨a, b⟩ := q
    unfold look
    rcases List.mem_cons.1 h with rfl | h1
    · simp
    · have := (List.pairwise_cons.1 hg.1).1 p h1
      rw [if_neg (by simp only at this; omega)]
      exact ih hg.tail h1
theorem look_lt {L : Bks} (hg : Good L) (k : Int) : look L k < two64 := by
  by_cases h : look L k = 0
  · rw [h]; decide
  · exact (hg.2 _ (look_mem h)).2.2.2
theorem look_neg {L : Bks} (hg : Good L) {k : Int} (h : k < 0) : look L k = 0 := look_none fun p hp => by have := (hg.2 p hp).1; omega
theorem look_append (L M : Bks) (k : Int) (h : ∀ p ∈ L, p.1 ≠ k) : look (L ++ M) k = look M k := by
  induction L with
  | nil => rfl
  | cons p L ih =>
    obtain ⟨a, b⟩ := p
    show (if a = k then b else look (L ++ M) k) = look M k
    rw [if_neg (h (a, b) (by simp)), ih (fun q hq => h q (List.mem_cons_of_mem _ hq))]
theorem look_append_left (L M : Bks) (k : Int) (h : ∀ p ∈ M, p.1 ≠ k) : look (L ++ M) k = look L k := by
  induction L with
  | nil => rw [List.nil_append, look_none h]; rfl
  | cons p L ih =>
    obtain ⟨a, b⟩ := p
    rw [List.cons_append]
    unfold look
    rw [ih]

/-- Sets of the same bits are one list. -/
theorem good_ext {L M : Bks} (hL : Good L) (hM : Good M) (h : ∀ k, look L k = look M k) : L = M := by
  induction L generalizing M with
  | nil =>
    cases M with
    | nil => rfl
    | cons p M =>
      have h1 := h p.1
      rw [look_of_mem hM (p := p) (by simp)] at h1
      have := (hM.2 p (by simp)).2.2.1
      simp [look] at h1
      omega
  | cons p L ih =>
    cases M with
    | nil =>
      have h1 := h p.1
      rw [look_of_mem hL (p := p) (by simp)] at h1
      have := (hL.2 p (by simp)).2.2.1
      simp [look] at h1
      omega
    | cons q M =>
      have h1 := h p.1
      have h2 := h q.1
      rw [look_of_mem hL (p := p) (by simp)] at h1
      rw [look_of_mem hM (p := q) (by simp)] at h2
      have gp := (hL.2 p (by simp)).2.2.1
      have gq := (hM.2 q (by simp)).2.2.1
      have e : p.1 = q.1 := by
        rcases Int.lt_trichotomy p.1 q.1 with h3 | h3 | h3
        · have : look (q :: M) p.1 = 0 := look_none fun x hx => by
            rcases List.mem_cons.1 hx with rfl | hx
            · omega
            · have := (List.pairwise_cons.1 hM.1).1 x hx; omega
          omega
        · exact h3
        · have : look (p :: L) q.1 = 0 := look_none fun x hx => by
            rcases List.mem_cons.1 hx with rfl | hx
            · omega
            · have := (List.pairwise_cons.1 hL.1).1 x hx; omega
          omega
      have e2 : p.2 = q.2 := by
        rw [h1, e]
        exact look_of_mem hM (p := q) (by simp)
      have e3 : p = q := Prod.ext e e2
      subst e3
      congr 1
      refine ih hL.tail hM.tail fun k => ?_
      have h4 := h k
      obtain ⟨a, b⟩ := p
      unfold look at h4
      by_cases ek : a = k
      · subst ek
        rw [look_none fun x hx => by have := (List.pairwise_cons.1 hL.1).1 x hx; simp only at this; omega, look_none fun x hx => by have := (List.pairwise_cons.1 hM.1).1 x hx; simp only at this; omega]
      · rw [if_neg ek, if_neg ek] at h4
        exact h4

theorem bits_ext {a b : Nat} (ha : a < two64) (hb : b < two64) (h : ∀ i, i < 64 → a.testBit i = b.testBit i) : a = b := by
  apply Nat.eq_of_testBit_eq
  intro i
  by_cases hi : i < 64
  · exact h i hi
  · have hp : two64 ≤ 2 ^ i := Nat.le_trans (show two64 ≤ 2 ^ 64 by decide) (Nat.pow_le_pow_right (by decide) (by omega))
    rw [Nat.testBit_lt_two_pow (Nat.lt_of_lt_of_le ha hp), Nat.testBit_lt_two_pow (Nat.lt_of_lt_of_le hb hp)]
theorem has_ext {L M : Bks} (hL : Good L) (hM : Good M) (h : ∀ n, has L n = has M n) : L = M := by
  refine good_ext hL hM fun k => bits_ext (look_lt hL k) (look_lt hM k) fun i hi => ?_
  have := h (k * 64 + i)
  unfold has at this
  rwa [show (k * 64 + (i : Int)) / 64 = k from by omega, show ((k * 64 + (i : Int)) % 64).toNat = i from by omega] at this
theorem has_neg {L : Bks} (hg : Good L) {n : Int} (h : n < 0) : has L n = false := by
  unfold has
  rw [look_neg hg (by omega)]
  simp
theorem has_top {L : Bks} (hg : Good L) {n : Int} (h : 9223372036854775808 ≤ n) : has L n = false := by
  unfold has
  rw [look_none fun p hp => by have := (hg.2 p hp).2.1; unfold top at this; omega]
  simp

/-- Where a block stands, or would stand. -/
def At (L : Bks) (a : Int) (r : Nat) : Prop := r ≤ L.length ∧ (∀ p ∈ L.take r, p.1 < a) ∧ (∀ p ∈ L.drop r, a ≤ p.1)
theorem look_zero {L : Bks} (hg : Good L) {a : Int} : look L a = 0 ↔ ∀ p ∈ L, p.1 ≠ a := by
  constructor
  · intro h0 p hp e
    have := look_of_mem hg hp
    rw [e, h0] at this
    have := (hg.2 p hp).2.2.1
    omega
  · exact look_none
theorem At.there {L : Bks} (hg : Good L) {a : Int} {r : Nat} (h : At L a r) (hl : look L a ≠ 0) : ∃ hr : r < L.length, L[r] = (a, look L a) := by
  have hm : (a, look L a) ∈ L.take r ++ L.drop r := by rw [List.take_append_drop]; exact look_mem hl
  rcases List.mem_append.1 hm with h1 | h1
  · have := h.2.1 _ h1; simp at this
  · have hr : r < L.length := by
      rcases Nat.lt_or_ge r L.length with h2 | h2
      · exact h2
      · rw [List.drop_of_length_le h2] at h1; simp at h1
    refine ⟨hr, ?_⟩
    rw [List.drop_eq_getElem_cons hr] at h1
    rcases List.mem_cons.1 h1 with h2 | h2
    · exact h2.symm
    · have h3 := h.2.2 L[r] (by rw [List.drop_eq_getElem_cons hr]; exact List.mem_cons_self)
      have hp : (L.drop r).Pairwise (fun p q => p.1 < q.1) := hg.1.sublist (List.drop_sublist r L)
      rw [List.drop_eq_getElem_cons hr] at hp
      have h4 := (List.pairwise_cons.1 hp).1 _ h2
      simp only at h4
      omega

theorem good_insert {L : Bks} (hg : Good L) {a : Int} {b r : Nat} (h : At L a r) (h0 : look L a = 0) (ha : 0 ≤ a) (ha2 : a < top) (hb : 0 < b) (hb2 : b < two64) : Good (L.take r ++ (a, b) :: L.drop r) := by
  have hne := (look_zero hg).1 h0
  refine ⟨?_, fun p hp => ?_⟩
  · rw [List.pairwise_append]
    refine ⟨hg.1.sublist (List.take_sublist r L), ?_, ?_⟩
    · rw [List.pairwise_cons]
      refine ⟨fun q hq => ?_, hg.1.sublist (List.drop_sublist r L)⟩
      have h1 := h.2.2 q hq
      have h2 := hne q (List.mem_of_mem_drop hq)
      simp only
      omega
    · intro p hp q hq
      have h1 := h.2.1 p hp
      rcases List.mem_cons.1 hq with rfl | hq
      · exact h1
      · have h2 := h.2.2 q hq
        omega
  · rcases List.mem_append.1 hp with h1 | h1
    · exact hg.2 p (List.mem_of_mem_take h1)
    · rcases List.mem_cons.1 h1 with rfl | h1
      · exact ⟨ha, ha2, hb, hb2⟩
      · exact hg.2 p (List.mem_of_mem_drop h1)
theorem look_insert {L : Bks} (hg : Good L) {a : Int} {b r : Nat} (h : At L a r) (h0 : look L a = 0) (k : Int) : look (L.take r ++ (a, b) :: L.drop r) k = if k = a then b else look L k := by
  have hne := (look_zero hg).1 h0
  by_cases e : k = a
  · subst e
    rw [if_pos rfl, look_append _ _ _ (fun p hp => hne p (List.mem_of_mem_take hp))]
    simp [look]
  · rw [if_neg e]
    conv => rhs; rw [← List.take_append_drop r L]
    generalize L.take r = X
    generalize L.drop r = Y
    induction X with
    | nil => simp only [List.nil_append]; unfold look; rw [if_neg (fun h => e h.symm)]; cases Y <;> rfl
    | cons p X ih => obtain ⟨c, d⟩ := p; simp only [List.cons_append]; unfold look; rw [ih]
theorem good_set {L : Bks} (hg : Good L) {a : Int} {b r : Nat} (hr : r < L.length) (ha : (L[r]).1 = a) (hb : 0 < b) (hb2 : b < two64) : Good (L.set r (a, b)) := by
  refine ⟨?_, fun p hp => ?_⟩
  · have : (L.set r (a, b)).map (·.1) = L.map (·.1) := by
      apply List.ext_getElem
      · simp
      · intro i h1 h2
        simp only [List.getElem_map, List.getElem_set]
        split
        · rename_i e; subst e; exact ha.symm
        · rfl
    have hp : (L.map (·.1)).Pairwise (· < ·) := List.pairwise_map.2 hg.1
    rw [← this] at hp
    exact List.pairwise_map.1 hp
  · rcases List.mem_or_eq_of_mem_set hp with h1 | h1
    · exact hg.2 p h1
    · subst h1
      have := hg.2 L[r] (List.getElem_mem hr)
      rw [ha] at this
      exact ⟨this.1, this.2.1, hb, hb2⟩
theorem look_set {L : Bks} (hg : Good L) {a : Int} {b r : Nat} (hr : r < L.length) (ha : (L[r]).1 = a) (k : Int) : look (L.set r (a, b)) k = if k = a then b else look L k := by
  have hne : ∀ p ∈ L.take r, p.1 ≠ a := by
    intro p hp
    have h1 : (L.take r ++ L.drop r).Pairwise (fun p q => p.1 < q.1) := by rw [List.take_append_drop]; exact hg.1
    have := (List.pairwise_append.1 h1).2.2 p hp L[r] (by rw [List.drop_eq_getElem_cons hr]; exact List.mem_cons_self)
    omega
  have e1 : L.set r (a, b) = L.take r ++ (a, b) :: L.drop (r + 1) := by rw [List.set_eq_take_append_cons_drop, if_pos hr]
  have e2 : L = L.take r ++ (a, (L[r]).2) :: L.drop (r + 1) := by
    conv => lhs; rw [← List.take_append_drop r L, List.drop_eq_getElem_cons hr]
    rw [← ha]
  rw [e1]
  by_cases e : k = a
  · subst e
    rw [if_pos rfl, look_append _ _ _ hne]
    simp [look]
  · rw [if_neg e]
    conv => rhs; rw [e2]
    generalize L.take r = X
    generalize L.drop (r + 1) = Y
    induction X with
    | nil => simp only [List.nil_append]; unfold look; rw [if_neg (fun h => e h.symm), if_neg (fun h => e h.symm)]
    | cons p X ih => obtain ⟨c, d⟩ := p; simp only [List.cons_append]; unfold look; rw [ih]

/-- A number more. -/
theorem has_add {L L' : Bks} {n : Int} (h : ∀ k, look L' k = if k = n / 64 then look L (n / 64) ||| 2 ^ (n % 64).toNat else look L k) (m : Int) : has L' m = (has L m || decide (m = n)) := by
  unfold has
  rw [h]
  by_cases e : m / 64 = n / 64
  · rw [if_pos e, Nat.testBit_or, Nat.testBit_two_pow, e]
    congr 1
    rw [decide_eq_decide]
    omega
  · rw [if_neg e, decide_eq_false (by rintro rfl; exact e rfl), Bool.or_false]
end Go.Proofs.YtkkkglmjipnfaaaDoor
