/-
  Plain mathematics of what one set has and another hasn't, of what both have, and how many these are. No program here.
-/
import Derived.Test.YtkkkglmjipnfaaaDoorPop
namespace Go.Proofs.YtkkkglmjipnfaaaDoor
set_option linter.unusedVariables false

/-- Bits that the one has and the other hasn't. -/
def lessN (x y : Nat) : Nat := x ^^^ (x &&& y)
theorem lessN_bit (x y i : Nat) : (lessN x y).testBit i = (x.testBit i && !y.testBit i) := by
  unfold lessN
  rw [Nat.testBit_xor, Nat.testBit_and]
  cases x.testBit i <;> cases y.testBit i <;> rfl
theorem lessN_lt {x y : Nat} (hx : x < two64) : lessN x y < two64 := Nat.xor_lt_two_pow (n := 64) hx (Nat.lt_of_le_of_lt Nat.and_le_left hx)
theorem lessN_zero (x : Nat) : lessN x 0 = x := by unfold lessN; simp
theorem lessN_eq_zero {x y : Nat} (h : lessN x y = 0) (i : Nat) (hx : x.testBit i = true) : y.testBit i = true := by
  have := lessN_bit x y i
  rw [h, hx] at this
  simp at this
  exact this
/-- What one has and another hasn't. -/
def lessF (T : Bks) : Bks → Bks
  | [] => []
  | (a, b) :: L => if lessN b (look T a) = 0 then lessF T L else (a, lessN b (look T a)) :: lessF T L
theorem lessF_append (T L M : Bks) : lessF T (L ++ M) = lessF T L ++ lessF T M := by
  induction L with
  | nil => rfl
  | cons p L ih => obtain ⟨a, b⟩ := p; simp only [List.cons_append, lessF]; split <;> simp [ih]
theorem lessF_mem {T L : Bks} {q : Int × Nat} (h : q ∈ lessF T L) : ∃ b, (q.1, b) ∈ L ∧ q.2 = lessN b (look T q.1) ∧ q.2 ≠ 0 := by
  induction L with
  | nil => simp [lessF] at h
  | cons p L ih =>
    obtain ⟨a, b⟩ := p
    unfold lessF at h
    split at h
    · obtain ⟨c, h1, h2⟩ := ih h; exact ⟨c, List.mem_cons_of_mem _ h1, h2⟩
    · rename_i hne
      rcases List.mem_cons.1 h with rfl | h
      · exact ⟨b, by simp, rfl, hne⟩
      · obtain ⟨c, h1, h2⟩ := ih h; exact ⟨c, List.mem_cons_of_mem _ h1, h2⟩
theorem lessF_len (T L : Bks) : (lessF T L).length ≤ L.length := by
  induction L with
  | nil => simp [lessF]
  | cons p L ih => obtain ⟨a, b⟩ := p; unfold lessF; split <;> simp <;> omega
theorem lessF_good {T L : Bks} (hL : Good L) : Good (lessF T L) := by
  refine ⟨?_, fun q hq => ?_⟩
  · induction L with
    | nil => exact List.Pairwise.nil
    | cons p L ih =>
      obtain ⟨a, b⟩ := p
      unfold lessF
      split
      · exact ih hL.tail
      · rw [List.pairwise_cons]
        refine ⟨fun q hq => ?_, ih hL.tail⟩
        obtain ⟨c, h1, _⟩ := lessF_mem hq
        exact (List.pairwise_cons.1 hL.1).1 (q.1, c) h1
  · obtain ⟨b, h1, h2, h3⟩ := lessF_mem hq
    have := hL.2 _ h1
    exact ⟨this.1, this.2.1, Nat.pos_of_ne_zero h3, by rw [h2]; exact lessN_lt this.2.2.2⟩
theorem look_lessF {T L : Bks} (hL : Good L) (k : Int) : look (lessF T L) k = lessN (look L k) (look T k) := by
  induction L with
  | nil => simp [lessF, look, lessN]
  | cons p L ih =>
    obtain ⟨a, b⟩ := p
    unfold lessF
    by_cases e : a = k
    · subst e
      have hn : look (lessF T L) a = 0 := look_none fun q hq => by
        obtain ⟨c, h1, _⟩ := lessF_mem hq
        have := (List.pairwise_cons.1 hL.1).1 _ h1
        simp only at this
        omega
      split
      · rename_i h
        rw [hn]; simp only [look, if_true]; exact h.symm
      · simp [look]
    · split
      · rw [ih hL.tail]; simp only [look, if_neg e]
      · simp only [look, if_neg e]; exact ih hL.tail
theorem has_lessF {T L : Bks} (hL : Good L) (n : Int) : has (lessF T L) n = (has L n && !has T n) := by
  unfold has; rw [look_lessF hL, lessN_bit]

/-- Falling lists, joined. -/
def joinR : Bks → Bks → Bks
  | [], T => T
  | p :: L, [] => p :: L
  | p :: L, q :: T => if q.1 < p.1 then p :: joinR L (q :: T) else if p.1 = q.1 then (p.1, p.2 ||| q.2) :: joinR L T else q :: joinR (p :: L) T
termination_by L T => L.length + T.length
theorem joinR_nil (L : Bks) : joinR L [] = L := by cases L <;> simp [joinR]
theorem joinR_len : ∀ (L T : Bks), L.length ≤ (joinR L T).length ∧ (joinR L T).length ≤ L.length + T.length
  | [], T => by simp [joinR]
  | p :: L, [] => by simp [joinR]
  | p :: L, q :: T => by
    unfold joinR
    split
    · have := joinR_len L (q :: T); simp at *; omega
    · split
      · have := joinR_len L T; simp at *; omega
      · have := joinR_len (p :: L) T; simp at *; omega
termination_by L T => L.length + T.length
def Fall (L : Bks) : Prop := L.Pairwise (fun p q => q.1 < p.1) ∧ ∀ p ∈ L, 0 ≤ p.1 ∧ p.1 < top ∧ 0 < p.2 ∧ p.2 < two64
theorem Fall.tail {p : Int × Nat} {L : Bks} (h : Fall (p :: L)) : Fall L := ⟨(List.pairwise_cons.1 h.1).2, fun q hq => h.2 q (List.mem_cons_of_mem _ hq)⟩
theorem fall_rev {L : Bks} : Fall L.reverse ↔ Good L := by
  unfold Fall Good
  rw [List.pairwise_reverse]
  simp
theorem joinR_mem : ∀ (L T : Bks) (x : Int × Nat), x ∈ joinR L T → (∃ p ∈ L, p.1 = x.1) ∨ (∃ q ∈ T, q.1 = x.1)
  | [], T, x, h => by rw [joinR] at h; exact .inr ⟨x, h, rfl⟩
  | p :: L, [], x, h => by rw [joinR] at h; exact .inl ⟨x, h, rfl⟩
  | p :: L, q :: T, x, h => by
    unfold joinR at h
    split at h
    · rcases List.mem_cons.1 h with rfl | h
      · exact .inl ⟨x, by simp, rfl⟩
      · rcases joinR_mem L (q :: T) x h with ⟨y, h1, h2⟩ | h1
        · exact .inl ⟨y, List.mem_cons_of_mem _ h1, h2⟩
        · exact .inr h1
    · split at h
      · rcases List.mem_cons.1 h with rfl | h
        · exact .inl ⟨p, by simp, rfl⟩
        · rcases joinR_mem L T x h with ⟨y, h1, h2⟩ | ⟨y, h1, h2⟩
          · exact .inl ⟨y, List.mem_cons_of_mem _ h1, h2⟩
          · exact .inr ⟨y, List.mem_cons_of_mem _ h1, h2⟩
      · rcases List.mem_cons.1 h with rfl | h
        · exact .inr ⟨x, by simp, rfl⟩
        · rcases joinR_mem (p :: L) T x h with h1 | ⟨y, h1, h2⟩
          · exact .inl h1
          · exact .inr ⟨y, List.mem_cons_of_mem _ h1, h2⟩
termination_by L T => L.length + T.length
theorem joinR_fall : ∀ (L T : Bks), Fall L → Fall T → Fall (joinR L T)
  | [], T, hL, hT => by rw [joinR]; exact hT
  | p :: L, [], hL, hT => by rw [joinR]; exact hL
  | p :: L, q :: T, hL, hT => by
    have gp := hL.2 p (by simp)
    have gq := hT.2 q (by simp)
    unfold joinR
    split
    · rename_i hlt
      have ih := joinR_fall L (q :: T) hL.tail hT
      refine ⟨List.pairwise_cons.2 ⟨fun x hx => ?_, ih.1⟩, fun x hx => ?_⟩
      · rcases joinR_mem _ _ _ hx with ⟨y, h1, h2⟩ | ⟨y, h1, h2⟩
        · have := (List.pairwise_cons.1 hL.1).1 y h1; omega
        · rcases List.mem_cons.1 h1 with rfl | h1
          · omega
          · have := (List.pairwise_cons.1 hT.1).1 y h1; omega
      · rcases List.mem_cons.1 hx with rfl | hx
        · exact gp
        · exact ih.2 x hx
    · split
      · rename_i hlt heq
        have ih := joinR_fall L T hL.tail hT.tail
        refine ⟨List.pairwise_cons.2 ⟨fun x hx => ?_, ih.1⟩, fun x hx => ?_⟩
        · show x.1 < p.1
          rcases joinR_mem _ _ _ hx with ⟨y, h1, h2⟩ | ⟨y, h1, h2⟩
          · have := (List.pairwise_cons.1 hL.1).1 y h1; omega
          · have := (List.pairwise_cons.1 hT.1).1 y h1; omega
        · rcases List.mem_cons.1 hx with rfl | hx
          · refine ⟨gp.1, gp.2.1, ?_, Nat.or_lt_two_pow (n := 64) gp.2.2.2 gq.2.2.2⟩
            apply Nat.pos_of_ne_zero
            intro e
            have := (Nat.or_eq_zero_iff.1 e).1
            omega
          · exact ih.2 x hx
      · rename_i hlt hne
        have ih := joinR_fall (p :: L) T hL hT.tail
        refine ⟨List.pairwise_cons.2 ⟨fun x hx => ?_, ih.1⟩, fun x hx => ?_⟩
        · rcases joinR_mem _ _ _ hx with ⟨y, h1, h2⟩ | ⟨y, h1, h2⟩
          · rcases List.mem_cons.1 h1 with rfl | h1
            · omega
            · have := (List.pairwise_cons.1 hL.1).1 y h1; omega
          · have := (List.pairwise_cons.1 hT.1).1 y h1; omega
        · rcases List.mem_cons.1 hx with rfl | hx
          · exact gq
          · exact ih.2 x hx
termination_by L T => L.length + T.length
theorem look_joinR : ∀ (L T : Bks) (k : Int), Fall L → Fall T → look (joinR L T) k = look L k ||| look T k
  | [], T, k, hL, hT => by rw [joinR]; simp [look]
  | p :: L, [], k, hL, hT => by rw [joinR]; simp [look]
  | (a, b) :: L, (c, d) :: T, k, hL, hT => by
    have h1 : ∀ M : Bks, (∀ x ∈ M, x.1 ≠ k) → look M k = 0 := fun M h => look_none h
    have hL0 : k = a → look L k = 0 := fun e => look_none fun x hx => by have := (List.pairwise_cons.1 hL.1).1 x hx; simp only at this; omega
    have hT0 : k = c → look T k = 0 := fun e => look_none fun x hx => by have := (List.pairwise_cons.1 hT.1).1 x hx; simp only at this; omega
    have hTa : c < a → k = a → look T k = 0 := fun hc e => look_none fun x hx => by have := (List.pairwise_cons.1 hT.1).1 x hx; simp only at this; omega
    have hLc : a < c → k = c → look L k = 0 := fun hc e => look_none fun x hx => by have := (List.pairwise_cons.1 hL.1).1 x hx; simp only at this; omega
    unfold joinR
    split
    · rename_i hlt
      simp only at hlt
      have ih := look_joinR L ((c, d) :: T) k hL.tail hT
      by_cases e : a = k
      · have e2 : ¬ (c = k) := by omega
        simp only [look, if_pos e, if_neg e2, hTa hlt e.symm]; simp
      · simp only [look, if_neg e]; simp only [look] at ih; exact ih
    · split
      · rename_i hlt heq
        simp only at hlt heq
        subst heq
        have ih := look_joinR L T k hL.tail hT.tail
        by_cases e : a = k
        · simp only [look, if_pos e]
        · simp only [look, if_neg e]; exact ih
      · rename_i hlt hne
        simp only at hlt hne
        have ih := look_joinR ((a, b) :: L) T k hL hT.tail
        by_cases e : c = k
        · have e2 : ¬ (a = k) := by omega
          simp only [look, if_pos e, if_neg e2, hLc (by omega) e.symm]; simp
        · simp only [look, if_neg e]; simp only [look] at ih; exact ih
termination_by L T => L.length + T.length
theorem look_rev {L : Bks} (hL : Good L) (k : Int) : look L.reverse k = look L k := by
  by_cases h : look L k = 0
  · rw [h]; exact look_none fun p hp => (look_zero hL).1 h p (List.mem_reverse.1 hp)
  · have hm := look_mem h
    have hr : Fall L.reverse := fall_rev.2 hL
    have : ∀ (M : Bks) (b : Nat), Fall M → (k, b) ∈ M → look M k = b := by
      intro M b
      induction M with
      | nil => intro _ h; simp at h
      | cons q M ih =>
        intro hf hq
        obtain ⟨c, d⟩ := q
        unfold look
        rcases List.mem_cons.1 hq with h1 | h1
        · injection h1 with h1 h2; rw [if_pos h1.symm, h2]
        · have := (List.pairwise_cons.1 hf.1).1 _ h1
          simp only at this
          rw [if_neg (by omega)]
          exact ih hf.tail h1
    exact this _ _ hr (List.mem_reverse.2 hm)
/-- Joined, rising. -/
def joinF (L T : Bks) : Bks := (joinR L.reverse T.reverse).reverse
theorem joinF_good {L T : Bks} (hL : Good L) (hT : Good T) : Good (joinF L T) := by
  rw [← fall_rev]; unfold joinF; rw [List.reverse_reverse]; exact joinR_fall _ _ (fall_rev.2 hL) (fall_rev.2 hT)
theorem look_joinF {L T : Bks} (hL : Good L) (hT : Good T) (k : Int) : look (joinF L T) k = look L k ||| look T k := by
  have h := look_rev (joinF_good hL hT) k
  rw [← h]
  unfold joinF
  rw [List.reverse_reverse, look_joinR _ _ _ (fall_rev.2 hL) (fall_rev.2 hT), look_rev hL, look_rev hT]
theorem has_joinF {L T : Bks} (hL : Good L) (hT : Good T) (n : Int) : has (joinF L T) n = (has L n || has T n) := by
  unfold has; rw [look_joinF hL hT, Nat.testBit_or]
theorem joinF_len (L T : Bks) : L.length ≤ (joinF L T).length ∧ (joinF L T).length ≤ L.length + T.length := by
  have := joinR_len L.reverse T.reverse
  unfold joinF; simp at *; exact this
/-- Is something of T missing in L? How many blocks? -/
def lackF (L T : Bks) : Bool := T.any fun q => decide (lessN q.2 (look L q.1) ≠ 0)
def newF (L T : Bks) : Nat := T.countP fun q => decide (look L q.1 = 0)
theorem joinR_count : ∀ (L T : Bks), Fall L → Fall T → (joinR L T).length = L.length + T.countP (fun q => decide (look L q.1 = 0))
  | [], T, hL, hT => by
    rw [joinR, List.length_nil, Nat.zero_add, List.countP_eq_length.2]
    intro q _; simp [look]
  | p :: L, [], hL, hT => by rw [joinR]; simp
  | (a, b) :: L, (c, d) :: T, hL, hT => by
    have gb := (hL.2 (a, b) (by simp)).2.2.1
    simp only at gb
    have hco : ∀ M : Bks, (∀ x ∈ M, x.1 ≠ a) → M.countP (fun q => decide (look ((a, b) :: L) q.1 = 0)) = M.countP (fun q => decide (look L q.1 = 0)) := fun M hM => by
      apply List.countP_congr
      intro x hx
      have := hM x hx
      simp only [look, if_neg (fun e : a = x.1 => this e.symm)]
    unfold joinR
    split
    · rename_i hlt
      simp only at hlt
      have ih := joinR_count L ((c, d) :: T) hL.tail hT
      rw [List.length_cons, ih, hco]
      · simp; omega
      · intro x hx
        rcases List.mem_cons.1 hx with rfl | hx
        · simp only; omega
        · have := (List.pairwise_cons.1 hT.1).1 x hx; simp only at this; omega
    · split
      · rename_i hlt heq
        simp only at hlt heq
        subst heq
        have ih := joinR_count L T hL.tail hT.tail
        rw [List.length_cons, ih, List.countP_cons_of_neg (by simp [look]; omega), hco]
        · simp; omega
        · intro x hx; have := (List.pairwise_cons.1 hT.1).1 x hx; simp only at this; omega
      · rename_i hlt hne
        simp only at hlt hne
        have ih := joinR_count ((a, b) :: L) T hL hT.tail
        have hz : look L c = 0 := look_none fun x hx => by have := (List.pairwise_cons.1 hL.1).1 x hx; simp only at this; omega
        rw [List.length_cons, ih, List.countP_cons_of_pos (by simp [look, hne, hz])]
        simp; omega
termination_by L T => L.length + T.length
theorem joinF_count {L T : Bks} (hL : Good L) (hT : Good T) : (joinF L T).length = L.length + newF L T := by
  unfold joinF newF
  rw [List.length_reverse, joinR_count _ _ (fall_rev.2 hL) (fall_rev.2 hT), List.length_reverse, List.countP_reverse]
  congr 1
  apply List.countP_congr
  intro x _
  rw [look_rev hL]
theorem lackF_iff {L T : Bks} (hT : Good T) : lackF L T = true ↔ ∃ n, has T n = true ∧ has L n = false := by
  unfold lackF
  rw [List.any_eq_true]
  constructor
  · rintro ⟨q, hq, h⟩
    simp only [decide_eq_true_eq] at h
    have : ∃ i, (lessN q.2 (look L q.1)).testBit i = true := Nat.exists_testBit_of_ne_zero h
    obtain ⟨i, hi⟩ := this
    have hi64 : i < 64 := by
      rcases Nat.lt_or_ge i 64 with h | h
      · exact h
      · have hp : two64 ≤ 2 ^ i := Nat.le_trans (show two64 ≤ 2 ^ 64 by decide) (Nat.pow_le_pow_right (by decide) h)
        rw [Nat.testBit_lt_two_pow (Nat.lt_of_lt_of_le (lessN_lt (hT.2 q hq).2.2.2) hp)] at hi
        cases hi
    rw [lessN_bit] at hi
    refine ⟨q.1 * 64 + i, ?_, ?_⟩
    · unfold has
      rw [show (q.1 * 64 + (i : Int)) / 64 = q.1 from by omega, show ((q.1 * 64 + (i : Int)) % 64).toNat = i from by omega, look_of_mem hT hq]
      simp at hi; exact hi.1
    · unfold has
      rw [show (q.1 * 64 + (i : Int)) / 64 = q.1 from by omega, show ((q.1 * 64 + (i : Int)) % 64).toNat = i from by omega]
      simp at hi; exact hi.2
  · rintro ⟨n, h1, h2⟩
    unfold has at h1 h2
    have hne : look T (n / 64) ≠ 0 := by intro e; rw [e] at h1; simp at h1
    refine ⟨_, look_mem hne, ?_⟩
    simp only [decide_eq_true_eq]
    intro e
    have := lessN_eq_zero e _ h1
    rw [h2] at this
    cases this
theorem lackF_not {L T : Bks} (hL : Good L) (hT : Good T) (h : lackF L T = false) : joinF L T = L := by
  refine has_ext (joinF_good hL hT) hL fun n => ?_
  rw [has_joinF hL hT]
  cases h1 : has L n
  · cases h2 : has T n
    · rfl
    · have := (lackF_iff (L := L) hT).2 ⟨n, h2, h1⟩
      rw [h] at this; cases this
  · rfl
/-- A rising list that is two others, made apart. -/
theorem rise_split {X Y Z : List Int} (hX : X.Pairwise (· < ·)) (hY : Y.Pairwise (· < ·)) (hZ : Z.Pairwise (· < ·)) (h : ∀ m, m ∈ X ↔ m ∈ Y ∨ m ∈ Z) (hd : ∀ m, m ∈ Y → m ∉ Z) : X.length = Y.length + Z.length := by
  have e1 : X.filter (fun m => decide (m ∈ Y)) = Y := rise_ext (hX.sublist List.filter_sublist) hY fun m => by
    rw [List.mem_filter, h m]; simp only [decide_eq_true_eq]
    exact ⟨fun h => h.2, fun h => ⟨.inl h, h⟩⟩
  have e2 : X.filter (fun m => !decide (m ∈ Y)) = Z := rise_ext (hX.sublist List.filter_sublist) hZ fun m => by
    rw [List.mem_filter, h m]; simp only [Bool.not_eq_true', decide_eq_false_iff_not]
    constructor
    · rintro ⟨h1 | h1, h2⟩
      · exact absurd h1 h2
      · exact h1
    · intro h1; exact ⟨.inr h1, fun h2 => hd m h2 h1⟩
  have := List.length_eq_countP_add_countP (fun m => decide (m ∈ Y)) (l := X)
  rw [List.countP_eq_length_filter, List.countP_eq_length_filter, e1] at this
  rw [this]
  congr 2
  rw [← e2]
  congr 1
  funext m
  simp
theorem lenF_split {X Y Z : Bks} (hX : Good X) (hY : Good Y) (hZ : Good Z) (h : ∀ m, has X m = (has Y m || has Z m)) (hd : ∀ m, has Y m = true → has Z m = false) : lenF X = lenF Y + lenF Z := by
  rw [lenF_all hX, lenF_all hY, lenF_all hZ]
  refine rise_split (rise_allF hX) (rise_allF hY) (rise_allF hZ) (fun m => ?_) (fun m h1 h2 => ?_)
  · rw [mem_allF hX, mem_allF hY, mem_allF hZ, h m]; simp
  · rw [mem_allF hY] at h1
    rw [mem_allF hZ, hd m h1] at h2
    cases h2
end Go.Proofs.YtkkkglmjipnfaaaDoor
