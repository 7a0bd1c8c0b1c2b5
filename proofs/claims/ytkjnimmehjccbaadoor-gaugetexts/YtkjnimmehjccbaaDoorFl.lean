/-
  Plain mathematics of the doubles of the model: which words are no number, how words stand to one another, which words the whole numbers have, and that sums, products and quotients of whole numbers are exact where they fit. No program here.
-/
import Derived.Laws.FloatArith
namespace Go.Proofs.YtkjnimmehjccbaaDoor
open Ieee

/-- 2^52, 2^63 and the rung of no end. -/
def p52 : Nat := 4503599627370496
def p63 : Nat := 9223372036854775808
def infR : Nat := 9218868437227405312

/-- The words that are no number. -/
def nanW (b : Nat) : Bool := decide (infR < b % p63)
/-- The sign of a word. -/
def negW (b : Nat) : Bool := b / p63 % 2 == 1

/-- What a rung stands for, in units of the least place. -/
def val (r : Nat) : Nat := if r < p52 then r else (p52 + r % p52) * 2 ^ (r / p52 - 1)
def magOf (r : Nat) : Nat := if r < p52 then r else p52 + r % p52
def upOf (r : Nat) : Nat := if r < p52 then 0 else r / p52 - 1

theorem val_eq (r : Nat) : val r = magOf r * 2 ^ upOf r := by
  unfold val magOf upOf
  split <;> simp

theorem val_step (r : Nat) : val r < val (r + 1) := by
  unfold val
  by_cases h : r < p52
  · by_cases h2 : r + 1 < p52
    · simp [h, h2]
    · have : r + 1 = p52 := by omega
      simp [h, this]
      unfold p52
      simp
      unfold p52 at h
      omega
  · have h2 : ¬ r + 1 < p52 := by omega
    rw [if_neg h, if_neg h2]
    by_cases hm : r % p52 + 1 < p52
    · have e1 : (r + 1) / p52 = r / p52 := by unfold p52 at *; omega
      have e2 : (r + 1) % p52 = r % p52 + 1 := by unfold p52 at *; omega
      rw [e1, e2]
      exact Nat.mul_lt_mul_of_pos_right (by omega) (Nat.two_pow_pos _)
    · have hq : 1 ≤ r / p52 := by unfold p52 at *; omega
      have e1 : (r + 1) / p52 = r / p52 + 1 := by unfold p52 at *; omega
      have e2 : (r + 1) % p52 = 0 := by unfold p52 at *; omega
      rw [e1, e2, show r / p52 + 1 - 1 = (r / p52 - 1) + 1 from by omega, Nat.pow_succ, ← Nat.mul_assoc]
      have hlt : p52 + r % p52 < (p52 + 0) * 2 := by have : r % p52 < p52 := Nat.mod_lt _ (by decide); omega
      rw [Nat.mul_right_comm]
      exact Nat.mul_lt_mul_of_pos_right hlt (Nat.two_pow_pos _)

theorem val_add (r k : Nat) : val r < val (r + k + 1) := by
  induction k with
  | zero => exact val_step r
  | succ k ih => exact Nat.lt_trans ih (val_step _)
theorem val_lt {r s : Nat} (h : r < s) : val r < val s := by
  have := val_add r (s - r - 1)
  rwa [show r + (s - r - 1) + 1 = s from by omega] at this
theorem val_lt_iff {r s : Nat} : val r < val s ↔ r < s := by
  refine ⟨fun h => ?_, val_lt⟩
  rcases Nat.lt_trichotomy r s with h1 | h1 | h1
  · exact h1
  · subst h1; omega
  · have := val_lt h1; omega
theorem val_inj {r s : Nat} (h : val r = val s) : r = s := by
  rcases Nat.lt_trichotomy r s with h1 | h1 | h1
  · have := val_lt h1; omega
  · exact h1
  · have := val_lt h1; omega
theorem val_zero : val 0 = 0 := by decide

/-- What a word stands for, where it is a number. -/
theorem read_num (b : Nat) (h : b % p63 < infR) : double.read b = .number (negW b) (magOf (b % p63)) (-1074 + (upOf (b % p63) : Int)) := by
  have e1 : double.signWeight = p63 := by decide
  have e2 : double.binade = p52 := by decide
  have e3 : double.infRung = infR := by decide
  have e4 : double.leastPlace = -1074 := by decide
  unfold Format.read negW magOf upOf
  simp only [e1, e2, e3, e4]
  by_cases h1 : b % p63 < p52
  · simp [h1]
  · simp [h1, h]
theorem read_inf (b : Nat) (h : b % p63 = infR) : double.read b = .infinity (negW b) := by
  have e1 : double.signWeight = p63 := by decide
  have e2 : double.binade = p52 := by decide
  have e3 : double.infRung = infR := by decide
  unfold Format.read negW
  simp only [e1, e2, e3, h]
  rw [if_neg (by decide), if_neg (by omega), if_pos trivial]
theorem read_nan (b : Nat) (h : infR < b % p63) : double.read b = .nan (negW b) (b % p63 - infR) := by
  have e1 : double.signWeight = p63 := by decide
  have e2 : double.binade = p52 := by decide
  have e3 : double.infRung = infR := by decide
  have e5 : p52 < infR := by decide
  unfold Format.read negW
  simp only [e1, e2, e3]
  rw [if_neg (by omega), if_neg (by omega), if_neg (by omega)]

/-- Where a word stands among all: what is no number ahead of all. -/
def rank (b : Nat) : Int := if nanW b then -(p63 : Int) - 1 else if negW b then -((b % p63 : Nat) : Int) - 1 else ((b % p63 : Nat) : Int)

/-- The value with its sign. -/
def sval (b : Nat) : Int := if negW b then -(val (b % p63) : Int) else (val (b % p63) : Int)

theorem shl_scale (s : Bool) (m i k : Nat) : signed s m i * (2 ^ k : Nat) = signed s m (i + k) := by
  unfold signed
  rw [Nat.shiftLeft_eq, Nat.shiftLeft_eq, Nat.pow_add]
  split
  · rw [← Nat.mul_assoc, Int.neg_mul]; simp [Int.mul_assoc]
  · rw [← Nat.mul_assoc]; simp [Int.mul_assoc]

theorem cmp_scale (a b : Int) (k : Nat) : compare (a * (2 ^ k : Nat)) (b * (2 ^ k : Nat)) = compare a b := by
  have hp : (0 : Int) < (2 ^ k : Nat) := by exact_mod_cast Nat.two_pow_pos k
  rcases Int.lt_trichotomy a b with h | h | h
  · rw [Int.compare_eq_lt.2 h, Int.compare_eq_lt.2 (Int.mul_lt_mul_of_pos_right h hp)]
  · subst h; simp
  · rw [Int.compare_eq_gt.2 h, Int.compare_eq_gt.2 (Int.mul_lt_mul_of_pos_right h hp)]

theorem signed_sval (b : Nat) : signed (negW b) (magOf (b % p63)) (upOf (b % p63)) = sval b := by
  unfold signed sval
  rw [Nat.shiftLeft_eq, ← val_eq]

/-- Two numbers stand as their values. -/
theorem order_num (a b : Nat) (ha : a % p63 < infR) (hb : b % p63 < infR) : double.order a b = some (compare (sval a) (sval b)) := by
  unfold Format.order
  rw [read_num a ha, read_num b hb]
  simp only [Datum.order]
  congr 1
  generalize hi : upOf (a % p63) = i
  generalize hj : upOf (b % p63) = j
  rcases Nat.le_total i j with h | h
  · have e : min (-1074 + (i : Int)) (-1074 + (j : Int)) = -1074 + (i : Int) := by omega
    rw [e, show (-1074 + (i : Int) - (-1074 + (i : Int))).toNat = 0 from by omega, show (-1074 + (j : Int) - (-1074 + (i : Int))).toNat = j - i from by omega]
    rw [← cmp_scale _ _ i, shl_scale, shl_scale, show 0 + i = i from by omega, show j - i + i = j from by omega, ← hi, ← hj, signed_sval, signed_sval]
  · have e : min (-1074 + (i : Int)) (-1074 + (j : Int)) = -1074 + (j : Int) := by omega
    rw [e, show (-1074 + (j : Int) - (-1074 + (j : Int))).toNat = 0 from by omega, show (-1074 + (i : Int) - (-1074 + (j : Int))).toNat = i - j from by omega]
    rw [← cmp_scale _ _ j, shl_scale, shl_scale, show 0 + j = j from by omega, show i - j + j = i from by omega, ← hi, ← hj, signed_sval, signed_sval]
theorem order_nan (a b : Nat) (h : nanW a = true ∨ nanW b = true) : double.order a b = none := by
  unfold nanW at h
  simp only [decide_eq_true_eq] at h
  unfold Format.order
  rcases h with h | h
  · rw [read_nan a h]; rfl
  · rw [read_nan b h]
    cases double.read a <;> rfl

theorem sval_bound (b : Nat) (h : b % p63 ≤ infR) : -(val infR : Int) ≤ sval b ∧ sval b ≤ val infR := by
  have : val (b % p63) ≤ val infR := by
    rcases Nat.lt_or_ge (b % p63) infR with h1 | h1
    · exact Nat.le_of_lt (val_lt h1)
    · rw [show b % p63 = infR from by omega]; exact Nat.le_refl _
  unfold sval
  split <;> omega
theorem sval_bound' (b : Nat) (h : b % p63 < infR) : -(val infR : Int) < sval b ∧ sval b < val infR := by
  have : val (b % p63) < val infR := val_lt h
  unfold sval
  split <;> omega
theorem sval_inf (b : Nat) (h : b % p63 = infR) : sval b = if negW b then -(val infR : Int) else (val infR : Int) := by
  unfold sval
  rw [h]

/-- All that is no NaN stands as its value; no end as the rung behind all numbers. -/
theorem order_val (a b : Nat) (ha : nanW a = false) (hb : nanW b = false) : double.order a b = some (compare (sval a) (sval b)) := by
  unfold nanW at ha hb
  simp only [decide_eq_false_iff_not, Nat.not_lt] at ha hb
  have hp : (0 : Int) < val infR := by
    have : val 0 < val infR := val_lt (by decide)
    rw [val_zero] at this
    omega
  rcases Nat.lt_or_ge (a % p63) infR with h1 | h1
  · rcases Nat.lt_or_ge (b % p63) infR with h2 | h2
    · exact order_num a b h1 h2
    · have e2 : b % p63 = infR := by omega
      have q := sval_bound' a h1
      unfold Format.order
      rw [read_num a h1, read_inf b e2, sval_inf b e2]
      simp only [Datum.order]
      cases negW b
      · simp only [Bool.false_eq_true, if_false]
        rw [Int.compare_eq_lt.2 q.2]
      · simp only [if_true]
        rw [Int.compare_eq_gt.2 q.1]
  · have e1 : a % p63 = infR := by omega
    rcases Nat.lt_or_ge (b % p63) infR with h2 | h2
    · have q := sval_bound' b h2
      unfold Format.order
      rw [read_num b h2, read_inf a e1, sval_inf a e1]
      simp only [Datum.order]
      cases negW a
      · simp only [Bool.false_eq_true, if_false]
        rw [Int.compare_eq_gt.2 q.2]
      · simp only [if_true]
        rw [Int.compare_eq_lt.2 q.1]
    · have e2 : b % p63 = infR := by omega
      unfold Format.order
      rw [read_inf a e1, read_inf b e2, sval_inf a e1, sval_inf b e2]
      simp only [Datum.order]
      generalize (val infR : Int) = v at hp
      cases negW a <;> cases negW b <;> simp
      · rw [Int.compare_eq_gt.2 (by omega)]; decide
      · rw [Int.compare_eq_lt.2 (by omega)]; decide

theorem compare_eq_iff (x y : Int) : (some (compare x y) == some Ordering.eq) = decide (x = y) := by
  rcases Int.lt_trichotomy x y with h | h | h
  · rw [Int.compare_eq_lt.2 h]; simp; omega
  · subst h; simp
  · rw [Int.compare_eq_gt.2 h]; simp; omega
theorem compare_lt_iff (x y : Int) : (some (compare x y) == some Ordering.lt) = decide (x < y) := by
  rcases Int.lt_trichotomy x y with h | h | h
  · rw [Int.compare_eq_lt.2 h]; simp; omega
  · subst h; simp
  · rw [Int.compare_eq_gt.2 h]; simp; omega
theorem compare_gt_iff (x y : Int) : (some (compare x y) == some Ordering.gt) = decide (y < x) := by
  rcases Int.lt_trichotomy x y with h | h | h
  · rw [Int.compare_eq_lt.2 h]; simp; omega
  · subst h; simp
  · rw [Int.compare_eq_gt.2 h]; simp; omega

theorem ord_self (b : Nat) : (FloatKind.f64.format.order b b != some .eq) = nanW b := by
  show (double.order b b != some .eq) = nanW b
  cases h : nanW b
  · rw [order_val b b h h]; simp
  · rw [order_nan b b (.inl h)]; rfl
theorem ord_eq (a b : Nat) (ha : nanW a = false) (hb : nanW b = false) : (FloatKind.f64.format.order a b == some .eq) = decide (sval a = sval b) := by
  show (double.order a b == some .eq) = _
  rw [order_val a b ha hb, compare_eq_iff]
theorem ord_lt (a b : Nat) (ha : nanW a = false) (hb : nanW b = false) : (FloatKind.f64.format.order a b == some .lt) = decide (sval a < sval b) := by
  show (double.order a b == some .lt) = _
  rw [order_val a b ha hb, compare_lt_iff]
theorem ord_gt (a b : Nat) (ha : nanW a = false) (hb : nanW b = false) : (FloatKind.f64.format.order a b == some .gt) = decide (sval b < sval a) := by
  show (double.order a b == some .gt) = _
  rw [order_val a b ha hb, compare_gt_iff]
theorem ord_nan (a b : Nat) (h : nanW a = true ∨ nanW b = true) : FloatKind.f64.format.order a b = none := order_nan a b h

theorem val_pos {r : Nat} (h : 0 < r) : 0 < val r := by have := val_lt h; rwa [val_zero] at this
theorem sval_zero (b : Nat) : sval b = 0 ↔ b % p63 = 0 := by
  unfold sval
  rcases Nat.eq_zero_or_pos (b % p63) with h | h
  · rw [h, val_zero]; simp
  · have := val_pos h
    split <;> omega

/-- Less, as the document says it. -/
def lessW (a b : Nat) : Bool := decide (rank a < rank b)

theorem lessW_nan (a b : Nat) (h : nanW a = true ∨ nanW b = true) : lessW a b = !nanW b := by
  have hm : b % p63 < p63 := Nat.mod_lt _ (by decide)
  have hn : a % p63 < p63 := Nat.mod_lt _ (by decide)
  unfold lessW rank
  cases ha : nanW a <;> cases hb : nanW b <;> simp_all <;> split <;> omega
theorem lessW_zero (a b : Nat) (ha : a % p63 = 0) (hb : b % p63 = 0) : lessW a b = (negW a && !negW b) := by
  have h1 : nanW a = false := by unfold nanW; rw [ha]; decide
  have h2 : nanW b = false := by unfold nanW; rw [hb]; decide
  unfold lessW rank
  rw [h1, h2, ha, hb]
  cases negW a <;> cases negW b <;> decide
theorem lessW_num (a b : Nat) (ha : nanW a = false) (hb : nanW b = false) (h : ¬ (a % p63 = 0 ∧ b % p63 = 0)) : lessW a b = decide (sval a < sval b) := by
  unfold lessW rank
  rw [ha, hb]
  unfold sval
  have k1 := @val_lt_iff (a % p63) (b % p63)
  have k2 := @val_lt_iff (b % p63) (a % p63)
  have z1 : 0 < a % p63 → 0 < val (a % p63) := val_pos
  have z2 : 0 < b % p63 → 0 < val (b % p63) := val_pos
  generalize val (a % p63) = va at *
  generalize val (b % p63) = vb at *
  cases negW a <;> cases negW b <;> simp <;> omega

theorem rank_inj {a b : Nat} (ha : a < 18446744073709551616) (hb : b < 18446744073709551616) (na : nanW a = false) (nb : nanW b = false) (h : rank a = rank b) : a = b := by
  unfold rank negW at h
  rw [na, nb] at h
  unfold p63 at h
  have e1 : a / 9223372036854775808 = 0 ∨ a / 9223372036854775808 = 1 := by omega
  have e2 : b / 9223372036854775808 = 0 ∨ b / 9223372036854775808 = 1 := by omega
  rcases e1 with e1 | e1 <;> rcases e2 with e2 | e2 <;> rw [e1, e2] at h <;> simp at h <;> omega
theorem rank_nan {b : Nat} (h : nanW b = true) : rank b = -(p63 : Int) - 1 := by unfold rank; rw [h]; rfl
theorem rank_ge {b : Nat} (h : nanW b = false) : -(p63 : Int) ≤ rank b := by
  have hm : b % p63 < p63 := Nat.mod_lt _ (by decide)
  unfold rank; rw [h]
  simp only [Bool.false_eq_true, if_false]
  split <;> omega
end Go.Proofs.YtkjnimmehjccbaaDoor
