/-
  Plain mathematics of the doubles, second part: a number that a double has is written without rounding; so sums, products and quotients of whole numbers are exact where they fit. No program here.
-/
import Derived.Test.YtkjnimmehjccbaaDoorTxt
namespace Go.Proofs.YtkjnimmehjccbaaDoor
open Ieee

theorem log2_shift (m k : Nat) (h : 0 < m) : (m * 2 ^ k).log2 = m.log2 + k := by
  have hm : m ≠ 0 := by omega
  have hmk : m * 2 ^ k ≠ 0 := Nat.mul_ne_zero hm (Nat.ne_of_gt (Nat.two_pow_pos k))
  rw [Nat.log2_eq_iff hmk]
  have h1 := Nat.log2_self_le hm
  have h2 := Nat.lt_log2_self (n := m)
  constructor
  · rw [Nat.pow_add]; exact Nat.mul_le_mul_right _ h1
  · rw [show m.log2 + k + 1 = m.log2 + 1 + k from by omega, Nat.pow_add]
    exact Nat.mul_lt_mul_of_pos_right h2 (Nat.two_pow_pos k)

/-- What is cut off is nothing. -/
theorem cut_exact (way : Toward) (neg : Bool) (M d : Nat) (h : 0 < M) : way.cut neg (M * 2 ^ d) d = M := by
  have hl := log2_shift M d h
  have hmin : min d ((M * 2 ^ d).log2 + 2) = d := by omega
  have hp := Nat.two_pow_pos d
  unfold Toward.cut
  simp only [hmin, Nat.shiftLeft_eq, Nat.one_mul, Nat.mul_mod_left, Nat.mul_div_cancel _ hp]
  cases way <;> simp <;> omega

theorem pow_cancel {a b : Nat} {x y : Nat} (hab : a ≤ b) (h : x * 2 ^ a = y * 2 ^ b) : x = y * 2 ^ (b - a) := by
  have : y * 2 ^ b = y * 2 ^ (b - a) * 2 ^ a := by rw [Nat.mul_assoc, ← Nat.pow_add]; congr 2; omega
  rw [this] at h
  exact Nat.eq_of_mul_eq_mul_right (Nat.two_pow_pos a) h

/-- The rung's own digits and place. -/
theorem mag_bounds (r : Nat) (h : p52 ≤ r) : p52 ≤ magOf r ∧ magOf r < 2 * p52 := by
  unfold magOf
  rw [if_neg (by omega)]
  have := Nat.mod_lt r (show 0 < p52 by decide)
  omega
theorem rung_eq (r : Nat) : upOf r * p52 + magOf r = r := by
  unfold upOf magOf
  split
  · omega
  · have h1 : 1 ≤ r / p52 := by unfold p52 at *; omega
    unfold p52 at *
    omega

/-- A number that a double has, written: its own rung. -/
theorem nearest_exact (neg : Bool) (mag : Nat) (place : Int) (r A B : Nat) (hr : r < infR) (hm : 0 < mag) (hp : (A : Int) - B = place + 1074) (h : mag * 2 ^ A = val r * 2 ^ B) :
    double.nearest neg mag place = double.word neg r := by
  have e2 : double.binade = p52 := by decide
  have e3 : double.infRung = infR := by decide
  have e4 : double.leastPlace = -1074 := by decide
  have e5 : (double.fractionBits : Int) = 52 := by decide
  unfold Format.nearest
  rw [if_neg (by omega)]
  simp only [e2, e3, e4, e5]
  rw [val_eq, Nat.mul_assoc, ← Nat.pow_add] at h
  have hM : 0 < magOf r := by
    rcases Nat.eq_zero_or_pos (magOf r) with h0 | h0
    · rw [h0] at h
      have := Nat.mul_pos hm (Nat.two_pow_pos A)
      omega
    · exact h0
  have hlog : mag.log2 + A = (magOf r).log2 + (upOf r + B) := by rw [← log2_shift mag A hm, ← log2_shift (magOf r) _ hM, h]
  have hlast : max (place + (mag.log2 : Int) - 52) (-1074) = -1074 + (upOf r : Int) := by
    by_cases hs : p52 ≤ r
    · have hb := mag_bounds r hs
      have hl : (magOf r).log2 = 52 := by
        rw [Nat.log2_eq_iff (by omega)]
        exact ⟨hb.1, Nat.lt_of_lt_of_le hb.2 (by decide)⟩
      rw [hl] at hlog
      omega
    · have hu : upOf r = 0 := by unfold upOf; rw [if_pos (by omega)]
      have hmr : magOf r = r := by unfold magOf; rw [if_pos (by omega)]
      have hl : (magOf r).log2 < 52 := by
        rw [Nat.log2_lt (by omega), hmr]
        exact Nat.lt_of_lt_of_le (by omega : r < p52) (by decide)
      rw [hu] at hlog ⊢
      omega
  rw [hlast]
  have hkept : Toward.even.cut neg (mag <<< (place - (-1074 + (upOf r : Int))).toNat) ((-1074 + (upOf r : Int)) - place).toNat = magOf r := by
    rcases Nat.le_total (upOf r + B) A with hle | hle
    · rw [show ((-1074 + (upOf r : Int)) - place).toNat = 0 from by omega, show (place - (-1074 + (upOf r : Int))).toNat = A - (upOf r + B) from by omega, Nat.shiftLeft_eq]
      have := pow_cancel hle h.symm
      rw [← this]
      have := cut_exact .even neg (magOf r) 0 hM
      simpa using this
    · rw [show ((-1074 + (upOf r : Int)) - place).toNat = upOf r + B - A from by omega, show (place - (-1074 + (upOf r : Int))).toNat = 0 from by omega, Nat.shiftLeft_eq]
      have := pow_cancel hle h
      rw [Nat.pow_zero, Nat.mul_one, this]
      exact cut_exact .even neg (magOf r) _ hM
  rw [hkept, show ((-1074 + (upOf r : Int)) - -1074).toNat = upOf r from by omega, rung_eq, Nat.min_eq_left (by omega)]

/-- Whole numbers of so many digits, at any place that fits, are a double's. -/
theorem rep (v p : Nat) (hv : v < 9007199254740992) (hp : p ≤ 2045) : ∃ r, r < infR ∧ val r = v * 2 ^ p := by
  by_cases hs : v * 2 ^ p < p52
  · refine ⟨v * 2 ^ p, Nat.lt_trans hs (by decide), ?_⟩
    unfold val
    rw [if_pos hs]
  · have hv0 : 0 < v := by
      rcases Nat.eq_zero_or_pos v with h | h
      · subst h; simp at hs; exact absurd hs (by decide)
      · exact h
    have hL : v.log2 ≤ 52 := by
      have : v.log2 < 53 := by rw [Nat.log2_lt (by omega)]; exact Nat.lt_of_lt_of_le hv (by decide)
      omega
    have h1 := Nat.log2_self_le (show v ≠ 0 by omega)
    have h2 := Nat.lt_log2_self (n := v)
    have hLp : 52 ≤ v.log2 + p := by
      rw [← log2_shift v p hv0, Nat.le_log2 (by have := Nat.mul_pos hv0 (Nat.two_pow_pos p); omega)]
      exact Nat.le_trans (by decide) (Nat.le_of_not_lt hs)
    have hM : v * 2 ^ (52 - v.log2) = p52 + (v * 2 ^ (52 - v.log2) - p52) := by
      have : p52 ≤ v * 2 ^ (52 - v.log2) := by
        calc p52 = 2 ^ (v.log2 + (52 - v.log2)) := by rw [show v.log2 + (52 - v.log2) = 52 from by omega]; decide
          _ = 2 ^ v.log2 * 2 ^ (52 - v.log2) := Nat.pow_add ..
          _ ≤ _ := Nat.mul_le_mul_right _ h1
      omega
    have hM2 : v * 2 ^ (52 - v.log2) < 2 * p52 := by
      calc v * 2 ^ (52 - v.log2) < 2 ^ (v.log2 + 1) * 2 ^ (52 - v.log2) := Nat.mul_lt_mul_of_pos_right h2 (Nat.two_pow_pos _)
        _ = 2 ^ (v.log2 + 1 + (52 - v.log2)) := (Nat.pow_add ..).symm
        _ = 2 * p52 := by rw [show v.log2 + 1 + (52 - v.log2) = 53 from by omega]; decide
    generalize hf : v * 2 ^ (52 - v.log2) - p52 = f at hM
    have hflt : f < p52 := by omega
    refine ⟨(v.log2 + p - 52 + 1) * p52 + f, ?_, ?_⟩
    · have h3 : (v.log2 + p - 52 + 1) * p52 ≤ 2046 * p52 := Nat.mul_le_mul_right _ (by omega)
      have h4 : 2046 * p52 + p52 = infR := by decide
      exact Nat.lt_of_lt_of_le (Nat.add_lt_add_of_le_of_lt h3 hflt) (Nat.le_of_eq h4)
    · unfold val
      have hp52 : 0 < p52 := by decide
      have h5 : 1 * p52 ≤ (v.log2 + p - 52 + 1) * p52 := Nat.mul_le_mul_right _ (by omega)
      rw [if_neg (by omega)]
      have d1 : ((v.log2 + p - 52 + 1) * p52 + f) / p52 = v.log2 + p - 52 + 1 := by rw [Nat.mul_comm, Nat.mul_add_div hp52, Nat.div_eq_of_lt hflt, Nat.add_zero]
      have d2 : ((v.log2 + p - 52 + 1) * p52 + f) % p52 = f := by rw [Nat.mul_comm, Nat.mul_add_mod, Nat.mod_eq_of_lt hflt]
      rw [d1, d2, ← hM, Nat.mul_assoc, ← Nat.pow_add]
      exact congrArg (fun z => v * 2 ^ z) (by omega)

/-- A word that stands for so many units of the least place; a nought has no sign. -/
def IsV (b : Nat) (v : Int) : Prop := b < 18446744073709551616 ∧ b % p63 < infR ∧ sval b = v ∧ negW b = decide (v < 0)

theorem isV_num {b : Nat} {v : Int} (h : IsV b v) : nanW b = false := by
  have := h.2.1
  unfold nanW
  simp
  omega
theorem isV_inj {a b : Nat} {v : Int} (ha : IsV a v) (hb : IsV b v) : a = b := by
  obtain ⟨a1, a2, a3, a4⟩ := ha
  obtain ⟨b1, b2, b3, b4⟩ := hb
  unfold sval at a3 b3
  rw [a4] at a3
  rw [b4] at b3
  have e : val (a % p63) = val (b % p63) := by
    by_cases h : v < 0
    · rw [decide_eq_true h] at a3 b3; simp at a3 b3; omega
    · rw [decide_eq_false h] at a3 b3; simp at a3 b3; omega
  have e1 := val_inj e
  have e2 : negW a = negW b := by rw [a4, b4]
  unfold negW at e2
  unfold p63 at *
  have k1 : a / 9223372036854775808 = 0 ∨ a / 9223372036854775808 = 1 := by omega
  have k2 : b / 9223372036854775808 = 0 ∨ b / 9223372036854775808 = 1 := by omega
  rcases k1 with k1 | k1 <;> rcases k2 with k2 | k2 <;> rw [k1, k2] at e2 <;> simp at e2 <;> omega

theorem word_parts (neg : Bool) (r : Nat) (h : r < p63) : double.word neg r < 18446744073709551616 ∧ double.word neg r % p63 = r ∧ negW (double.word neg r) = neg := by
  have e1 : double.signWeight = p63 := by decide
  unfold Format.word negW
  rw [e1]
  cases neg
  · simp only [Bool.false_eq_true, if_false]
    refine ⟨by unfold p63 at h; omega, Nat.mod_eq_of_lt h, ?_⟩
    rw [Nat.div_eq_of_lt h]; rfl
  · simp only [if_true]
    refine ⟨by unfold p63 at *; omega, by rw [Nat.add_mod_left, Nat.mod_eq_of_lt h], ?_⟩
    rw [Nat.add_div_left _ (by decide), Nat.div_eq_of_lt h]; rfl

/-- A word of a rung, with the sign of its value. -/
theorem isV_word (v : Int) (r : Nat) (hr : r < infR) (h : val r = v.natAbs) : IsV (double.word (decide (v < 0)) r) v := by
  obtain ⟨h1, h2, h3⟩ := word_parts (decide (v < 0)) r (Nat.lt_trans hr (by decide))
  refine ⟨h1, by rw [h2]; exact hr, ?_, h3⟩
  unfold sval
  rw [h2, h3, h]
  by_cases hv : v < 0
  · rw [decide_eq_true hv]; simp; omega
  · rw [decide_eq_false hv]; simp; omega

theorem val_nonzero {r v : Nat} (h : val r = v) (hv : 0 < v) : 0 < r := by
  rcases Nat.eq_zero_or_pos r with h0 | h0
  · subst h0; rw [val_zero] at h; omega
  · exact h0

/-- Written exactly. -/
theorem nearest_isV (v : Int) (mag : Nat) (place : Int) (A B : Nat) (hp : (A : Int) - B = place + 1074) (h : mag * 2 ^ A = v.natAbs * 2 ^ B) (hrep : ∃ r, r < infR ∧ val r = v.natAbs) :
    IsV (double.nearest (decide (v < 0)) mag place) v := by
  obtain ⟨r, hr, hv⟩ := hrep
  rcases Nat.eq_zero_or_pos mag with h0 | h0
  · subst h0
    have hz : v.natAbs = 0 := by
      rw [Nat.zero_mul] at h
      rcases Nat.mul_eq_zero.1 h.symm with h1 | h1
      · exact h1
      · exact absurd h1 (Nat.ne_of_gt (Nat.two_pow_pos B))
    have hr0 : r = 0 := val_inj (by rw [hv, hz, val_zero])
    subst hr0
    unfold Format.nearest
    rw [if_pos rfl]
    exact isV_word v 0 hr hv
  · rw [nearest_exact _ mag place r A B hr h0 hp (by rw [hv]; exact h)]
    exact isV_word v r hr hv

theorem rep_int (n : Int) (h : n.natAbs < 9007199254740992) (p : Nat) (hp : p ≤ 2045) : ∃ r, r < infR ∧ val r = (n * (2 ^ p : Nat)).natAbs := by
  obtain ⟨r, h1, h2⟩ := rep n.natAbs p h hp
  refine ⟨r, h1, ?_⟩
  rw [h2, Int.natAbs_mul, Int.natAbs_natCast]
theorem neg_scaled (n : Int) (p : Nat) : decide (n * (2 ^ p : Nat) < 0) = decide (n < 0) := by
  have : (0 : Int) < (2 ^ p : Nat) := by exact_mod_cast Nat.two_pow_pos p
  rw [decide_eq_decide]
  constructor
  · intro h
    rcases Int.lt_or_le n 0 with h1 | h1
    · exact h1
    · have := Int.mul_nonneg h1 (Int.le_of_lt this); omega
  · intro h; exact Int.mul_neg_of_neg_of_pos h this

/-- So many units of the least place are one. -/
def E1 : Nat := 1074
theorem E1_eq : E1 = 1074 := rfl
/-- float64(n), exactly. -/
theorem ofInt_isV (n : Int) (h : n.natAbs < 9007199254740992) : IsV (floatOfInt .f64 n) (n * (2 ^ E1 : Nat)) := by
  have hE := E1_eq
  have := nearest_isV (n * (2 ^ E1 : Nat)) n.natAbs 0 E1 0 (by omega) (by rw [Int.natAbs_mul, Int.natAbs_natCast, Nat.pow_zero, Nat.mul_one]) (rep_int n h E1 (by omega))
  rw [neg_scaled] at this
  exact this

theorem data_isV {b : Nat} {v : Int} (h : IsV b v) : ∃ m u : Nat, double.read b = .number (decide (v < 0)) m (-1074 + (u : Int)) ∧ m * 2 ^ u = v.natAbs ∧ m < 9007199254740992 ∧ (0 < u → p52 ≤ m) := by
  obtain ⟨h1, h2, h3, h4⟩ := h
  refine ⟨magOf (b % p63), upOf (b % p63), by rw [read_num b h2, h4], ?_, ?_, ?_⟩
  · rw [← val_eq]
    unfold sval at h3
    by_cases hv : v < 0
    · rw [h4, decide_eq_true hv] at h3; simp at h3; omega
    · rw [h4, decide_eq_false hv] at h3; simp at h3; omega
  · by_cases hs : p52 ≤ b % p63
    · have := (mag_bounds _ hs).2
      unfold p52 at this
      omega
    · unfold magOf
      rw [if_pos (by omega)]
      unfold p52 at hs
      omega
  · intro hu
    by_cases hs : p52 ≤ b % p63
    · exact (mag_bounds _ hs).1
    · unfold upOf at hu
      rw [if_pos (by omega)] at hu
      omega

theorem signed_of {v : Int} {m u : Nat} (h : m * 2 ^ u = v.natAbs) : signed (decide (v < 0)) m u = v := by
  unfold signed
  rw [Nat.shiftLeft_eq, h]
  by_cases hv : v < 0
  · simp [hv]; omega
  · simp [hv]; omega

/-- A sum that a double has is exact. -/
theorem add_exact {a b : Nat} {x y : Int} (ha : IsV a x) (hb : IsV b y) (hrep : ∃ r, r < infR ∧ val r = (x + y).natAbs) : ∃ c, floatBits .add .f64 a b = some c ∧ IsV c (x + y) := by
  obtain ⟨m, i, ra, ea, _, _⟩ := data_isV ha
  obtain ⟨n, j, rb, eb, _, _⟩ := data_isV hb
  refine ⟨_, by show double.add a b = _; unfold Format.add; rw [ra, rb]; rfl, ?_⟩
  have hmin : min (-1074 + (i : Int)) (-1074 + (j : Int)) = -1074 + ((min i j : Nat) : Int) := by omega
  simp only [hmin]
  rw [show (-1074 + (i : Int) - (-1074 + ((min i j : Nat) : Int))).toNat = i - min i j from by omega, show (-1074 + (j : Int) - (-1074 + ((min i j : Nat) : Int))).toNat = j - min i j from by omega]
  generalize hk : min i j = k
  have hsc : (signed (decide (x < 0)) m (i - k) + signed (decide (y < 0)) n (j - k)) * (2 ^ k : Nat) = x + y := by
    rw [Int.add_mul, shl_scale, shl_scale, show i - k + k = i from by omega, show j - k + k = j from by omega, signed_of ea, signed_of eb]
  generalize signed (decide (x < 0)) m (i - k) + signed (decide (y < 0)) n (j - k) = t at hsc
  have hsign : (if t = 0 then decide (x < 0) && decide (y < 0) else decide (t < 0)) = decide (x + y < 0) := by
    by_cases ht : t = 0
    · subst ht
      have : x + y = 0 := by omega
      rw [if_pos rfl, this, decide_eq_false (show ¬ (0 : Int) < 0 by omega)]
      by_cases hx : x < 0
      · rw [decide_eq_false (show ¬ y < 0 by omega)]; simp
      · rw [decide_eq_false hx]; rfl
    · rw [if_neg ht, ← hsc, neg_scaled]
  show IsV (double.nearest _ _ _) _
  rw [hsign]
  exact nearest_isV (x + y) t.natAbs (-1074 + (k : Int)) k 0 (by omega) (by rw [← hsc, Int.natAbs_mul, Int.natAbs_natCast]; simp) hrep
end Go.Proofs.YtkjnimmehjccbaaDoor
