/-
  Plain mathematics of the doubles, third part: products and quotients that a double has are exact; a double made whole; how great a product is at most. No program here.
-/
import Derived.Test.YtkjnimmehjccbaaDoorEx
namespace Go.Proofs.YtkjnimmehjccbaaDoor
open Ieee

theorem natAbs_of_nonneg' {x : Int} (h : 0 ≤ x) : ∃ n : Nat, x = n ∧ x.natAbs = n := ⟨x.toNat, by omega, by omega⟩

/-- A product of two numbers that aren't below 0, that a double has, is exact. -/
theorem mul_exact {a b : Nat} {x y z : Int} (ha : IsV a x) (hb : IsV b y) (hx : 0 ≤ x) (hy : 0 ≤ y) (hz : x.natAbs * y.natAbs = z.natAbs * 2 ^ E1) (hz0 : 0 ≤ z) (hrep : ∃ r, r < infR ∧ val r = z.natAbs) :
    ∃ c, floatBits .mul .f64 a b = some c ∧ IsV c z := by
  obtain ⟨m, i, ra, ea, _, _⟩ := data_isV ha
  obtain ⟨n, j, rb, eb, _, _⟩ := data_isV hb
  rw [decide_eq_false (show ¬ x < 0 by omega)] at ra
  rw [decide_eq_false (show ¬ y < 0 by omega)] at rb
  refine ⟨_, by show double.mul a b = _; unfold Format.mul; rw [ra, rb]; rfl, ?_⟩
  show IsV (double.nearest false (m * n) _) z
  have hE := E1_eq
  have := nearest_isV z (m * n) (-1074 + (i : Int) + (-1074 + (j : Int))) (i + j) E1 (by omega)
    (by rw [← hz, ← ea, ← eb, Nat.pow_add, Nat.mul_mul_mul_comm]) hrep
  rw [decide_eq_false (show ¬ z < 0 by omega)] at this
  exact this

theorem div_some {a b : Nat} {x y : Int} (ha : IsV a x) (hb : IsV b y) (hy : y ≠ 0) : ∃ c, floatBits .quo .f64 a b = some c := by
  obtain ⟨m, i, ra, ea, _, _⟩ := data_isV ha
  obtain ⟨n, j, rb, eb, _, _⟩ := data_isV hb
  have hn : n ≠ 0 := by
    intro h
    rw [h, Nat.zero_mul] at eb
    omega
  show ∃ c, double.div a b = some c
  unfold Format.div
  rw [ra, rb]
  simp only [Datum.quotient]
  rw [if_neg hn]
  exact ⟨_, rfl⟩

theorem div_zero {a b : Nat} {x : Int} (ha : IsV a x) (hb : IsV b 0) (hx : x ≠ 0) : floatBits .quo .f64 a b = some (double.word (decide (x < 0)) infR) := by
  obtain ⟨m, i, ra, ea, _, _⟩ := data_isV ha
  obtain ⟨n, j, rb, eb, _, _⟩ := data_isV hb
  have hm : m ≠ 0 := by
    intro h
    rw [h, Nat.zero_mul] at ea
    omega
  have hn : n = 0 := by
    rcases Nat.mul_eq_zero.1 eb with h | h
    · exact h
    · exact absurd h (Nat.ne_of_gt (Nat.two_pow_pos j))
  show double.div a b = _
  unfold Format.div
  rw [ra, rb]
  simp only [Datum.quotient]
  rw [if_pos hn, if_neg hm]
  simp only [Option.map_some, Format.write]
  rw [show double.infRung = infR from by decide]
  simp

theorem log2_mul_le (M n : Nat) (hM : 0 < M) (hn : 0 < n) : (M * n).log2 ≤ M.log2 + n.log2 + 1 := by
  have : (M * n).log2 < M.log2 + n.log2 + 2 := by
    rw [Nat.log2_lt (Nat.ne_of_gt (Nat.mul_pos hM hn))]
    calc M * n < 2 ^ (M.log2 + 1) * 2 ^ (n.log2 + 1) := Nat.mul_lt_mul_of_lt_of_lt Nat.lt_log2_self Nat.lt_log2_self
      _ = 2 ^ (M.log2 + n.log2 + 2) := by rw [← Nat.pow_add]; congr 1; omega
  omega

theorem log2_le52 {m : Nat} (h0 : 0 < m) (h : m < 9007199254740992) : m.log2 ≤ 52 := by
  have : m.log2 < 53 := by rw [Nat.log2_lt (by omega)]; exact Nat.lt_of_lt_of_le h (by decide)
  omega

/-- A quotient by a number above 0, that a double has, is exact. -/
theorem div_exact {a b : Nat} {x y z : Int} (ha : IsV a x) (hb : IsV b y) (hy : 0 < y) (hz : x.natAbs * 2 ^ E1 = z.natAbs * y.natAbs) (hs : decide (x < 0) = decide (z < 0)) (hrep : ∃ r, r < infR ∧ val r = z.natAbs) :
    ∃ c, floatBits .quo .f64 a b = some c ∧ IsV c z := by
  obtain ⟨m, i, ra, ea, hm, _⟩ := data_isV ha
  obtain ⟨n, j, rb, eb, hn53, _⟩ := data_isV hb
  obtain ⟨r, hr, hv⟩ := hrep
  have hE := E1_eq
  rw [decide_eq_false (show ¬ y < 0 by omega)] at rb
  have hn : 0 < n := by
    rcases Nat.eq_zero_or_pos n with h | h
    · rw [h, Nat.zero_mul] at eb; omega
    · exact h
  refine ⟨_, by show double.div a b = _; unfold Format.div; rw [ra, rb]; simp only [Datum.quotient]; rw [if_neg (show ¬ n = 0 by omega)]; rfl, ?_⟩
  rw [show double.fractionBits + 2 = 54 from by decide, hs]
  generalize hmore : 54 + n.log2 - m.log2 = more
  have hfin : ∀ (mag A B : Nat), 2 * (m <<< more / n) + (m <<< more % n != 0).toNat = mag → (A : Int) - B = (i : Int) - j - more - 1 + 1074 → mag * 2 ^ A = z.natAbs * 2 ^ B →
      IsV (double.nearest (decide (z < 0) ^^ false) (2 * (m <<< more / n) + (m <<< more % n != 0).toNat) (-1074 + (i : Int) - (-1074 + (j : Int)) - (more : Int) - 1)) z := by
    intro mag A B hmag hp h
    rw [hmag, Bool.xor_false]
    exact nearest_isV z mag _ A B (by omega) h ⟨r, hr, hv⟩
  show IsV (double.nearest _ _ _) z
  rcases Nat.eq_zero_or_pos m with h0 | h0
  · subst h0
    have hz0 : z.natAbs = 0 := by
      rw [Nat.zero_mul] at ea
      rw [← ea, Nat.zero_mul] at hz
      rcases Nat.mul_eq_zero.1 hz.symm with h | h
      · exact h
      · omega
    refine hfin 0 ((i : Int) - j - more - 1 + 1074).toNat (-((i : Int) - j - more - 1 + 1074)).toNat (by simp) (by omega) ?_
    rw [hz0, Nat.zero_mul, Nat.zero_mul]
  · have hM : 0 < magOf r := by
      rcases Nat.eq_zero_or_pos (magOf r) with h | h
      · have : val r = 0 := by rw [val_eq, h, Nat.zero_mul]
        rw [← hv, this, Nat.zero_mul, ← ea] at hz
        have := Nat.mul_pos (Nat.mul_pos h0 (Nat.two_pow_pos i)) (Nat.two_pow_pos E1)
        omega
      · exact h
    have hM53 : magOf r < 9007199254740992 := by
      by_cases hs : p52 ≤ r
      · have := (mag_bounds r hs).2; unfold p52 at this; omega
      · unfold magOf; rw [if_pos (by omega)]; unfold p52 at hs; omega
    have l1 := log2_le52 h0 hm
    have l2 := log2_le52 hM hM53
    rw [val_eq] at hv
    generalize magOf r = M at *
    generalize upOf r = u at *
    have key : m * 2 ^ (i + E1) = (M * n) * 2 ^ (u + j) := by
      rw [← hv, ← ea, ← eb] at hz
      rw [Nat.pow_add, ← Nat.mul_assoc, hz, Nat.pow_add, Nat.mul_mul_mul_comm]
    rcases Nat.le_total (i + E1) (u + j) with hle | hle
    · have hmm := pow_cancel hle key
      have hd : m <<< more = n * (M * 2 ^ (u + j - (i + E1) + more)) := by
        rw [Nat.shiftLeft_eq, Nat.pow_add]
        conv => lhs; rw [hmm]
        simp only [Nat.mul_assoc, Nat.mul_comm, Nat.mul_left_comm]
      refine hfin (2 * (M * 2 ^ (u + j - (i + E1) + more))) u (u + j - (i + E1) + more + 1) ?_ (by omega) ?_
      · rw [hd, Nat.mul_div_cancel_left _ hn, Nat.mul_mod_right]; rfl
      · rw [← hv, Nat.pow_succ]
        simp only [Nat.mul_assoc, Nat.mul_comm, Nat.mul_left_comm]
    · have hmm := pow_cancel hle key.symm
      have hdl : i + E1 - (u + j) ≤ more := by
        have h1 := log2_shift m (i + E1 - (u + j)) h0
        rw [← hmm] at h1
        have h2 := log2_mul_le M n hM hn
        omega
      have hd : m <<< more = n * (M * 2 ^ (more - (i + E1 - (u + j)))) := by
        rw [Nat.shiftLeft_eq, show more = (i + E1 - (u + j)) + (more - (i + E1 - (u + j))) from by omega, Nat.pow_add, ← Nat.mul_assoc, ← hmm, show (i + E1 - (u + j)) + (more - (i + E1 - (u + j))) - (i + E1 - (u + j)) = more - (i + E1 - (u + j)) from by omega]
        simp only [Nat.mul_assoc, Nat.mul_comm]
      refine hfin (2 * (M * 2 ^ (more - (i + E1 - (u + j))))) (u + (i + E1 - (u + j))) (more + 1) ?_ (by omega) ?_
      · rw [hd, Nat.mul_div_cancel_left _ hn, Nat.mul_mod_right]; rfl
      · rw [← hv, show more + 1 = (i + E1 - (u + j)) + (more - (i + E1 - (u + j))) + 1 from by omega, Nat.pow_succ, Nat.pow_add, Nat.pow_add]
        ac_rfl

theorem cut_zero (neg : Bool) (n d : Nat) : Toward.zero.cut neg n d = n / 2 ^ d := by
  unfold Toward.cut
  simp only [Nat.shiftLeft_eq, Nat.one_mul, Bool.toNat_false, Nat.add_zero]
  rcases Nat.le_total d (n.log2 + 2) with h | h
  · rw [Nat.min_eq_left h]
  · rw [Nat.min_eq_right h]
    have h1 : n < 2 ^ (n.log2 + 1) := Nat.lt_log2_self
    have h2 : 2 ^ (n.log2 + 1) ≤ 2 ^ (n.log2 + 2) := Nat.pow_le_pow_right (by omega) (by omega)
    have h3 : 2 ^ (n.log2 + 2) ≤ 2 ^ d := Nat.pow_le_pow_right (by omega) h
    rw [Nat.div_eq_of_lt (by omega), Nat.div_eq_of_lt (by omega)]

/-- A double that isn't below 0, made whole. -/
theorem toInt_floor {c : Nat} {v : Int} (h : IsV c v) (hv : 0 ≤ v) (hb : v.natAbs / 2 ^ E1 ≤ 9223372036854775807) : floatToIntVal .f64 c .i64 = some ((v.natAbs / 2 ^ E1 : Nat) : Int) := by
  obtain ⟨m, u, r, e, _, _⟩ := data_isV h
  have hE := E1_eq
  rw [decide_eq_false (show ¬ v < 0 by omega)] at r
  have key : (double.read c).toInt .zero = some ((v.natAbs / 2 ^ E1 : Nat) : Int) := by
    rw [r]
    unfold Datum.toInt Datum.integral
    simp only [signed, Bool.false_eq_true, if_false, cut_zero, Nat.shiftLeft_eq, Nat.pow_zero, Nat.mul_one]
    congr 2
    rw [← e]
    rcases Nat.le_total u E1 with hle | hle
    · rw [show (-1074 + (u : Int)).toNat = 0 from by omega, show (-(-1074 + (u : Int))).toNat = E1 - u from by omega, Nat.pow_zero, Nat.mul_one]
      rw [show (2 : Nat) ^ E1 = 2 ^ (E1 - u) * 2 ^ u from by rw [← Nat.pow_add]; congr 1; omega, Nat.mul_div_mul_right _ _ (Nat.two_pow_pos u)]
    · rw [show (-1074 + (u : Int)).toNat = u - E1 from by omega, show (-(-1074 + (u : Int))).toNat = 0 from by omega, Nat.pow_zero, Nat.div_one]
      rw [show (2 : Nat) ^ u = 2 ^ (u - E1) * 2 ^ E1 from by rw [← Nat.pow_add]; congr 1; omega, ← Nat.mul_assoc, Nat.mul_div_cancel _ (Nat.two_pow_pos E1)]
  unfold floatToIntVal
  show (match (double.read c).toInt .zero with | some n => _ | none => _) = _
  rw [key]
  have e1 : IntKind.i64.min = -9223372036854775808 := by decide
  have e2 : IntKind.i64.max = 9223372036854775807 := by decide
  simp only [e1, e2]
  generalize v.natAbs / 2 ^ E1 = q at hb
  rw [if_pos (by omega)]

/-- What is cut has at most as many digits as are kept, and one. -/
theorem cut_le (neg : Bool) (n d : Nat) (h : n.log2 ≤ 52 + d) : Toward.even.cut neg n d ≤ 2 * p52 := by
  have hp : 2 * p52 = 2 ^ 53 := by decide
  have h1 : n < 2 ^ (n.log2 + 1) := Nat.lt_log2_self
  have hlow : n / 2 ^ min d (n.log2 + 2) < 2 ^ 53 := by
    rw [Nat.div_lt_iff_lt_mul (Nat.two_pow_pos _), ← Nat.pow_add]
    refine Nat.lt_of_lt_of_le h1 (Nat.pow_le_pow_right (by omega) ?_)
    omega
  unfold Toward.cut
  simp only [Nat.shiftLeft_eq, Nat.one_mul]
  generalize n / 2 ^ min d (n.log2 + 2) = low at *
  rw [hp]
  have : ∀ b : Bool, b.toNat ≤ 1 := by decide
  exact Nat.le_trans (Nat.add_le_add_left (this _) _) hlow

/-- How great a written number is at most. -/
theorem nearest_le (neg : Bool) (mag : Nat) (place : Int) (A B K : Nat) (hp : (A : Int) - B = place + 1074) (hK : 53 ≤ K) (h : mag * 2 ^ A < 2 ^ K * 2 ^ B) : ∃ r, double.nearest neg mag place = double.word neg r ∧ r ≤ (K - 51) * p52 := by
  have e2 : double.binade = p52 := by decide
  have e4 : double.leastPlace = -1074 := by decide
  have e5 : (double.fractionBits : Int) = 52 := by decide
  unfold Format.nearest
  rcases Nat.eq_zero_or_pos mag with h0 | h0
  · rw [if_pos h0]
    exact ⟨0, rfl, Nat.zero_le _⟩
  · rw [if_neg (by omega)]
    simp only [e2, e4, e5]
    refine ⟨_, rfl, Nat.le_trans (Nat.min_le_left _ _) ?_⟩
    have hl : mag.log2 + A < K + B := by
      rw [← log2_shift mag A h0, Nat.log2_lt (Nat.ne_of_gt (Nat.mul_pos h0 (Nat.two_pow_pos A))), Nat.pow_add]
      exact h
    generalize hlast : max (place + (mag.log2 : Int) - 52) (-1074) = last
    have hk : Toward.even.cut neg (mag <<< (place - last).toNat) (last - place).toNat ≤ 2 * p52 := by
      refine cut_le neg _ _ ?_
      · rw [Nat.shiftLeft_eq, log2_shift _ _ h0]; omega
    have hq : (last - -1074).toNat * p52 ≤ (K - 53) * p52 := Nat.mul_le_mul_right _ (by omega)
    have hs : (K - 53) * p52 + 2 * p52 = (K - 51) * p52 := by rw [← Nat.add_mul]; congr 1; omega
    omega

theorem isV_pos (c : Nat) (h : c < infR) : IsV c (val c) := by
  have hp : c < p63 := Nat.lt_trans h (by decide)
  have hn : negW c = false := by unfold negW; rw [Nat.div_eq_of_lt hp]; rfl
  refine ⟨by unfold p63 at hp; omega, by rw [Nat.mod_eq_of_lt hp]; exact h, ?_, ?_⟩
  · unfold sval; rw [hn, Nat.mod_eq_of_lt hp]; rfl
  · rw [hn, decide_eq_false (by omega)]

theorem greatR_isV : IsV greatR ((1000000000000000 : Int) * (2 ^ E1 : Nat)) := by
  have := ofInt_isV 1000000000000000 (by decide)
  rw [show floatOfInt .f64 1000000000000000 = greatR from by decide +kernel] at this
  exact this
theorem hundred_isV : IsV 4636737291354636288 ((100 : Int) * (2 ^ E1 : Nat)) := by
  have := ofInt_isV 100 (by decide)
  rw [show floatOfInt .f64 100 = 4636737291354636288 from by decide +kernel] at this
  exact this
theorem val_great : val greatR = 1000000000000000 * 2 ^ E1 := by
  have h1 := (isV_pos greatR (by decide)).2.2.1
  have h2 := greatR_isV.2.2.1
  rw [h1] at h2
  generalize (2 : Nat) ^ E1 = P at *
  omega

/-- Less than 1e15, times 100, made whole: it fits. -/
theorem times_fits (x : Nat) (h : x < greatR) : ∃ c n : Nat, floatBits .mul .f64 x 4636737291354636288 = some c ∧ floatToIntVal .f64 c .i64 = some (n : Int) ∧ n ≤ 9223372036854775807 := by
  have hE := E1_eq
  have hh := hundred_isV
  have hg := val_great
  have hv57 : val (1080 * p52) = p52 * 2 ^ (5 + E1) := by
    unfold val
    rw [if_neg (by decide), show 1080 * p52 % p52 = 0 from by decide, show 1080 * p52 / p52 - 1 = 5 + E1 from by decide, Nat.add_zero]
  have hfl : ∀ r, r < infR → val r / 2 ^ E1 ≤ 9223372036854775807 → floatToIntVal .f64 r .i64 = some ((val r / 2 ^ E1 : Nat) : Int) := by
    intro r hr hq
    have := toInt_floor (isV_pos r hr) (by omega) (by rw [Int.natAbs_natCast]; exact hq)
    rw [Int.natAbs_natCast] at this
    exact this
  generalize E1 = E at *
  have hpos : (0 : Int) < ((2 ^ E : Nat) : Int) := Int.natCast_pos.2 (Nat.two_pow_pos E)
  have hx := isV_pos x (Nat.lt_trans h (by decide))
  obtain ⟨m, i, ra, ea, _, _⟩ := data_isV hx
  obtain ⟨n, j, rb, eb, _, _⟩ := data_isV hh
  rw [decide_eq_false (by omega)] at ra
  rw [decide_eq_false (by omega)] at rb
  have hxlt : val x < 1000000000000000 * 2 ^ E := hg ▸ val_lt h
  rw [Int.natAbs_natCast] at ea
  rw [Int.natAbs_mul, show (100 : Int).natAbs = 100 from rfl, Int.natAbs_natCast (2 ^ E)] at eb
  rw [Nat.pow_add, ← Nat.mul_assoc, show p52 * 2 ^ 5 = 2 ^ 57 from by decide] at hv57
  have hlt : m * n * 2 ^ (i + j) < 2 ^ 1131 * 2 ^ E := by
    rw [Nat.pow_add, Nat.mul_mul_mul_comm, ea, eb]
    have hP := Nat.two_pow_pos E
    rw [show (1131 : Nat) = 57 + E from by omega, Nat.pow_add]
    generalize (2 : Nat) ^ E = P at *
    refine Nat.lt_of_lt_of_le (Nat.mul_lt_mul_of_pos_right hxlt (Nat.mul_pos (by decide) hP)) ?_
    rw [show 1000000000000000 * P * (100 * P) = 100000000000000000 * P * P from by rw [Nat.mul_mul_mul_comm, Nat.mul_assoc 100000000000000000 P P]]
    exact Nat.mul_le_mul_right _ (Nat.mul_le_mul_right _ (by decide))
  obtain ⟨r, hr, hle⟩ := nearest_le false (m * n) (-1074 + (i : Int) + (-1074 + (j : Int))) (i + j) E 1131 (by omega) (by omega) hlt
  have hri : r < infR := Nat.lt_of_le_of_lt hle (by decide)
  have hmul : floatBits .mul .f64 x 4636737291354636288 = some (double.word false r) := by
    show double.mul x _ = _
    unfold Format.mul
    rw [ra, rb]
    show some (double.nearest false (m * n) _) = _
    rw [hr]
  have hw : double.word false r = r := rfl
  rw [hw] at hmul
  have hvle : val r ≤ 2 ^ 57 * 2 ^ E := by
    rw [← hv57]
    rcases Nat.lt_or_ge r (1080 * p52) with h2 | h2
    · exact Nat.le_of_lt (val_lt h2)
    · rw [show r = 1080 * p52 from by omega]; exact Nat.le_refl _
  have hq : val r / 2 ^ E ≤ 2 ^ 57 := by
    have := Nat.div_le_div_right (c := 2 ^ E) hvle
    rwa [Nat.mul_div_cancel _ (Nat.two_pow_pos E)] at this
  have hq2 : val r / 2 ^ E ≤ 9223372036854775807 := Nat.le_trans hq (by decide)
  exact ⟨r, val r / 2 ^ E, hmul, hfl r hri hq2, hq2⟩
end Go.Proofs.YtkjnimmehjccbaaDoor
