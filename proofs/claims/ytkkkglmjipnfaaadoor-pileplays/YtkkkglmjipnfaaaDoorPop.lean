/-
  OnesCount64 counts: its steps, byte by byte; the numbers of a set, as a rising list. No program here.
-/
import Derived.Test.YtkkkglmjipnfaaaDoorAll
namespace Go.Proofs.YtkkkglmjipnfaaaDoor
open Go.RowKit
set_option linter.unusedVariables false

def pop : Nat → Nat → Nat
  | 0, _ => 0
  | n + 1, x => x % 2 + pop n (x / 2)
theorem pop_range (n x : Nat) : ((List.range n).filter x.testBit).length = pop n x := by
  induction n generalizing x with
  | zero => rfl
  | succ n ih =>
    have e : (List.range n).filter (x.testBit ∘ Nat.succ) = (List.range n).filter (x / 2).testBit := by
      apply List.filter_congr
      intro i _
      simp [Nat.testBit_succ]
    rw [List.range_succ_eq_map, List.filter_cons, List.filter_map, e]
    unfold pop
    rw [← ih (x / 2)]
    have h0 : x.testBit 0 = decide (x % 2 = 1) := Nat.testBit_zero x
    rcases Nat.mod_two_eq_zero_or_one x with h | h
    · rw [h0, h]; simp
    · rw [h0, h]; simp; omega
theorem pop_byte (n x : Nat) : pop (n + 8) x = pop 8 (x % 256) + pop n (x / 256) := by
  have e : x / 2 / 2 / 2 / 2 / 2 / 2 / 2 / 2 = x / 256 := by omega
  simp only [pop, e]
  omega
theorem and_join (h l M m : Nat) (hl : l < 256) (hm : m < 256) : (256 * h + l) &&& (256 * M + m) = 256 * (h &&& M) + (l &&& m) := by
  apply Nat.eq_of_testBit_eq
  intro i
  have hp : (256 : Nat) = 2 ^ 8 := by decide
  have hlm : l &&& m < 2 ^ 8 := Nat.lt_of_le_of_lt Nat.and_le_left (by omega)
  rw [hp] at hl hm ⊢
  rw [Nat.testBit_and, Nat.testBit_two_pow_mul_add h hl i, Nat.testBit_two_pow_mul_add M hm i, Nat.testBit_two_pow_mul_add (h &&& M) hlm i]
  split <;> simp [Nat.testBit_and]
def t1 (l : Nat) : Nat := (l / 2 &&& 85) + (l &&& 85)
def t2 (l : Nat) : Nat := (l / 4 &&& 51) + (l &&& 51)
def g1 (M x : Nat) : Nat := (x / 2 &&& M) + (x &&& M)
def g2 (M x : Nat) : Nat := (x / 4 &&& M) + (x &&& M)
theorem low1 : ∀ b, b < 2 → ∀ l, l < 256 → (b * 128 + l / 2) &&& 85 = l / 2 &&& 85 := by decide +kernel
theorem low2 : ∀ b, b < 4 → ∀ l, l < 256 → (b * 64 + l / 4) &&& 51 = l / 4 &&& 51 := by decide +kernel
theorem byte_ok : ∀ c, c < 256 → t1 c < 256 ∧ t2 (t1 c) % 16 ≤ 4 ∧ t2 (t1 c) / 16 ≤ 4 ∧ (t2 (t1 c) + t2 (t1 c) / 16) % 16 = pop 8 c ∧ pop 8 c ≤ 8 := by decide +kernel
theorem g1_step (M h l : Nat) (hl : l < 256) : g1 (256 * M + 85) (256 * h + l) = 256 * g1 M h + t1 l := by
  unfold g1 t1
  rw [show (256 * h + l) / 2 = 256 * (h / 2) + (h % 2 * 128 + l / 2) from by omega, and_join _ _ _ _ (by omega) (by omega), and_join _ _ _ _ hl (by omega), low1 _ (by omega) _ hl]
  omega
theorem g2_step (M h l : Nat) (hl : l < 256) : g2 (256 * M + 51) (256 * h + l) = 256 * g2 M h + t2 l := by
  unfold g2 t2
  rw [show (256 * h + l) / 4 = 256 * (h / 4) + (h % 4 * 64 + l / 4) from by omega, and_join _ _ _ _ (by omega) (by omega), and_join _ _ _ _ hl (by omega), low2 _ (by omega) _ hl]
  omega
theorem g1_zero (x : Nat) : g1 0 x = 0 := by unfold g1; simp
theorem g2_zero (x : Nat) : g2 0 x = 0 := by unfold g2; simp
theorem and15 (l : Nat) (h : l < 256) : l &&& 15 = l % 16 := Nat.and_two_pow_sub_one_eq_mod l 4
def by8 (a b c d e f g h : Nat) : Nat := 256 * (256 * (256 * (256 * (256 * (256 * (256 * h + g) + f) + e) + d) + c) + b) + a
theorem g1_8 (a b c d e f g h : Nat) (ha : a < 256) (hb : b < 256) (hc : c < 256) (hd : d < 256) (he : e < 256) (hf : f < 256) (hg : g < 256) (hh : h < 256) :
    g1 6148914691236517205 (by8 a b c d e f g h) = by8 (t1 a) (t1 b) (t1 c) (t1 d) (t1 e) (t1 f) (t1 g) (t1 h) := by
  unfold by8
  rw [show 6148914691236517205 = 256 * 24019198012642645 + 85 from rfl, g1_step _ _ _ ha, show 24019198012642645 = 256 * 93824992236885 + 85 from rfl, g1_step _ _ _ hb, show 93824992236885 = 256 * 366503875925 + 85 from rfl, g1_step _ _ _ hc,
    show 366503875925 = 256 * 1431655765 + 85 from rfl, g1_step _ _ _ hd, show 1431655765 = 256 * 5592405 + 85 from rfl, g1_step _ _ _ he, show 5592405 = 256 * 21845 + 85 from rfl, g1_step _ _ _ hf, show 21845 = 256 * 85 + 85 from rfl, g1_step _ _ _ hg]
  have := g1_step 0 0 h hh
  rw [g1_zero, Nat.mul_zero, Nat.zero_add, Nat.zero_add, Nat.zero_add] at this
  rw [this]
theorem g2_8 (a b c d e f g h : Nat) (ha : a < 256) (hb : b < 256) (hc : c < 256) (hd : d < 256) (he : e < 256) (hf : f < 256) (hg : g < 256) (hh : h < 256) :
    g2 3689348814741910323 (by8 a b c d e f g h) = by8 (t2 a) (t2 b) (t2 c) (t2 d) (t2 e) (t2 f) (t2 g) (t2 h) := by
  unfold by8
  rw [show 3689348814741910323 = 256 * 14411518807585587 + 51 from rfl, g2_step _ _ _ ha, show 14411518807585587 = 256 * 56294995342131 + 51 from rfl, g2_step _ _ _ hb, show 56294995342131 = 256 * 219902325555 + 51 from rfl, g2_step _ _ _ hc,
    show 219902325555 = 256 * 858993459 + 51 from rfl, g2_step _ _ _ hd, show 858993459 = 256 * 3355443 + 51 from rfl, g2_step _ _ _ he, show 3355443 = 256 * 13107 + 51 from rfl, g2_step _ _ _ hf, show 13107 = 256 * 51 + 51 from rfl, g2_step _ _ _ hg]
  have := g2_step 0 0 h hh
  rw [g2_zero, Nat.mul_zero, Nat.zero_add, Nat.zero_add, Nat.zero_add] at this
  rw [this]
theorem and15_8 (a b c d e f g h : Nat) (ha : a < 256) (hb : b < 256) (hc : c < 256) (hd : d < 256) (he : e < 256) (hf : f < 256) (hg : g < 256) (hh : h < 256) :
    by8 a b c d e f g h &&& 1085102592571150095 = by8 (a % 16) (b % 16) (c % 16) (d % 16) (e % 16) (f % 16) (g % 16) (h % 16) := by
  unfold by8
  rw [show 1085102592571150095 = 256 * 4238682002231055 + 15 from rfl, and_join _ _ _ _ ha (by omega), show 4238682002231055 = 256 * 16557351571215 + 15 from rfl, and_join _ _ _ _ hb (by omega), show 16557351571215 = 256 * 64677154575 + 15 from rfl, and_join _ _ _ _ hc (by omega),
    show 64677154575 = 256 * 252645135 + 15 from rfl, and_join _ _ _ _ hd (by omega), show 252645135 = 256 * 986895 + 15 from rfl, and_join _ _ _ _ he (by omega), show 986895 = 256 * 3855 + 15 from rfl, and_join _ _ _ _ hf (by omega), show 3855 = 256 * 15 + 15 from rfl, and_join _ _ _ _ hg (by omega)]
  rw [and15 a ha, and15 b hb, and15 c hc, and15 d hd, and15 e he, and15 f hf, and15 g hg, and15 h hh]

theorem by8_lt (a b c d e f g h : Nat) (ha : a < 256) (hb : b < 256) (hc : c < 256) (hd : d < 256) (he : e < 256) (hf : f < 256) (hg : g < 256) (hh : h < 256) : by8 a b c d e f g h < 18446744073709551616 := by unfold by8; omega
theorem by8_of (x : Nat) (hx : x < 18446744073709551616) : x = by8 (x % 256) (x / 256 % 256) (x / 65536 % 256) (x / 16777216 % 256) (x / 4294967296 % 256) (x / 1099511627776 % 256) (x / 281474976710656 % 256) (x / 72057594037927936 % 256) := by unfold by8; omega
theorem s4_8 (a b c d e f g h : Nat) (ha : a ≤ 8) (hb : b ≤ 8) (hc : c ≤ 8) (hd : d ≤ 8) (he : e ≤ 8) (hf : f ≤ 8) (hg : g ≤ 8) (hh : h ≤ 8) : s4 (by8 a b c d e f g h) = by8 (a + b) (b + c) (c + d) (d + e) (e + f) (f + g) (g + h) (h) := by unfold s4 by8; omega
theorem s5_8 (a b c d e f g h : Nat) (ha : a ≤ 16) (hb : b ≤ 16) (hc : c ≤ 16) (hd : d ≤ 16) (he : e ≤ 16) (hf : f ≤ 16) (hg : g ≤ 16) (hh : h ≤ 16) : s5 (by8 a b c d e f g h) = by8 (a + c) (b + d) (c + e) (d + f) (e + g) (f + h) (g) (h) := by
  have e : (256 * (256 * (256 * (256 * (256 * (256 * (256 * h + g) + f) + e) + d) + c) + b) + a) / 65536 = (256 * (256 * (256 * (256 * (256 * h + g) + f) + e) + d) + c) := by omega
  unfold s5 by8
  rw [e, Nat.mod_eq_of_lt (by omega)]
  omega
theorem s6_8 (a b c d e f g h : Nat) (ha : a ≤ 32) (hb : b ≤ 32) (hc : c ≤ 32) (hd : d ≤ 32) (he : e ≤ 32) (hf : f ≤ 32) (hg : g ≤ 32) (hh : h ≤ 32) : s6 (by8 a b c d e f g h) = by8 (a + e) (b + f) (c + g) (d + h) (e) (f) (g) (h) := by
  have e : (256 * (256 * (256 * (256 * (256 * (256 * (256 * h + g) + f) + e) + d) + c) + b) + a) / 4294967296 = (256 * (256 * (256 * h + g) + f) + e) := by omega
  unfold s6 by8
  rw [e, Nat.mod_eq_of_lt (by omega)]
  omega
theorem last_8 (a b c d e f g h : Nat) : by8 a b c d e f g h % 128 = a % 128 := by unfold by8; omega
theorem half_8 (p0 p1 p2 p3 p4 p5 p6 p7 q0 q1 q2 q3 q4 q5 q6 q7 : Nat) (hp0 : p0 ≤ 4) (hq0 : q0 ≤ 4) (hp1 : p1 ≤ 4) (hq1 : q1 ≤ 4) (hp2 : p2 ≤ 4) (hq2 : q2 ≤ 4) (hp3 : p3 ≤ 4) (hq3 : q3 ≤ 4) (hp4 : p4 ≤ 4) (hq4 : q4 ≤ 4) (hp5 : p5 ≤ 4) (hq5 : q5 ≤ 4) (hp6 : p6 ≤ 4) (hq6 : q6 ≤ 4) (hp7 : p7 ≤ 4) (hq7 : q7 ≤ 4) : (by8 (16 * p0 + q0) (16 * p1 + q1) (16 * p2 + q2) (16 * p3 + q3) (16 * p4 + q4) (16 * p5 + q5) (16 * p6 + q6) (16 * p7 + q7) / 16 + by8 (16 * p0 + q0) (16 * p1 + q1) (16 * p2 + q2) (16 * p3 + q3) (16 * p4 + q4) (16 * p5 + q5) (16 * p6 + q6) (16 * p7 + q7)) % 18446744073709551616 = by8 (17 * p0 + q0 + 16 * q1) (17 * p1 + q1 + 16 * q2) (17 * p2 + q2 + 16 * q3) (17 * p3 + q3 + 16 * q4) (17 * p4 + q4 + 16 * q5) (17 * p5 + q5 + 16 * q6) (17 * p6 + q6 + 16 * q7) (17 * p7 + q7) := by unfold by8; omega
theorem s3_8 (a b c d e f g h : Nat) (ha : a % 16 ≤ 4 ∧ a / 16 ≤ 4) (hb : b % 16 ≤ 4 ∧ b / 16 ≤ 4) (hc : c % 16 ≤ 4 ∧ c / 16 ≤ 4) (hd : d % 16 ≤ 4 ∧ d / 16 ≤ 4) (he : e % 16 ≤ 4 ∧ e / 16 ≤ 4) (hf : f % 16 ≤ 4 ∧ f / 16 ≤ 4) (hg : g % 16 ≤ 4 ∧ g / 16 ≤ 4) (hh : h % 16 ≤ 4 ∧ h / 16 ≤ 4) : s3 (by8 a b c d e f g h) = by8 ((a + a / 16) % 16) ((b + b / 16) % 16) ((c + c / 16) % 16) ((d + d / 16) % 16) ((e + e / 16) % 16) ((f + f / 16) % 16) ((g + g / 16) % 16) ((h + h / 16) % 16) := by
  unfold s3
  have H := half_8 (a / 16) (b / 16) (c / 16) (d / 16) (e / 16) (f / 16) (g / 16) (h / 16) (a % 16) (b % 16) (c % 16) (d % 16) (e % 16) (f % 16) (g % 16) (h % 16) ha.2 ha.1 hb.2 hb.1 hc.2 hc.1 hd.2 hd.1 he.2 he.1 hf.2 hf.1 hg.2 hg.1 hh.2 hh.1
  rw [show 16 * (a / 16) + a % 16 = a from by omega, show 16 * (b / 16) + b % 16 = b from by omega, show 16 * (c / 16) + c % 16 = c from by omega, show 16 * (d / 16) + d % 16 = d from by omega, show 16 * (e / 16) + e % 16 = e from by omega, show 16 * (f / 16) + f % 16 = f from by omega, show 16 * (g / 16) + g % 16 = g from by omega, show 16 * (h / 16) + h % 16 = h from by omega] at H
  rw [H, and15_8 _ _ _ _ _ _ _ _ (by omega) (by omega) (by omega) (by omega) (by omega) (by omega) (by omega) (by omega)]
  congr 1 <;> omega
theorem s1_8 (a b c d e f g h : Nat) (ha : a < 256) (hb : b < 256) (hc : c < 256) (hd : d < 256) (he : e < 256) (hf : f < 256) (hg : g < 256) (hh : h < 256) : s1 (by8 a b c d e f g h) = by8 (t1 a) (t1 b) (t1 c) (t1 d) (t1 e) (t1 f) (t1 g) (t1 h) := by
  show g1 6148914691236517205 (by8 a b c d e f g h) % 18446744073709551616 = _
  rw [g1_8 _ _ _ _ _ _ _ _ ha hb hc hd he hf hg hh]
  exact Nat.mod_eq_of_lt (by8_lt _ _ _ _ _ _ _ _ (byte_ok _ ha).1 (byte_ok _ hb).1 (byte_ok _ hc).1 (byte_ok _ hd).1 (byte_ok _ he).1 (byte_ok _ hf).1 (byte_ok _ hg).1 (byte_ok _ hh).1)
theorem t2_lt {c : Nat} (h : c < 256) : t2 (t1 c) < 256 := by have := byte_ok c h; omega
theorem s2_8 (a b c d e f g h : Nat) (ha : a < 256) (hb : b < 256) (hc : c < 256) (hd : d < 256) (he : e < 256) (hf : f < 256) (hg : g < 256) (hh : h < 256) : s2 (by8 (t1 a) (t1 b) (t1 c) (t1 d) (t1 e) (t1 f) (t1 g) (t1 h)) = by8 (t2 (t1 a)) (t2 (t1 b)) (t2 (t1 c)) (t2 (t1 d)) (t2 (t1 e)) (t2 (t1 f)) (t2 (t1 g)) (t2 (t1 h)) := by
  show g2 3689348814741910323 (by8 _ _ _ _ _ _ _ _) % 18446744073709551616 = _
  rw [g2_8 _ _ _ _ _ _ _ _ (byte_ok _ ha).1 (byte_ok _ hb).1 (byte_ok _ hc).1 (byte_ok _ hd).1 (byte_ok _ he).1 (byte_ok _ hf).1 (byte_ok _ hg).1 (byte_ok _ hh).1]
  exact Nat.mod_eq_of_lt (by8_lt _ _ _ _ _ _ _ _ (t2_lt ha) (t2_lt hb) (t2_lt hc) (t2_lt hd) (t2_lt he) (t2_lt hf) (t2_lt hg) (t2_lt hh))
theorem ones_8 (a b c d e f g h : Nat) (ha : a < 256) (hb : b < 256) (hc : c < 256) (hd : d < 256) (he : e < 256) (hf : f < 256) (hg : g < 256) (hh : h < 256) : onesF (by8 a b c d e f g h) = pop 8 a + pop 8 b + pop 8 c + pop 8 d + pop 8 e + pop 8 f + pop 8 g + pop 8 h := by
  have B := fun x (hx : x < 256) => (byte_ok x hx).2
  rw [onesF_eq, s1_8 _ _ _ _ _ _ _ _ ha hb hc hd he hf hg hh, s2_8 _ _ _ _ _ _ _ _ ha hb hc hd he hf hg hh,
    s3_8 _ _ _ _ _ _ _ _ ⟨(B _ ha).1, (B _ ha).2.1⟩ ⟨(B _ hb).1, (B _ hb).2.1⟩ ⟨(B _ hc).1, (B _ hc).2.1⟩ ⟨(B _ hd).1, (B _ hd).2.1⟩ ⟨(B _ he).1, (B _ he).2.1⟩ ⟨(B _ hf).1, (B _ hf).2.1⟩ ⟨(B _ hg).1, (B _ hg).2.1⟩ ⟨(B _ hh).1, (B _ hh).2.1⟩,
    (B a ha).2.2.1, (B b hb).2.2.1, (B c hc).2.2.1, (B d hd).2.2.1, (B e he).2.2.1, (B f hf).2.2.1, (B g hg).2.2.1, (B h hh).2.2.1]
  have ka := (B a ha).2.2.2
  have kb := (B b hb).2.2.2
  have kc := (B c hc).2.2.2
  have kd := (B d hd).2.2.2
  have ke := (B e he).2.2.2
  have kf := (B f hf).2.2.2
  have kg := (B g hg).2.2.2
  have kh := (B h hh).2.2.2
  generalize pop 8 a = za at *
  generalize pop 8 b = zb at *
  generalize pop 8 c = zc at *
  generalize pop 8 d = zd at *
  generalize pop 8 e = ze at *
  generalize pop 8 f = zf at *
  generalize pop 8 g = zg at *
  generalize pop 8 h = zh at *
  rw [s4_8 _ _ _ _ _ _ _ _ ka kb kc kd ke kf kg kh, s5_8 _ _ _ _ _ _ _ _ (by omega) (by omega) (by omega) (by omega) (by omega) (by omega) (by omega) (by omega), s6_8 _ _ _ _ _ _ _ _ (by omega) (by omega) (by omega) (by omega) (by omega) (by omega) (by omega) (by omega), last_8]
  omega
theorem pop_8 (x : Nat) : pop 64 x = pop 8 (x % 256) + pop 8 (x / 256 % 256) + pop 8 (x / 65536 % 256) + pop 8 (x / 16777216 % 256) + pop 8 (x / 4294967296 % 256) + pop 8 (x / 1099511627776 % 256) + pop 8 (x / 281474976710656 % 256) + pop 8 (x / 72057594037927936 % 256) := by
  rw [pop_byte 56, pop_byte 48, pop_byte 40, pop_byte 32, pop_byte 24, pop_byte 16, pop_byte 8]
  have p8 : ∀ y, pop 8 y = pop 8 (y % 256) := fun y => pop_byte 0 y
  simp only [Nat.div_div_eq_div_mul, Nat.reduceMul, Nat.add_assoc]
  rw [p8 (x / 72057594037927936)]
theorem onesF_pop (x : Nat) (hx : x < 18446744073709551616) : onesF x = pop 64 x := by
  rw [pop_8]
  have e := by8_of x hx
  have H := ones_8 (x % 256) (x / 256 % 256) (x / 65536 % 256) (x / 16777216 % 256) (x / 4294967296 % 256) (x / 1099511627776 % 256) (x / 281474976710656 % 256) (x / 72057594037927936 % 256) (by omega) (by omega) (by omega) (by omega) (by omega) (by omega) (by omega) (by omega)
  rw [← e] at H
  exact H

theorem bnums_pop (a : Int) (x : Nat) : (bnums a x).length = pop 64 x := by unfold bnums; rw [List.length_map]; exact pop_range 64 x
/-- Len says how many numbers All has. -/
theorem lenF_all {L : Bks} (hg : Good L) : lenF L = (allF L).length := by
  induction L with
  | nil => rfl
  | cons p L ih =>
    have h := (hg.2 p (by simp)).2.2.2
    unfold two64 at h
    have ih := ih hg.tail
    show onesF p.2 + lenF L = (allF (p :: L)).length
    unfold allF at *
    rw [List.flatMap_cons, List.length_append, bnums_pop, onesF_pop _ h, ih]
theorem mem_bnums (a m : Int) (x : Nat) : m ∈ bnums a x ↔ m / 64 = a ∧ x.testBit (m % 64).toNat = true := by
  unfold bnums
  simp only [List.mem_map, List.mem_filter, List.mem_range]
  constructor
  · rintro ⟨i, ⟨h1, h2⟩, rfl⟩
    refine ⟨by omega, ?_⟩
    rw [show ((a * 64 + (i : Int)) % 64).toNat = i from by omega]; exact h2
  · rintro ⟨rfl, h⟩
    exact ⟨_, ⟨by omega, h⟩, by omega⟩
theorem mem_allF {L : Bks} (hg : Good L) (m : Int) : m ∈ allF L ↔ has L m = true := by
  unfold allF
  simp only [List.mem_flatMap, mem_bnums]
  constructor
  · rintro ⟨p, hp, h1, h2⟩
    unfold has
    rw [h1, look_of_mem hg hp]; exact h2
  · intro h
    unfold has at h
    have h0 : look L (m / 64) ≠ 0 := fun e => by rw [e] at h; simp at h
    exact ⟨_, look_mem h0, rfl, h⟩
theorem rise_bnums (a : Int) (x : Nat) : (bnums a x).Pairwise (· < ·) := by
  unfold bnums
  rw [List.pairwise_map]
  exact (List.pairwise_lt_range.filter _).imp (fun h => by omega)
theorem rise_allF {L : Bks} (hg : Good L) : (allF L).Pairwise (· < ·) := by
  unfold allF
  rw [List.pairwise_flatMap]
  refine ⟨fun p _ => rise_bnums _ _, hg.1.imp ?_⟩
  intro p q h x hx y hy
  have h1 := ((mem_bnums _ _ _).1 hx).1
  have h2 := ((mem_bnums _ _ _).1 hy).1
  omega
theorem rise_ext {l k : List Int} (hl : l.Pairwise (· < ·)) (hk : k.Pairwise (· < ·)) (h : ∀ m, m ∈ l ↔ m ∈ k) : l = k := by
  induction l generalizing k with
  | nil =>
    cases k with
    | nil => rfl
    | cons y k => exact absurd ((h y).2 (by simp)) (by simp)
  | cons x l ih =>
    cases k with
    | nil => exact absurd ((h x).1 (by simp)) (by simp)
    | cons y k =>
      have a1 := List.pairwise_cons.1 hl
      have a2 := List.pairwise_cons.1 hk
      have e : x = y := by
        have m1 := (h x).1 (by simp)
        have m2 := (h y).2 (by simp)
        rcases List.mem_cons.1 m1 with e | e
        · exact e
        · rcases List.mem_cons.1 m2 with e2 | e2
          · exact e2.symm
          · have := a1.1 y e2; have := a2.1 x e; omega
      subst e
      congr 1
      refine ih a1.2 a2.2 fun m => ?_
      constructor
      · intro hm
        have := a1.1 m hm
        rcases List.mem_cons.1 ((h m).1 (List.mem_cons_of_mem _ hm)) with e | e
        · omega
        · exact e
      · intro hm
        have := a2.1 m hm
        rcases List.mem_cons.1 ((h m).2 (List.mem_cons_of_mem _ hm)) with e | e
        · omega
        · exact e
end Go.Proofs.YtkkkglmjipnfaaaDoor
