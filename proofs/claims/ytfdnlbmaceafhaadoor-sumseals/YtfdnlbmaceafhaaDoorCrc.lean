/-
  The sum of bytes as a function of numbers: bit by bit, byte by byte, by tables of half bytes: all one; it goes with 'exclusive or'; bits that are turned within 32 turn it. Plain arithmetic, no conditions beyond those in each theorem.
-/
import Derived.Laws.BitsAllLaws
import Derived.Laws.Bits64
import Derived.Laws.BitsLemmas
import Derived.RowKit
namespace Go.Proofs.YtfdnlbmaceafhaaDoor
open Go.RowKit

/-- One bit further. -/
def stepB (r : BitVec 32) : BitVec 32 := if r.msb then (r <<< 1) ^^^ 79764919#32 else r <<< 1

theorem stepB_xor (a b : BitVec 32) : stepB (a ^^^ b) = stepB a ^^^ stepB b := by
  unfold stepB
  rw [BitVec.msb_xor, BitVec.shiftLeft_xor_distrib]
  cases a.msb <;> cases b.msb <;> simp only [Bool.bne_false, Bool.bne_true, Bool.not_false, Bool.false_eq_true, if_false, if_true, bne_self_eq_false]
  · ac_rfl
  · ac_rfl
  · have : (a <<< 1 ^^^ 79764919#32) ^^^ (b <<< 1 ^^^ 79764919#32) = (a <<< 1 ^^^ b <<< 1) ^^^ (79764919#32 ^^^ 79764919#32) := by ac_rfl
    rw [this, BitVec.xor_self, BitVec.xor_zero]
theorem stepB_0 : stepB 0#32 = 0#32 := by decide
theorem stepB_inj0 (a : BitVec 32) (h : stepB a = 0#32) : a = 0#32 := by
  unfold stepB at h
  cases hm : a.msb
  · rw [hm] at h
    simp only [Bool.false_eq_true, if_false] at h
    have h1 : (a <<< 1).toNat = 0 := by rw [h]; rfl
    rw [BitVec.toNat_shiftLeft] at h1
    have h2 : a.toNat < 2 ^ 31 := by
      have := BitVec.msb_eq_false_iff_two_mul_lt.1 hm
      omega
    apply BitVec.eq_of_toNat_eq
    rw [Nat.shiftLeft_eq] at h1
    simp only [BitVec.toNat_ofNat]
    omega
  · rw [hm] at h
    simp only [if_true] at h
    have h1 : ((a <<< 1) ^^^ 79764919#32).getLsbD 0 = false := by rw [h]; rfl
    rw [BitVec.getLsbD_xor] at h1
    simp at h1
theorem stepB_inj {a b : BitVec 32} (h : stepB a = stepB b) : a = b := by
  have h1 : stepB (a ^^^ b) = 0#32 := by rw [stepB_xor, h, BitVec.xor_self]
  have h2 := stepB_inj0 _ h1
  have h3 := congrArg (· ^^^ b) h2
  simpa [BitVec.xor_assoc] using h3

/-- So many bits further. -/
def steps : Nat → BitVec 32 → BitVec 32
  | 0, r => r
  | n + 1, r => steps n (stepB r)
theorem steps_xor (n : Nat) : ∀ a b, steps n (a ^^^ b) = steps n a ^^^ steps n b := by
  induction n with
  | zero => intro a b; rfl
  | succ n ih => intro a b; simp only [steps]; rw [stepB_xor, ih]
theorem steps_0 (n : Nat) : steps n 0#32 = 0#32 := by
  induction n with
  | zero => rfl
  | succ n ih => simp only [steps]; rw [stepB_0, ih]
theorem steps_inj0 (n : Nat) : ∀ a, steps n a = 0#32 → a = 0#32 := by
  induction n with
  | zero => intro a h; exact h
  | succ n ih => intro a h; exact stepB_inj0 a (ih _ h)
theorem steps_add (m n : Nat) : ∀ r, steps (m + n) r = steps n (steps m r) := by
  induction m with
  | zero => intro r; simp [steps]
  | succ m ih => intro r; rw [Nat.add_right_comm]; simp only [steps]; rw [ih]

/-- A byte at the high end. -/
def top (b : Nat) : BitVec 32 := BitVec.ofNat 32 b <<< 24
/-- One byte further. -/
def stepC (r : BitVec 32) (b : Nat) : BitVec 32 := steps 8 (r ^^^ top b)
/-- The sum, from r on. -/
def crc (r : BitVec 32) (l : List Nat) : BitVec 32 := l.foldl stepC r

theorem top_xor (a b : Nat) : top (a ^^^ b) = top a ^^^ top b := by
  unfold top
  rw [BitVec.ofNat_xor, BitVec.shiftLeft_xor_distrib]
theorem xor4 (r s x y : BitVec 32) : r ^^^ s ^^^ (x ^^^ y) = r ^^^ x ^^^ (s ^^^ y) := by ac_rfl
theorem stepC_xor (r s : BitVec 32) (a b : Nat) : stepC (r ^^^ s) (a ^^^ b) = stepC r a ^^^ stepC s b := by
  unfold stepC
  rw [← steps_xor, top_xor]
  rw [xor4]
theorem crc_xor : ∀ (l m : List Nat) (r s : BitVec 32), l.length = m.length → crc (r ^^^ s) (l.zipWith (· ^^^ ·) m) = crc r l ^^^ crc s m
  | [], [], r, s, _ => rfl
  | [], _ :: _, _, _, h => by simp at h
  | _ :: _, [], _, _, h => by simp at h
  | a :: l, b :: m, r, s, h => by
    show crc (stepC (r ^^^ s) (a ^^^ b)) (l.zipWith (· ^^^ ·) m) = crc (stepC r a) l ^^^ crc (stepC s b) m
    rw [stepC_xor]
    exact crc_xor l m _ _ (by simpa using h)
theorem crc_append (l m : List Nat) (r : BitVec 32) : crc r (l ++ m) = crc (crc r l) m := List.foldl_append
theorem crc_0 (n : Nat) : crc 0#32 (List.replicate n 0) = 0#32 := by
  induction n with
  | zero => rfl
  | succ n ih =>
    show crc (stepC 0#32 0) (List.replicate n 0) = 0#32
    have : stepC 0#32 0 = 0#32 := by unfold stepC; rw [show (0#32 ^^^ top 0) = 0#32 from by decide, steps_0]
    rw [this, ih]

/-! ### Half bytes, by the table. -/
def tab : List Nat := [0, 79764919, 159529838, 222504665, 319059676, 398814059, 445009330, 507990021, 638119352, 583659535, 797628118, 726387553, 890018660, 835552979, 1015980042, 944750013]
theorem tab_all : ∀ h : Fin 16, steps 4 (BitVec.ofNat 32 h.val <<< 28) = BitVec.ofNat 32 (tab.getD h.val 0) := by decide +kernel
theorem step_low (r : BitVec 32) (h : r.toNat < 2147483648) : stepB r = r <<< 1 := by
  unfold stepB
  have : r.msb = false := BitVec.msb_eq_false_iff_two_mul_lt.2 (by omega)
  rw [this]; rfl
theorem steps_low (r : BitVec 32) (h : r.toNat < 268435456) : steps 4 r = r <<< 4 := by
  have e : ∀ (x : BitVec 32) (k : Nat), x.toNat < 2 ^ (31 - k) → k < 31 → (x <<< 1).toNat = 2 * x.toNat := by
    intro x k hx hk
    rw [BitVec.toNat_shiftLeft, Nat.shiftLeft_eq]
    have : (2 : Nat) ^ (31 - k) ≤ 2 ^ 31 := Nat.pow_le_pow_right (by omega) (by omega)
    omega
  have e1 := e r 3 (by simpa using h) (by omega)
  have e2 := e (r <<< 1) 2 (by rw [e1]; omega) (by omega)
  have e3 := e (r <<< 1 <<< 1) 1 (by rw [e2, e1]; omega) (by omega)
  simp only [steps]
  rw [step_low r (by omega), step_low (r <<< 1) (by omega), step_low (r <<< 1 <<< 1) (by omega), step_low (r <<< 1 <<< 1 <<< 1) (by omega)]
  rw [← BitVec.shiftLeft_add, ← BitVec.shiftLeft_add, ← BitVec.shiftLeft_add]
theorem split_bits (r : BitVec 32) : r = (r >>> 28 <<< 28) ^^^ (r <<< 4 >>> 4) := by
  apply BitVec.eq_of_getLsbD_eq
  intro i hi
  rw [BitVec.getLsbD_xor, BitVec.getLsbD_shiftLeft, BitVec.getLsbD_ushiftRight, BitVec.getLsbD_ushiftRight, BitVec.getLsbD_shiftLeft]
  by_cases h : i < 28
  · simp [h, hi, show 4 + i < 32 by omega, show ¬ (4 + i < 4) by omega]
  · simp [h, hi, show ¬ (4 + i < 32) by omega, show 28 + (i - 28) = i by omega]
theorem split_nib (r : BitVec 32) : r = (BitVec.ofNat 32 (r.toNat / 268435456) <<< 28) ^^^ BitVec.ofNat 32 (r.toNat % 268435456) := by
  have hr := r.isLt
  have e1 : r >>> 28 = BitVec.ofNat 32 (r.toNat / 268435456) := by
    apply BitVec.eq_of_toNat_eq
    rw [BitVec.toNat_ushiftRight, BitVec.toNat_ofNat, Nat.shiftRight_eq_div_pow]
    omega
  have e2 : r <<< 4 >>> 4 = BitVec.ofNat 32 (r.toNat % 268435456) := by
    apply BitVec.eq_of_toNat_eq
    rw [BitVec.toNat_ushiftRight, BitVec.toNat_shiftLeft, BitVec.toNat_ofNat, Nat.shiftRight_eq_div_pow, Nat.shiftLeft_eq]
    omega
  conv => lhs; rw [split_bits r, e1, e2]
theorem steps_nib (r : BitVec 32) : steps 4 r = (r <<< 4) ^^^ BitVec.ofNat 32 (tab.getD (r.toNat / 268435456) 0) := by
  have hr := r.isLt
  have h1 := tab_all ⟨r.toNat / 268435456, by omega⟩
  have h2 := steps_low (BitVec.ofNat 32 (r.toNat % 268435456)) (by rw [BitVec.toNat_ofNat]; omega)
  have h3 : (BitVec.ofNat 32 (r.toNat % 268435456)) <<< 4 = r <<< 4 := by
    apply BitVec.eq_of_toNat_eq
    rw [BitVec.toNat_shiftLeft, BitVec.toNat_shiftLeft, BitVec.toNat_ofNat, Nat.shiftLeft_eq, Nat.shiftLeft_eq]
    omega
  conv => lhs; rw [split_nib r, steps_xor, h1, h2, h3]
  rw [BitVec.xor_comm]

/-! ### Bit by bit. -/
/-- The i-th bit of some bytes, the highest of each first. -/
def bitOf (l : List Nat) (i : Nat) : Nat := l.getD (i / 8) 0 / 2 ^ (7 - i % 8) % 2
def ones : BitVec 32 := 4294967295#32
/-- A bit at the high end. -/
def bitTop (b : Nat) : BitVec 32 := BitVec.ofNat 32 b <<< 31
/-- The sum's rest behind so many bits. -/
def bsum (l : List Nat) : Nat → BitVec 32
  | 0 => ones
  | i + 1 => stepB (bsum l i ^^^ bitTop (bitOf l i))

def feed (r : BitVec 32) (us : List (BitVec 32)) : BitVec 32 := us.foldl (fun r u => stepB (r ^^^ u)) r
theorem xor_left (a b c : BitVec 32) : a ^^^ b ^^^ c = a ^^^ (b ^^^ c) := by ac_rfl
theorem feed_split : ∀ (us : List (BitVec 32)) (r : BitVec 32), feed r us = steps us.length r ^^^ feed 0#32 us
  | [], r => by show r = r ^^^ 0#32; simp
  | u :: us, r => by
    show feed (stepB (r ^^^ u)) us = steps us.length (stepB r) ^^^ feed (stepB (0#32 ^^^ u)) us
    rw [feed_split us (stepB (r ^^^ u)), feed_split us (stepB (0#32 ^^^ u)), stepB_xor, steps_xor, BitVec.zero_xor, xor_left]
/-- A byte's bits, the highest first, each at the high end. -/
def eight (b : Nat) : List (BitVec 32) := [bitTop (b / 128 % 2), bitTop (b / 64 % 2), bitTop (b / 32 % 2), bitTop (b / 16 % 2), bitTop (b / 8 % 2), bitTop (b / 4 % 2), bitTop (b / 2 % 2), bitTop (b / 1 % 2)]
theorem eight_all : ∀ b : Fin 256, feed 0#32 (eight b.val) = steps 8 (top b.val) := by decide +kernel
theorem feed_byte (r : BitVec 32) (b : Nat) (h : b < 256) : feed r (eight b) = stepC r b := by
  rw [feed_split, eight_all ⟨b, h⟩]
  show steps 8 r ^^^ steps 8 (top b) = _
  rw [← steps_xor]; rfl
theorem bsum_byte (l : List Nat) (k : Nat) : bsum l (8 * k + 8) = feed (bsum l (8 * k)) (eight (l.getD k 0)) := by
  have hb : ∀ j, j < 8 → bitOf l (8 * k + j) = l.getD k 0 / 2 ^ (7 - j) % 2 := by
    intro j hj
    unfold bitOf
    rw [show (8 * k + j) / 8 = k from by omega, show (8 * k + j) % 8 = j from by omega]
  have h0 := hb 0 (by omega)
  have h1 := hb 1 (by omega)
  have h2 := hb 2 (by omega)
  have h3 := hb 3 (by omega)
  have h4 := hb 4 (by omega)
  have h5 := hb 5 (by omega)
  have h6 := hb 6 (by omega)
  have h7 := hb 7 (by omega)
  clear hb
  have e : ∀ i, bsum l (i + 1) = stepB (bsum l i ^^^ bitTop (bitOf l i)) := fun _ => rfl
  rw [show 8 * k + 8 = (8 * k + 7) + 1 from rfl, e, h7, show 8 * k + 7 = (8 * k + 6) + 1 from rfl, e, h6, show 8 * k + 6 = (8 * k + 5) + 1 from rfl, e, h5, show 8 * k + 5 = (8 * k + 4) + 1 from rfl, e, h4,
    show 8 * k + 4 = (8 * k + 3) + 1 from rfl, e, h3, show 8 * k + 3 = (8 * k + 2) + 1 from rfl, e, h2, show 8 * k + 2 = (8 * k + 1) + 1 from rfl, e, h1, e, show bitOf l (8 * k) = l.getD k 0 / 2 ^ (7 - 0) % 2 from h0]
  rfl
theorem bsum_bytes (l : List Nat) (hl : ∀ x ∈ l, x < 256) : ∀ k, k ≤ l.length → bsum l (8 * k) = crc ones (l.take k) := by
  intro k
  induction k with
  | zero => intro _; rfl
  | succ k ih =>
    intro hk
    rw [show 8 * (k + 1) = 8 * k + 8 from by omega, bsum_byte, ih (by omega), feed_byte _ _ (hl _ (by simp [show k < l.length by omega]))]
    rw [List.take_succ_eq_append_getElem (by omega), crc_append]
    simp [crc, show k < l.length by omega]
theorem bsum_all (l : List Nat) (hl : ∀ x ∈ l, x < 256) : bsum l (8 * l.length) = crc ones l := by
  rw [bsum_bytes l hl _ (Nat.le_refl _), List.take_length]

theorem stepB_bit (r : BitVec 32) (b : Nat) (hb : b < 2) : stepB (r ^^^ bitTop b) = if r.toNat / 2147483648 ≠ b then (r <<< 1) ^^^ 79764919#32 else r <<< 1 := by
  have hr := r.isLt
  have hs : (r ^^^ bitTop b) <<< 1 = r <<< 1 := by
    rw [BitVec.shiftLeft_xor_distrib]
    have : bitTop b <<< 1 = 0#32 := by
      rcases (show b = 0 ∨ b = 1 by omega) with rfl | rfl <;> decide
    rw [this, BitVec.xor_zero]
  unfold stepB
  rw [hs, BitVec.msb_xor]
  have hm : r.msb = decide (r.toNat / 2147483648 = 1) := by
    rw [BitVec.msb_eq_decide]
    rw [decide_eq_decide]
    omega
  rcases (show b = 0 ∨ b = 1 by omega) with rfl | rfl
  · rw [show (bitTop 0).msb = false from by decide, Bool.xor_false, hm]
    by_cases h : r.toNat / 2147483648 = 1
    · simp [h]
    · have h0 : r.toNat / 2147483648 = 0 := by omega
      simp [h0]
  · rw [show (bitTop 1).msb = true from by decide, Bool.xor_true, hm]
    by_cases h : r.toNat / 2147483648 = 1
    · simp [h]
    · have h0 : r.toNat / 2147483648 = 0 := by omega
      simp [h0]

/-! ### The sum behind the bytes; bits that are turned. -/
/-- The sum's four bytes. -/
def four (r : BitVec 32) : List Nat := [r.toNat / 16777216, r.toNat / 65536 % 256, r.toNat / 256 % 256, r.toNat % 256]
theorem steps_low8 (r : BitVec 32) (h : r.toNat < 16777216) : steps 8 r = r <<< 8 := by
  have h4 : (r <<< 4).toNat = 16 * r.toNat := by
    rw [BitVec.toNat_shiftLeft, Nat.shiftLeft_eq]; omega
  rw [steps_add 4 4, steps_low r (by omega), steps_low (r <<< 4) (by omega), ← BitVec.shiftLeft_add]
theorem top_toNat (b : Nat) (h : b < 256) : (top b).toNat = b * 16777216 := by
  unfold top
  rw [BitVec.toNat_shiftLeft, BitVec.toNat_ofNat, Nat.shiftLeft_eq]
  omega
theorem split_top (r : BitVec 32) : r = (r >>> 24 <<< 24) ^^^ (r <<< 8 >>> 8) := by
  apply BitVec.eq_of_getLsbD_eq
  intro i hi
  rw [BitVec.getLsbD_xor, BitVec.getLsbD_shiftLeft, BitVec.getLsbD_ushiftRight, BitVec.getLsbD_ushiftRight, BitVec.getLsbD_shiftLeft]
  by_cases h : i < 24
  · simp [h, hi, show 8 + i < 32 by omega, show ¬ (8 + i < 8) by omega]
  · simp [h, hi, show ¬ (8 + i < 32) by omega, show 24 + (i - 24) = i by omega]
theorem stepC_own (r : BitVec 32) : stepC r (r.toNat / 16777216) = r <<< 8 := by
  have hr := r.isLt
  have e1 : r >>> 24 <<< 24 = top (r.toNat / 16777216) := by
    unfold top
    congr 1
    apply BitVec.eq_of_toNat_eq
    rw [BitVec.toNat_ushiftRight, BitVec.toNat_ofNat, Nat.shiftRight_eq_div_pow]
    omega
  have e2 : (r <<< 8 >>> 8).toNat = r.toNat % 16777216 := by
    rw [BitVec.toNat_ushiftRight, BitVec.toNat_shiftLeft, Nat.shiftRight_eq_div_pow, Nat.shiftLeft_eq]
    omega
  have e3 : r ^^^ top (r.toNat / 16777216) = r <<< 8 >>> 8 := by
    have h := split_top r
    rw [e1] at h
    have h2 : ∀ t y : BitVec 32, t ^^^ y ^^^ t = y := fun t y => by rw [BitVec.xor_comm, ← BitVec.xor_assoc, BitVec.xor_self, BitVec.zero_xor]
    have h3 := h2 (top (r.toNat / 16777216)) (r <<< 8 >>> 8)
    rw [← h] at h3
    exact h3
  unfold stepC
  rw [e3, steps_low8 _ (by rw [e2]; omega)]
  apply BitVec.eq_of_toNat_eq
  rw [BitVec.toNat_shiftLeft, e2, BitVec.toNat_shiftLeft, Nat.shiftLeft_eq, Nat.shiftLeft_eq]
  omega
theorem four_crc (r : BitVec 32) : crc r (four r) = 0#32 := by
  have hr := r.isLt
  have h1 : (r <<< 8).toNat / 16777216 = r.toNat / 65536 % 256 := by
    rw [BitVec.toNat_shiftLeft, Nat.shiftLeft_eq]; omega
  have h2 : (r <<< 16).toNat / 16777216 = r.toNat / 256 % 256 := by
    rw [BitVec.toNat_shiftLeft, Nat.shiftLeft_eq]; omega
  have h3 : (r <<< 24).toNat / 16777216 = r.toNat % 256 := by
    rw [BitVec.toNat_shiftLeft, Nat.shiftLeft_eq]; omega
  show stepC (stepC (stepC (stepC r (r.toNat / 16777216)) (r.toNat / 65536 % 256)) (r.toNat / 256 % 256)) (r.toNat % 256) = 0#32
  rw [stepC_own r, ← h1, stepC_own (r <<< 8), ← BitVec.shiftLeft_add, ← h2, stepC_own (r <<< 16), ← BitVec.shiftLeft_add, ← h3, stepC_own (r <<< 24), ← BitVec.shiftLeft_add]
  apply BitVec.eq_of_toNat_eq
  rw [BitVec.toNat_shiftLeft, Nat.shiftLeft_eq]
  show r.toNat * 4294967296 % 4294967296 = 0
  omega
theorem four_len (r : BitVec 32) : (four r).length = 4 := rfl
theorem four_lt (r : BitVec 32) : ∀ x ∈ four r, x < 256 := by
  have := r.isLt
  intro x hx
  simp [four] at hx
  omega
/-- Four bytes as a number, the highest first. -/
def told (m : List Nat) : Nat := m.getD 0 0 * 16777216 + m.getD 1 0 * 65536 + m.getD 2 0 * 256 + m.getD 3 0
theorem four_of_told (m : List Nat) (hl : m.length = 4) (hb : ∀ x ∈ m, x < 256) (r : BitVec 32) : r.toNat = told m ↔ m = four r := by
  obtain ⟨a, b, c, d, rfl⟩ : ∃ a b c d, m = [a, b, c, d] := by
    match m, hl with
    | [a, b, c, d], _ => exact ⟨a, b, c, d, rfl⟩
  have ha := hb a (by simp)
  have h2 := hb b (by simp)
  have h3 := hb c (by simp)
  have h4 := hb d (by simp)
  simp only [told, four, List.getD_cons_zero, List.getD_cons_succ, List.cons.injEq, and_true]
  omega
theorem crc_zeros (n : Nat) : ∀ r, crc r (List.replicate n 0) = steps (8 * n) r := by
  induction n with
  | zero => intro r; rfl
  | succ n ih =>
    intro r
    show crc (stepC r 0) (List.replicate n 0) = _
    rw [ih, show 8 * (n + 1) = 8 + 8 * n from by omega, steps_add 8 (8 * n)]
    unfold stepC
    rw [show top 0 = 0#32 from by decide, BitVec.xor_zero]
theorem zip_zeros : ∀ (l : List Nat), l.zipWith (· ^^^ ·) (List.replicate l.length 0) = l
  | [] => rfl
  | a :: l => by
    show (a ^^^ 0) :: l.zipWith (· ^^^ ·) (List.replicate l.length 0) = a :: l
    rw [zip_zeros l, Nat.xor_zero]
/-- One byte turned by x: the sum is turned by what x comes to. -/
theorem crc_set (l : List Nat) (q x : Nat) (hq : q < l.length) (r : BitVec 32) :
    crc r (l.set q (l.getD q 0 ^^^ x)) = crc r l ^^^ steps (8 * (l.length - q - 1)) (steps 8 (top x)) := by
  have e1 : l.set q (l.getD q 0 ^^^ x) = l.zipWith (· ^^^ ·) (List.replicate q 0 ++ x :: List.replicate (l.length - q - 1) 0) := by
    obtain ⟨m, hm⟩ : ∃ m, m = l.length - q - 1 := ⟨_, rfl⟩
    rw [← hm]
    conv => rhs; rw [← List.take_append_drop q l]
    rw [List.zipWith_append (by simp; omega), List.drop_eq_getElem_cons hq, List.zipWith_cons_cons]
    have h1 : (l.take q).zipWith (· ^^^ ·) (List.replicate q 0) = l.take q := by
      have := zip_zeros (l.take q)
      rw [List.length_take, Nat.min_eq_left (by omega)] at this
      exact this
    have h2 : (l.drop (q + 1)).zipWith (· ^^^ ·) (List.replicate m 0) = l.drop (q + 1) := by
      have := zip_zeros (l.drop (q + 1))
      rw [List.length_drop, show l.length - (q + 1) = m from by omega] at this
      exact this
    rw [h1, h2, List.set_eq_take_append_cons_drop, if_pos hq]
    simp [hq]
  have e2 := crc_xor l (List.replicate q 0 ++ x :: List.replicate (l.length - q - 1) 0) r 0#32 (by simp; omega)
  rw [BitVec.xor_zero] at e2
  rw [e1, e2, crc_append, crc_0]
  congr 1
  show crc (stepC 0#32 x) (List.replicate (l.length - q - 1) 0) = _
  rw [crc_zeros]
  unfold stepC
  rw [BitVec.zero_xor]
theorem top_ne (x : Nat) (h0 : x ≠ 0) (h : x < 256) : top x ≠ 0#32 := by
  intro e
  have := congrArg BitVec.toNat e
  rw [top_toNat x h] at this
  simp at this
  omega
theorem crc_set_ne (l : List Nat) (q x : Nat) (hq : q < l.length) (r : BitVec 32) (h0 : x ≠ 0) (h : x < 256) : crc r (l.set q (l.getD q 0 ^^^ x)) ≠ crc r l := by
  intro e
  rw [crc_set l q x hq r] at e
  have h1 := congrArg (crc r l ^^^ ·) e
  simp only [← BitVec.xor_assoc, BitVec.xor_self, BitVec.zero_xor] at h1
  exact top_ne x h0 h (steps_inj0 _ _ (steps_inj0 _ _ h1))

theorem bit_top_all : ∀ t : Fin 8, steps 8 (top (128 / 2 ^ t.val)) = steps (8 - t.val) (bitTop 1) := by decide +kernel
theorem bit_shift_all : ∀ i : Fin 32, steps i.val (bitTop 1 >>> i.val) = bitTop 1 := by decide +kernel
/-- Bit j of the bytes turned. -/
def flip (l : List Nat) (j : Nat) : List Nat := l.set (j / 8) (l.getD (j / 8) 0 ^^^ (128 / 2 ^ (j % 8)))
theorem flip_len (l : List Nat) (j : Nat) : (flip l j).length = l.length := by simp [flip]
theorem flip_lt (l : List Nat) (j : Nat) (h : ∀ x ∈ l, x < 256) (hj : j / 8 < l.length) : ∀ x ∈ flip l j, x < 256 := by
  intro x hx
  unfold flip at hx
  rcases List.mem_or_eq_of_mem_set hx with h1 | h1
  · exact h x h1
  · rw [h1]
    have a := h (l.getD (j / 8) 0) (by simp [hj])
    have b : 128 / 2 ^ (j % 8) < 256 := Nat.lt_of_le_of_lt (Nat.div_le_self _ _) (by omega)
    exact Nat.xor_lt_two_pow (n := 8) a b
theorem crc_flip (l : List Nat) (k i : Nat) (hi : i < 32) (hk : k + i < 8 * l.length) (r : BitVec 32) :
    crc r (flip l (k + i)) = crc r l ^^^ steps (8 * l.length - k) (bitTop 1 >>> i) := by
  unfold flip
  have h1 := bit_top_all ⟨(k + i) % 8, by omega⟩
  simp only at h1
  rw [crc_set l _ _ (by omega) r, h1, ← steps_add]
  congr 1
  have h2 := bit_shift_all ⟨i, hi⟩
  simp only at h2
  conv => rhs; rw [show 8 * l.length - k = i + (8 * l.length - k - i) from by omega, steps_add, h2]
  congr 1
  omega
end Go.Proofs.YtfdnlbmaceafhaaDoor
