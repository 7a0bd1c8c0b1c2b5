/-
  GaugeTexts (tied card): for any int32 and any word the law returns true: gauge.Text tells quarters exactly, and words at the edges. Conditions: the library's tables hold what the program's text lays (the card ties them).
-/
import Derived.Test.YtkjnimmehjccbaaDoorCards
import Derived.Test.YtkjnimmehjccbaaDoorTie
import Derived.WalkKit
import Derived.Test.YtkjnimmehjccbaaDoorNum
import Derived.Deep.Cut
import Derived.Deep.CutRange
import Derived.ProofKit
import Derived.OpenShut
import Derived.ShutString
import Derived.ChangeOld
import Derived.Below
import Derived.Deep.DeepHandedRow
import Derived.Lib.LaidTab
import Derived.LaidSub
namespace Go.Proofs.YtkjnimmehjccbaaDoor.gaugeTexts
open Go.ChangeShapes Go.WideShapes Go.ChangeAt Go.RowKit
open Go.ChangeMaps (open_string shut_string)
set_option linter.unusedVariables false

theorem own : ownKnob Tryd.prog.godebug = none := by kernel_rfl
theorem laidOut : laidOutB Tryd.prog = true := by kernel_rfl
theorem gTabType : (Tryd.prog.globals[1]?).map (·.type) = some 58 := by kernel_rfl
theorem tab_of {W : World} (h : laidMetH Tryd.prog Rows.gaugeTextsRow.laid W) : Tab W :=
  Lib.tabIs_of_head (rest := []) gPow gTabType Tryd.underlying58 Tryd.underlying26 (by kernel_rfl) (by kernel_rfl) (laidMetH.filter (fun x => x.1 == "internal/strconv.uint64pow10") h)
theorem i32_of_wf {x : Int} (h : (Lit.int .i32 x).wf = true) : -2147483648 ≤ x ∧ x ≤ 2147483647 := by
  simpa [Lit.wf, IntKind.min, IntKind.max, IntKind.bits, IntKind.signed] using h

/-- The sign of a whole number, as a text. -/
def sgn (n : Int) : List UInt8 := if n < 0 then [45] else []
/-- The quarters' digits. -/
def quart (r : Nat) : List UInt8 := [48 + UInt8.ofNat (25 * r / 10), 48 + UInt8.ofNat (25 * r % 10)]

theorem hund_quart (k : Nat) : hund (25 * k) = Lib.decDigits (k / 4) ++ [46] ++ quart (k % 4) := by
  unfold hund quart
  rw [show 25 * k / 100 = k / 4 from by omega, show 25 * k % 100 = 25 * (k % 4) from by omega, show 25 * k % 10 = 25 * (k % 4) % 10 from by omega]
  have h : k % 4 < 4 := Nat.mod_lt _ (by decide)
  generalize k % 4 = r at h
  have h2 : ∀ r : Fin 4, Lib.decDigits (25 * r.val / 10) ++ Lib.decDigits (25 * r.val % 10) = [48 + UInt8.ofNat (25 * r.val / 10), 48 + UInt8.ofNat (25 * r.val % 10)] := by decide +kernel
  rw [List.append_assoc (Lib.decDigits (k / 4) ++ [46]), h2 ⟨r, h⟩]

/-- float64(n) / 4, and a hundred times it without its sign. -/
theorem quarter (n : Int) (h : -2147483648 ≤ n ∧ n ≤ 2147483647) : ∃ X c : Nat, floatBits .quo .f64 (floatOfInt .f64 n) 4616189618054758400 = some X ∧ X < 18446744073709551616 ∧ X % p63 < greatR ∧ negW X = decide (n < 0) ∧
    floatBits .mul .f64 (X % p63) 4636737291354636288 = some c ∧ floatToIntVal .f64 c .i64 = some ((25 * n.natAbs : Nat) : Int) := by
  have hE := E1_eq
  have v0 := ofInt_isV n (by omega)
  have v4 : IsV 4616189618054758400 ((4 : Int) * (2 ^ E1 : Nat)) := by
    have := ofInt_isV 4 (by decide)
    rw [show floatOfInt .f64 4 = 4616189618054758400 from by decide +kernel] at this
    exact this
  have h100 := hundred_isV
  have hgr := greatR_isV
  obtain ⟨E, hEE⟩ : ∃ E, E1 = E + 2 := ⟨1072, rfl⟩
  have hrepE : ∀ m : Int, m.natAbs < 9007199254740992 → ∃ r, r < infR ∧ val r = (m * (2 ^ E : Nat)).natAbs := fun m hm => rep_int m hm E (by omega)
  have hrepE1 : ∀ m : Int, m.natAbs < 9007199254740992 → ∃ r, r < infR ∧ val r = (m * (2 ^ E1 : Nat)).natAbs := fun m hm => rep_int m hm E1 (by omega)
  have hfl := @toInt_floor
  have hmul := @mul_exact
  have hdiv := @div_exact
  have hgv := val_great
  generalize E1 = F at *
  subst hEE
  have hP := Nat.two_pow_pos E
  have hPi : (0 : Int) < ((2 ^ E : Nat) : Int) := Int.natCast_pos.2 hP
  rw [Nat.pow_add, show (2 : Nat) ^ 2 = 4 from rfl] at v0 v4 h100 hgr hrepE1 hfl hmul hdiv hgv
  generalize (2 : Nat) ^ E = P at *
  have hn0 : n.natAbs ≤ 2147483648 := by omega
  have hsg : ∀ Q : Nat, 0 < Q → decide (n * (Q : Int) < 0) = decide (n < 0) := fun Q hQ => by
    rw [decide_eq_decide]
    constructor
    · intro hlt
      rcases Int.lt_or_le n 0 with h1 | h1
      · exact h1
      · have := Int.mul_nonneg h1 (show (0 : Int) ≤ Q by omega); omega
    · intro hlt; exact Int.mul_neg_of_neg_of_pos hlt (by omega)
  obtain ⟨X, hX, vX⟩ := hdiv (z := n * (P : Int)) v0 v4 (by omega)
    (by simp only [Int.natAbs_mul, Int.natAbs_natCast]; rw [show (4 : Int).natAbs = 4 from rfl]; ac_rfl)
    (by rw [hsg _ (by omega), hsg _ hP]) (hrepE n (by omega))
  have vXn : negW X = decide (n < 0) := by rw [vX.2.2.2, hsg _ hP]
  have hXv : val (X % p63) = n.natAbs * P := by
    have h1 := vX.2.2.1
    unfold sval at h1
    rw [vXn] at h1
    have h2 : (n * (P : Int)).natAbs = n.natAbs * P := by rw [Int.natAbs_mul, Int.natAbs_natCast]
    rw [← h2]
    by_cases hn : n < 0
    · rw [decide_eq_true hn] at h1; simp at h1; omega
    · rw [decide_eq_false hn] at h1; simp at h1; omega
  have hXg : X % p63 < greatR := by
    rw [← val_lt_iff, hXv, hgv]
    calc n.natAbs * P ≤ 2147483648 * P := Nat.mul_le_mul_right _ hn0
      _ < 1000000000000000 * (P * 4) := by omega
  have vA := isV_pos (X % p63) (Nat.lt_trans hXg (by decide))
  rw [hXv] at vA
  obtain ⟨c, hc, vc⟩ := hmul (z := ((25 * n.natAbs : Nat) : Int) * ((P * 4 : Nat) : Int)) vA h100 (by omega) (by omega)
    (by simp only [Int.natAbs_mul, Int.natAbs_natCast]; rw [show (100 : Int).natAbs = 25 * 4 from rfl]; ac_rfl)
    (Int.mul_nonneg (by omega) (by omega)) (hrepE1 _ (by rw [Int.natAbs_natCast]; omega))
  have hq : (((25 * n.natAbs : Nat) : Int) * ((P * 4 : Nat) : Int)).natAbs / (P * 4) = 25 * n.natAbs := by
    rw [Int.natAbs_mul, Int.natAbs_natCast, Int.natAbs_natCast, Nat.mul_div_cancel _ (by omega)]
  have hi := hfl vc (Int.mul_nonneg (by omega) (by omega)) (by rw [hq]; omega)
  rw [hq] at hi
  exact ⟨X, c, hX, vX.1, hXg, vXn, hc, hi⟩
theorem want_eq (n : Int) : (sgn n ++ hund (25 * n.natAbs)) = sgn n ++ Lib.decDigits (n.natAbs / 4) ++ [46] ++ quart (n.natAbs % 4) := by
  rw [hund_quart]; simp
def quartTab : List ByteArray := [⟨#[48, 48]⟩, ⟨#[50, 53]⟩, ⟨#[53, 48]⟩, ⟨#[55, 53]⟩]
theorem quart_tab (r : Nat) (h : r < 4) : quartTab.getD r ⟨#[]⟩ = ⟨(quart r).toArray⟩ := by
  have h2 : ∀ r : Fin 4, quartTab.getD r.val ⟨#[]⟩ = ⟨(quart r.val).toArray⟩ := by decide +kernel
  exact h2 ⟨r, h⟩
theorem quart_cell (W : World) (r : Nat) (h : r < 4) : (W.alloc (.cells #[.string ⟨#[48, 48]⟩, .string ⟨#[50, 53]⟩, .string ⟨#[53, 48]⟩, .string ⟨#[55, 53]⟩] 9)).cell? ⟨W.heap.size, r, none⟩ = some (.string ⟨(quart r).toArray⟩) := by
  rw [cell_of_row _ W.heap.size r _ 9 (0, 0) (heap_alloc_new W _), ← quart_tab r h]
  have hr : r = 0 ∨ r = 1 ∨ r = 2 ∨ r = 3 := by omega
  rcases hr with rfl | rfl | rfl | rfl <;> rfl

theorem digit_ne (u : Nat) : ∀ x ∈ Lib.decDigits u, x ≠ 45 := by
  intro x hx
  rw [Lib.decDigits_eq] at hx
  simp only [List.mem_map] at hx
  obtain ⟨t, _, rfl⟩ := hx
  unfold Lib.dg
  have h : u / 10 ^ (Lib.nDigits u - 1 - t) % 10 < 10 := Nat.mod_lt _ (by decide)
  generalize u / 10 ^ (Lib.nDigits u - 1 - t) % 10 = d at h
  have h2 : ∀ d : Fin 10, UInt8.ofNat (48 + d.val) ≠ 45 := by decide
  exact h2 ⟨d, h⟩
/-- What a text of hundredths looks like: its point, and its first byte. -/
theorem text_shape (b : Bool) (m : Nat) (hm : m ≤ 9223372036854775807) : ∃ (L : Nat) (d : Int), 4 ≤ L ∧ L ≤ 100 ∧ (⟨((if b then [45] else []) ++ hund m).toArray⟩ : ByteArray).size = L ∧
    (∀ w, (Instr.index 9 (.string ⟨((if b then [45] else []) ++ hund m).toArray⟩) (.int .i64 ((L : Int) - 3))).run Tryd.prog w = .ok (.int .u8 46) w) ∧
    (∀ w, (Instr.index 9 (.string ⟨((if b then [45] else []) ++ hund m).toArray⟩) (.int .i64 0)).run Tryd.prog w = .ok (.int .u8 d) w) ∧ (d == 45) = b := by
  have l1 := digits_le (m / 100) (by omega)
  have p1 : 1 ≤ (Lib.decDigits (m / 100)).length := by rw [Lib.decDigits_length]; exact Lib.nDigits_pos _
  have l2 : (Lib.decDigits (m % 100 / 10)).length = 1 := by rw [Lib.decDigits_one (by omega)]; rfl
  have l3 : (Lib.decDigits (m % 10)).length = 1 := by rw [Lib.decDigits_one (by omega)]; rfl
  have hne := digit_ne (m / 100)
  generalize hsg : (if b then [45] else ([] : List UInt8)) = sg
  have hsl : sg.length ≤ 1 := by rw [← hsg]; split <;> simp
  have hu : hund m = Lib.decDigits (m / 100) ++ [46] ++ Lib.decDigits (m % 100 / 10) ++ Lib.decDigits (m % 10) := rfl
  generalize Lib.decDigits (m / 100) = D at *
  generalize Lib.decDigits (m % 100 / 10) = D2 at *
  generalize Lib.decDigits (m % 10) = D3 at *
  have hlen : (sg ++ hund m).length = sg.length + D.length + 3 := by rw [hu]; simp; omega
  have hidx : ∀ (i : Nat) (x : UInt8) (w : World), (sg ++ hund m)[i]? = some x → (Instr.index 9 (.string ⟨(sg ++ hund m).toArray⟩) (.int .i64 (i : Int))).run Tryd.prog w = .ok (.int .u8 (x.toNat : Int)) w := by
    intro i x w hx
    have hi : i < (sg ++ hund m).length := by
      rcases Nat.lt_or_ge i (sg ++ hund m).length with h | h
      · exact h
      · rw [List.getElem?_eq_none h] at hx; cases hx
    rw [run_index_string w 9 _ .i64 _ Tryd.underlying9, dif_pos ⟨by omega, by simp [ByteArray.size]; simp at hi; omega⟩]
    have e : (⟨(sg ++ hund m).toArray⟩ : ByteArray)[((i : Int)).toNat]'(by simpa [ByteArray.size] using hi) = x := by
      show (sg ++ hund m).toArray[((i : Int)).toNat]'(by simpa using hi) = x
      rw [List.getElem?_eq_getElem hi] at hx
      simpa using hx
    rw [e]
  refine ⟨(sg ++ hund m).length, if b then 45 else ((D.getD 0 0).toNat : Int), by omega, by omega, by simp [ByteArray.size], ?_, ?_, ?_⟩
  · intro w
    have := hidx (sg.length + D.length) 46 w (by rw [hu, List.getElem?_append_right (by omega), Nat.add_sub_cancel_left]; simp)
    rw [show ((sg.length + D.length : Nat) : Int) = ((sg ++ hund m).length : Int) - 3 from by omega] at this
    exact this
  · intro w
    cases b
    · simp only [Bool.false_eq_true, if_false] at hsg ⊢
      subst hsg
      refine hidx 0 (D.getD 0 0) w ?_
      rw [hu]
      simp [List.getElem?_append, show 0 < D.length by omega]
    · simp only [if_true] at hsg ⊢
      subst hsg
      exact hidx 0 45 w rfl
  · cases b
    · simp only [Bool.false_eq_true, if_false]
      have h1 : D.getD 0 0 ≠ 45 := hne _ (by simp [List.getD, show 0 < D.length by omega])
      rw [beq_eq_false_iff_ne]
      intro h2
      refine h1 (UInt8.toNat_inj.1 ?_)
      show (D.getD 0 0).toNat = 45
      omega
    · rfl

theorem sign_is (y : Nat) (v : Bool) (h : negW y = v) (w : World) (hy : y < 18446744073709551616) : Calls Tryd.prog 23 #[.float .f64 y] w fun e w' => e = .returned (.bool v) ∧ w = w' := by
  subst h
  exact signbit_any y w hy
/-- How a word stands to 1e15 and -1e15. -/
theorem edges (y : Nat) (hn : nanW y = false) :
    (FloatKind.f64.format.order y 4831355200913801216 == some .gt || FloatKind.f64.format.order y 4831355200913801216 == some .eq) = decide ((val greatR : Int) ≤ sval y) ∧
    (FloatKind.f64.format.order y 14054727237768577024 == some .lt || FloatKind.f64.format.order y 14054727237768577024 == some .eq) = decide (sval y ≤ -(val greatR : Int)) ∧
    (FloatKind.f64.format.order y 14054727237768577024 == some .gt) = decide (-(val greatR : Int) < sval y) ∧
    (FloatKind.f64.format.order y 4831355200913801216 == some .lt) = decide (sval y < (val greatR : Int)) ∧
    (FloatKind.f64.format.order y y != some .eq) = false ∧ (FloatKind.f64.format.order y y == some .eq) = true := by
  have n1 : nanW 4831355200913801216 = false := by decide
  have n2 : nanW 14054727237768577024 = false := by decide
  have s1 : sval 4831355200913801216 = (val greatR : Int) := by unfold sval; rw [show negW 4831355200913801216 = false from by decide]; rfl
  have s2 : sval 14054727237768577024 = -(val greatR : Int) := by unfold sval; rw [show negW 14054727237768577024 = true from by decide, show 14054727237768577024 % p63 = greatR from by decide]; rfl
  refine ⟨?_, ?_, ?_, ?_, ?_, ?_⟩
  · rw [ord_gt _ _ hn n1, ord_eq _ _ hn n1, s1, Bool.eq_iff_iff]; simp only [Bool.or_eq_true, decide_eq_true_eq]; omega
  · rw [ord_lt _ _ hn n2, ord_eq _ _ hn n2, s2, Bool.eq_iff_iff]; simp only [Bool.or_eq_true, decide_eq_true_eq]; omega
  · rw [ord_gt _ _ hn n2, s2]
  · rw [ord_lt _ _ hn n1, s1]
  · rw [ord_self, hn]
  · rw [ord_eq _ _ hn hn]; simp
theorem sval_pos {y : Nat} (h : negW y = false) : sval y = (val (y % p63) : Int) := by unfold sval; rw [h]; rfl
theorem sval_neg {y : Nat} (h : negW y = true) : sval y = -(val (y % p63) : Int) := by unfold sval; rw [h]; rfl
theorem val_le {r s : Nat} (h : r ≤ s) : val r ≤ val s := by
  rcases Nat.lt_or_ge r s with h1 | h1
  · exact Nat.le_of_lt (val_lt h1)
  · rw [show r = s from by omega]; exact Nat.le_refl _
theorem great_pos : 0 < val greatR := val_pos (by decide)
structure Above (y : Nat) : Prop where
  o1 : (FloatKind.f64.format.order y y != some .eq) = false
  o2 : (FloatKind.f64.format.order y y == some .eq) = true
  o3 : (FloatKind.f64.format.order y 4831355200913801216 == some .gt || FloatKind.f64.format.order y 4831355200913801216 == some .eq) = true
  o5 : (FloatKind.f64.format.order y 14054727237768577024 == some .gt) = true
  o6 : (FloatKind.f64.format.order y 4831355200913801216 == some .lt) = false
theorem above_of {y : Nat} (hn : nanW y = false) (hs : negW y = false) (hg : greatR ≤ y % p63) : Above y := by
  obtain ⟨e1, e2, e3, e4, e5, e6⟩ := edges y hn
  have h1 := val_le hg
  have h2 := great_pos
  rw [sval_pos hs] at e1 e3 e4
  exact ⟨e5, e6, by rw [e1]; simp; omega, by rw [e3]; simp; omega, by rw [e4]; simp; omega⟩
structure Under (y : Nat) : Prop where
  o1 : (FloatKind.f64.format.order y y != some .eq) = false
  o2 : (FloatKind.f64.format.order y y == some .eq) = true
  o3 : (FloatKind.f64.format.order y 4831355200913801216 == some .gt || FloatKind.f64.format.order y 4831355200913801216 == some .eq) = false
  o4 : (FloatKind.f64.format.order y 14054727237768577024 == some .lt || FloatKind.f64.format.order y 14054727237768577024 == some .eq) = true
  o5 : (FloatKind.f64.format.order y 14054727237768577024 == some .gt) = false
theorem under_of {y : Nat} (hn : nanW y = false) (hs : negW y = true) (hg : greatR ≤ y % p63) : Under y := by
  obtain ⟨e1, e2, e3, e4, e5, e6⟩ := edges y hn
  have h1 := val_le hg
  have h2 := great_pos
  rw [sval_neg hs] at e1 e2 e3
  exact ⟨e5, e6, by rw [e1]; simp; omega, by rw [e2]; simp; omega, by rw [e3]; simp; omega⟩
structure Amid (y : Nat) : Prop where
  o1 : (FloatKind.f64.format.order y y != some .eq) = false
  o2 : (FloatKind.f64.format.order y y == some .eq) = true
  o3 : (FloatKind.f64.format.order y 4831355200913801216 == some .gt || FloatKind.f64.format.order y 4831355200913801216 == some .eq) = false
  o4 : (FloatKind.f64.format.order y 14054727237768577024 == some .lt || FloatKind.f64.format.order y 14054727237768577024 == some .eq) = false
  o5 : (FloatKind.f64.format.order y 14054727237768577024 == some .gt) = true
  o6 : (FloatKind.f64.format.order y 4831355200913801216 == some .lt) = true
theorem amid_of {y : Nat} (hn : nanW y = false) (hg : y % p63 < greatR) : Amid y := by
  obtain ⟨e1, e2, e3, e4, e5, e6⟩ := edges y hn
  have h1 := val_lt hg
  have h2 := great_pos
  cases hs : negW y
  · rw [sval_pos hs] at e1 e2 e3 e4
    exact ⟨e5, e6, by rw [e1]; simp; omega, by rw [e2]; simp; omega, by rw [e3]; simp; omega, by rw [e4]; simp; omega⟩
  · rw [sval_neg hs] at e1 e2 e3 e4
    exact ⟨e5, e6, by rw [e1]; simp; omega, by rw [e2]; simp; omega, by rw [e3]; simp; omega, by rw [e4]; simp; omega⟩

set_option maxRecDepth 20000 in
set_option maxHeartbeats 4000000 in
theorem walk_all (n : Int) (y X c : Nat) (w : World) (hT : Tab w) (hy : y < 18446744073709551616) (b1 : -2147483648 ≤ n) (b2 : n ≤ 2147483647)
    (q1 : floatBits .quo .f64 (floatOfInt .f64 n) 4616189618054758400 = some X) (q2 : X < 18446744073709551616) (q3 : X % p63 < greatR) (q4 : negW X = decide (n < 0))
    (q5 : floatBits .mul .f64 (X % p63) 4636737291354636288 = some c) (q6 : floatToIntVal .f64 c .i64 = some ((25 * n.natAbs : Nat) : Int)) :
    Calls Tryd.prog 7 #[.int .i32 n, .int .u64 y] w fun e w' => e = .returned (.bool true) ∧ Below w.heap.size w w' := by
  have HT := Lib.hid hT
  have HY := Lib.hid hy
  have H1 := fun t w => run_float_arith (P := Tryd.prog) w .quo t .f64 _ _ X q1
  have Q := Lib.hid (And.intro q2 (And.intro q3 (And.intro q4 (And.intro q5 q6))))
  have hrf := run_frombits
  clear hT hy q1 q2 q3 q4 q5 q6
  go_enter Tryd.func7, Tryd.ntmps7
  go_upto_if 19 with fail
  go_cut [6, 7] from 20 to 21 (fun v6 v7 wx => v6 = .int .i64 (n.natAbs : Int) ∧ v7 = .string ⟨(sgn n).toArray⟩ ∧ wx = w)
  case first =>
    by_cases hn : n < 0
    · go_wp2
      go_meet
      exact ⟨by rw [show (n.natAbs : Int) = -n from by omega], by unfold sgn; rw [if_pos (by omega)], rfl⟩
    · go_wp2
      go_meet
      exact ⟨by rw [show (n.natAbs : Int) = n from by omega], by unfold sgn; rw [if_neg (by omega)], rfl⟩
  case rest =>
    obtain ⟨h6, h7, hwx⟩ := hcut
    subst h6 h7 hwx
    obtain ⟨wa, rfl⟩ : ∃ wa, wa = wc := ⟨_, rfl⟩
    go_wp2_with fail
    go_cut [8] from 22 to 33 (fun v8 wx => v8 = .string ⟨(sgn n ++ hund (25 * n.natAbs)).toArray⟩ ∧ Hid (Below wa.heap.size wa wx))
    case first =>
      have hk : n.natAbs ≤ 2147483648 := by omega
      have hsl : (sgn n).length ≤ 1 := by unfold sgn; split <;> simp
      have Hd := Lib.hid (want_eq n)
      generalize n.natAbs = k at *
      generalize sgn n = sg at *
      have hlen := digits_le (k / 4) (by omega)
      have hq : IntKind.i64.wrap ((k : Int) / 4) = (k : Int) / 4 := IntWalk.i64_in _ (by omega)
      have IHz : Hid (∀ w, Calls Tryd.prog 21 #[.int .i64 ((k : Int) / 4)] w fun e w' => e = .returned (.string ⟨(Lib.decDigits (k / 4)).toArray⟩) ∧ Below w.heap.size w w') := by
        intro w
        have := num_any (k / 4) w (by omega)
        rwa [show ((k / 4 : Nat) : Int) = (k : Int) / 4 from by omega] at this
      have hr : k % 4 < 4 := Nat.mod_lt _ (by decide)
      have ht : (k : Int).tmod 4 = ((k % 4 : Nat) : Int) := by rw [Int.tmod_eq_emod_of_nonneg (by omega)]; omega
      have hce : (k : Int) % 4 = ((k % 4 : Nat) : Int) := by omega
      generalize k % 4 = r at *
      have hri : (r : Int) < 4 := by omega
      have hcell := fun W => quart_cell W r hr
      have hql : (quart r).length = 2 := rfl
      clear Q H1
      go_region_with ((go_at_call 21; refine (IHz.out _).mono ?_; rintro e w' ⟨rfl, hb⟩; obtain ⟨hcc, hff⟩ := bcell hb; have hz := hb.size; have HB := Lib.hid hb; clear hb))
      all_goals
        go_wp2_with fail
        go_meet
        refine ⟨by rw [Hd.out, ← bytes_append, ← bytes_append, ← bytes_append], ?_⟩
        have hb := HB.out
        first
          | exact ((below_drew wa).trans (hb.mono (Nat.le_refl _))).alloc (by have := hb.size; simpa using this) _
          | exact (((Below.refl wa.heap.size wa).alloc (Nat.le_refl _) _).drew).trans (hb.mono (by simp))
    case rest =>
      obtain ⟨h8, hB⟩ := hcut
      subst h8
      have Hsg : Hid (((if negW X then [45] else []) ++ hund (25 * n.natAbs)) = sgn n ++ hund (25 * n.natAbs)) := by
        show _ = _
        rw [Q.out.2.2.1]
        unfold sgn
        by_cases hn : n < 0
        · rw [if_pos hn, decide_eq_true hn]; rfl
        · rw [if_neg hn, decide_eq_false hn]; rfl
      have z00 : Hid (((if negW 9223372036854775808 then [45] else []) ++ hund 0).toArray = #[45, 48, 46, 48, 48]) := by show _ = _; decide +kernel
      have hk : n.natAbs ≤ 2147483648 := by omega
      have hT8 : Hid (Tab wc) := HT.out.old hB.out
      generalize sgn n ++ hund (25 * n.natAbs) = want at *
      have hyc : nanW y = true ∨ (y % p63 = infR ∧ negW y = false) ∨ (y % p63 = infR ∧ negW y = true) ∨ (nanW y = false ∧ y % p63 < infR ∧ greatR ≤ y % p63 ∧ negW y = false) ∨ (nanW y = false ∧ y % p63 < infR ∧ greatR ≤ y % p63 ∧ negW y = true) ∨ (nanW y = false ∧ y % p63 < greatR) := by
        cases hn : nanW y
        · right
          have hle : y % p63 ≤ infR := by unfold nanW at hn; simp at hn; exact hn
          cases hs : negW y
          · by_cases h1 : y % p63 = infR
            · exact .inl ⟨h1, rfl⟩
            · by_cases h2 : greatR ≤ y % p63
              · exact .inr (.inr (.inl ⟨rfl, by omega, h2, rfl⟩))
              · exact .inr (.inr (.inr (.inr ⟨rfl, by omega⟩)))
          · by_cases h1 : y % p63 = infR
            · exact .inr (.inl ⟨h1, rfl⟩)
            · by_cases h2 : greatR ≤ y % p63
              · exact .inr (.inr (.inr (.inl ⟨rfl, by omega, h2, rfl⟩)))
              · exact .inr (.inr (.inr (.inr ⟨rfl, by omega⟩)))
        · exact .inl rfl
      rcases hyc with hn | ⟨hi, hs⟩ | ⟨hi, hs⟩ | ⟨hn, hlt, hg, hs⟩ | ⟨hn, hlt, hg, hs⟩ | ⟨hn, hg⟩
      · have HN := Lib.hid hn
        have o1 := (ord_self y).trans hn
        have o2 : (FloatKind.f64.format.order y y == some .eq) = false := by rw [ord_nan y y (.inl hn)]; rfl
        clear hn
        go_wp2_with fail
        refine (text_nan y _ HN.out).mono ?_
        rintro e w3 ⟨rfl, rfl⟩
        have hBz := hB
        go_wp2_with fail
        go_quiet (fail)
        have HBy := Lib.hid (below_drewN' hBz.out nq)
        go_wp2_with fail
        refine (awake_any _ (HT.out.old HBy.out)).mono ?_
        rintro e w3 ⟨rfl, hb⟩
        have HB3 := Lib.hid (HBy.out.trans (hb.mono HBy.out.size))
        clear hb
        go_wp2_with fail
        refine (text_num X c _ _ Q.out.1 (HT.out.old HB3.out) Q.out.2.1 Q.out.2.2.2.1 Q.out.2.2.2.2 (by omega)).mono ?_
        rw [Hsg.out]
        rintro e w4 ⟨rfl, hb⟩
        have HB4 := Lib.hid (HB3.out.trans (hb.mono HB3.out.size))
        clear hb
        go_wp2_with fail
        refine (copysign_neg _).mono ?_
        rintro e w5 ⟨rfl, rfl⟩
        go_wp2_with fail
        refine (text_num 9223372036854775808 0 0 _ (by decide) (HT.out.old HB4.out) (by decide) (by decide +kernel) (by decide +kernel) (by decide)).mono ?_
        rw [z00.out]
        rintro e w5 ⟨rfl, hb⟩
        have HB5 := Lib.hid (HB4.out.trans (hb.mono HB4.out.size))
        clear hb
        go_wp2
        go_ret
        exact ⟨rfl, HB5.out⟩
      · have HI := Lib.hid hi
        have hd := decide_eq_true hi
        obtain ⟨o1, o2, o3, o5, o6⟩ := above_of (nan_of_inf hi) hs (by rw [hi]; decide)
        clear hi
        go_wp2_with fail
        refine (text_inf y _ HI.out hs).mono ?_
        rintro e w3 ⟨rfl, rfl⟩
        have hBz := hB
        go_wp2_with fail
        refine (isinf_pos y _).mono ?_
        rintro e w3 ⟨rfl, rfl⟩
        go_wp2_with fail
        go_quiet (fail)
        have HBy := Lib.hid (below_drewN' hBz.out nq)
        go_wp2_with fail
        refine (awake_any _ (HT.out.old HBy.out)).mono ?_
        rintro e w3 ⟨rfl, hb⟩
        have HB3 := Lib.hid (HBy.out.trans (hb.mono HBy.out.size))
        clear hb
        go_wp2_with fail
        refine (text_num X c _ _ Q.out.1 (HT.out.old HB3.out) Q.out.2.1 Q.out.2.2.2.1 Q.out.2.2.2.2 (by omega)).mono ?_
        rw [Hsg.out]
        rintro e w4 ⟨rfl, hb⟩
        have HB4 := Lib.hid (HB3.out.trans (hb.mono HB3.out.size))
        clear hb
        go_wp2_with fail
        refine (copysign_neg _).mono ?_
        rintro e w5 ⟨rfl, rfl⟩
        go_wp2_with fail
        refine (text_num 9223372036854775808 0 0 _ (by decide) (HT.out.old HB4.out) (by decide) (by decide +kernel) (by decide +kernel) (by decide)).mono ?_
        rw [z00.out]
        rintro e w5 ⟨rfl, hb⟩
        have HB5 := Lib.hid (HB4.out.trans (hb.mono HB4.out.size))
        clear hb
        go_wp2
        go_ret
        exact ⟨rfl, HB5.out⟩
      · have HI := Lib.hid hi
        have hd := decide_eq_true hi
        obtain ⟨o1, o2, o3, o4, o5⟩ := under_of (nan_of_inf hi) hs (by rw [hi]; decide)
        clear hi
        go_wp2_with fail
        refine (text_ninf y _ HI.out hs).mono ?_
        rintro e w3 ⟨rfl, rfl⟩
        have hBz := hB
        go_wp2_with fail
        refine (isinf_pos y _).mono ?_
        rintro e w3 ⟨rfl, rfl⟩
        go_wp2_with fail
        refine (isinf_neg y _).mono ?_
        rintro e w3 ⟨rfl, rfl⟩
        go_wp2_with fail
        go_quiet (fail)
        have HBy := Lib.hid (below_drewN' hBz.out nq)
        go_wp2_with fail
        refine (awake_any _ (HT.out.old HBy.out)).mono ?_
        rintro e w3 ⟨rfl, hb⟩
        have HB3 := Lib.hid (HBy.out.trans (hb.mono HBy.out.size))
        clear hb
        go_wp2_with fail
        refine (text_num X c _ _ Q.out.1 (HT.out.old HB3.out) Q.out.2.1 Q.out.2.2.2.1 Q.out.2.2.2.2 (by omega)).mono ?_
        rw [Hsg.out]
        rintro e w4 ⟨rfl, hb⟩
        have HB4 := Lib.hid (HB3.out.trans (hb.mono HB3.out.size))
        clear hb
        go_wp2_with fail
        refine (copysign_neg _).mono ?_
        rintro e w5 ⟨rfl, rfl⟩
        go_wp2_with fail
        refine (text_num 9223372036854775808 0 0 _ (by decide) (HT.out.old HB4.out) (by decide) (by decide +kernel) (by decide +kernel) (by decide)).mono ?_
        rw [z00.out]
        rintro e w5 ⟨rfl, hb⟩
        have HB5 := Lib.hid (HB4.out.trans (hb.mono HB4.out.size))
        clear hb
        go_wp2
        go_ret
        exact ⟨rfl, HB5.out⟩
      · obtain ⟨o1, o2, o3, o5, o6⟩ := above_of hn hs hg
        have HL := Lib.hid hlt
        have HG := Lib.hid hg
        have hd : decide (y % p63 = infR) = false := by simp; omega
        clear hn hlt hg
        go_wp2_with fail
        refine (text_great y _ HY.out HL.out HG.out).mono ?_
        rintro e w3 ⟨rfl, rfl⟩
        have hBz := hB
        go_wp2_with fail
        refine (isinf_pos y _).mono ?_
        rintro e w3 ⟨rfl, rfl⟩
        go_wp2_with fail
        refine (isinf_neg y _).mono ?_
        rintro e w3 ⟨rfl, rfl⟩
        go_wp2_with fail
        refine (isinf_any y _ HY.out).mono ?_
        rintro e w3 ⟨rfl, rfl⟩
        go_wp2_with fail
        go_quiet (fail)
        have HBy := Lib.hid (below_drewN' hBz.out nq)
        go_wp2_with fail
        refine (awake_any _ (HT.out.old HBy.out)).mono ?_
        rintro e w3 ⟨rfl, hb⟩
        have HB3 := Lib.hid (HBy.out.trans (hb.mono HBy.out.size))
        clear hb
        go_wp2_with fail
        refine (text_num X c _ _ Q.out.1 (HT.out.old HB3.out) Q.out.2.1 Q.out.2.2.2.1 Q.out.2.2.2.2 (by omega)).mono ?_
        rw [Hsg.out]
        rintro e w4 ⟨rfl, hb⟩
        have HB4 := Lib.hid (HB3.out.trans (hb.mono HB3.out.size))
        clear hb
        go_wp2_with fail
        refine (copysign_neg _).mono ?_
        rintro e w5 ⟨rfl, rfl⟩
        go_wp2_with fail
        refine (text_num 9223372036854775808 0 0 _ (by decide) (HT.out.old HB4.out) (by decide) (by decide +kernel) (by decide +kernel) (by decide)).mono ?_
        rw [z00.out]
        rintro e w5 ⟨rfl, hb⟩
        have HB5 := Lib.hid (HB4.out.trans (hb.mono HB4.out.size))
        clear hb
        go_wp2
        go_ret
        exact ⟨rfl, HB5.out⟩
      · obtain ⟨o1, o2, o3, o4, o5⟩ := under_of hn hs hg
        have HL := Lib.hid hlt
        have HG := Lib.hid hg
        have hd : decide (y % p63 = infR) = false := by simp; omega
        clear hn hlt hg
        go_wp2_with fail
        refine (text_great y _ HY.out HL.out HG.out).mono ?_
        rintro e w3 ⟨rfl, rfl⟩
        have hBz := hB
        go_wp2_with fail
        refine (isinf_pos y _).mono ?_
        rintro e w3 ⟨rfl, rfl⟩
        go_wp2_with fail
        refine (isinf_neg y _).mono ?_
        rintro e w3 ⟨rfl, rfl⟩
        go_wp2_with fail
        refine (isinf_any y _ HY.out).mono ?_
        rintro e w3 ⟨rfl, rfl⟩
        go_wp2_with fail
        go_quiet (fail)
        have HBy := Lib.hid (below_drewN' hBz.out nq)
        go_wp2_with fail
        refine (awake_any _ (HT.out.old HBy.out)).mono ?_
        rintro e w3 ⟨rfl, hb⟩
        have HB3 := Lib.hid (HBy.out.trans (hb.mono HBy.out.size))
        clear hb
        go_wp2_with fail
        refine (text_num X c _ _ Q.out.1 (HT.out.old HB3.out) Q.out.2.1 Q.out.2.2.2.1 Q.out.2.2.2.2 (by omega)).mono ?_
        rw [Hsg.out]
        rintro e w4 ⟨rfl, hb⟩
        have HB4 := Lib.hid (HB3.out.trans (hb.mono HB3.out.size))
        clear hb
        go_wp2_with fail
        refine (copysign_neg _).mono ?_
        rintro e w5 ⟨rfl, rfl⟩
        go_wp2_with fail
        refine (text_num 9223372036854775808 0 0 _ (by decide) (HT.out.old HB4.out) (by decide) (by decide +kernel) (by decide +kernel) (by decide)).mono ?_
        rw [z00.out]
        rintro e w5 ⟨rfl, hb⟩
        have HB5 := Lib.hid (HB4.out.trans (hb.mono HB4.out.size))
        clear hb
        go_wp2
        go_ret
        exact ⟨rfl, HB5.out⟩
      · obtain ⟨o1, o2, o3, o4, o5, o6⟩ := amid_of hn hg
        obtain ⟨cy, m, hm1, hm2, hm3⟩ := times_fits (y % p63) hg
        have hd : decide (y % p63 = infR) = false := by
          have : greatR < infR := by decide
          simp; omega
        have HG := Lib.hid hg
        have HM := Lib.hid (And.intro hm1 (And.intro hm2 hm3))
        clear hn hg hm1 hm2 hm3
        go_wp2_with fail
        refine (text_num y cy m _ HY.out hT8.out HG.out HM.out.1 HM.out.2.1 HM.out.2.2).mono ?_
        rintro e w3 ⟨rfl, hb⟩
        have hBz := Lib.hid (hB.out.trans (hb.mono hB.out.size))
        clear hb
        obtain ⟨L, d, hL4, hL9, hLs, hx1, hx2, hx3⟩ := text_shape (negW y) m HM.out.2.2
        generalize (⟨((if negW y then [45] else []) ++ hund m).toArray⟩ : ByteArray) = S at *
        go_wp2_with fail
        refine (isinf_pos y _).mono ?_
        rintro e w3 ⟨rfl, rfl⟩
        go_wp2_with fail
        refine (isinf_neg y _).mono ?_
        rintro e w3 ⟨rfl, rfl⟩
        go_wp2_with fail
        have hw3 : IntKind.i64.wrap ((L : Int) - 3) = (L : Int) - 3 := IntWalk.i64_in _ (by omega)
        have hg4 : decide ((4 : Int) ≤ (L : Int)) = true := by simp; omega
        have hg5 : decide (4 ≤ L) = true := by simp; omega
        cases hs : negW y
        all_goals
          rw [hs] at hx3
          first
            | go_big_quiet ((with_reducible exact quiet_left (sign_is y false hs _ HY.out)))
            | go_big_quiet ((with_reducible exact quiet_left (sign_is y true hs _ HY.out)))
          have HBy := Lib.hid (below_drewN' hBz.out nq)
          go_wp2_with fail
          refine (awake_any _ (HT.out.old HBy.out)).mono ?_
          rintro e w3 ⟨rfl, hb⟩
          have HB3 := Lib.hid (HBy.out.trans (hb.mono HBy.out.size))
          clear hb
          go_wp2_with fail
          refine (text_num X c _ _ Q.out.1 (HT.out.old HB3.out) Q.out.2.1 Q.out.2.2.2.1 Q.out.2.2.2.2 (by omega)).mono ?_
          rw [Hsg.out]
          rintro e w4 ⟨rfl, hb⟩
          have HB4 := Lib.hid (HB3.out.trans (hb.mono HB3.out.size))
          clear hb
          go_wp2_with fail
          refine (copysign_neg _).mono ?_
          rintro e w5 ⟨rfl, rfl⟩
          go_wp2_with fail
          refine (text_num 9223372036854775808 0 0 _ (by decide) (HT.out.old HB4.out) (by decide) (by decide +kernel) (by decide +kernel) (by decide)).mono ?_
          rw [z00.out]
          rintro e w5 ⟨rfl, hb⟩
          have HB5 := Lib.hid (HB4.out.trans (hb.mono HB4.out.size))
          clear hb
          go_wp2
          go_ret
          exact ⟨rfl, HB5.out⟩

theorem walk (a0 : Int) (a1 : Int) (w0 : (Lit.int .i32 a0).wf = true) (w1 : (Lit.int .u64 a1).wf = true) (w : World) (hT : Tab w) :
    Calls Tryd.prog 7 #[.int .i32 a0, .int .u64 a1] w fun e w' => e = .returned (.bool true) ∧ Below w.heap.size w w' := by
  have b0 := i32_of_wf w0
  have b1 : 0 ≤ a1 ∧ a1 < 18446744073709551616 := by
    simp [Lit.wf, IntKind.min, IntKind.max, IntKind.bits, IntKind.signed] at w1
    omega
  obtain ⟨y, rfl⟩ := Int.eq_ofNat_of_zero_le b1.1
  obtain ⟨X, c, q1, q2, q3, q4, q5, q6⟩ := quarter a0 b0
  exact walk_all a0 y X c w hT (by omega) b0.1 b0.2 q1 q2 q3 q4 q5 q6

theorem contract (H : Type) (enc : TypeId × Value → H) (W : World) (base : Nat) (args : Array Value) (ds gs : List (DataW H)) (before : List MemPlace)
    (hval : ∀ (j : Nat) t v, Tryd.f7.params[j]? = some t → args[j]? = some v → Value.okWide Tryd.prog W .any base t v)
    (hW : DataW.Whole enc Tryd.prog Tryd.f7.params.toList Rows.gaugeTextsSpec.vars false W args.toList ds gs before) (hL : laidMetH Tryd.prog Rows.gaugeTextsRow.laid W) :
    Calls Tryd.prog 7 args W fun e W' => ∃ v, e = .returned v ∧ Rows.gaugeTextsSpec.post enc Tryd.prog Tryd.f7 false true false false W args v W' := by
  have hW' := hW
  obtain ⟨p, q, hA0, hV, rfl, hfz, hnd⟩ := hW
  have hA : DataW.TrodAll enc Tryd.prog W 0 (fun _ => true) true Tryd.f7.params.toList args.toList ds p := hA0
  rw [Tryd.params7] at hA hval
  obtain ⟨v0, vs0, d0, ds0, p0, q0, hargs, rfl, rfl, h0, r0⟩ := trodAll_cons hA
  obtain ⟨v1, vs1, d1, ds1, p1, q1, rfl, rfl, rfl, h1, r1⟩ := trodAll_cons r0
  obtain ⟨rfl, rfl, rfl⟩ := trodAll_nil r1
  obtain rfl : args = #[v0, v1] := by cases args; simp_all
  obtain ⟨rfl, rfl⟩ := trodVars_none hV
  obtain ⟨a0, rfl, rfl, rfl, w0⟩ := open_int Tryd.underlying21 (hval 0 21 v0 rfl rfl) h0
  obtain ⟨a1, rfl, rfl, rfl, w1⟩ := open_int Tryd.underlying26 (hval 1 26 v1 rfl rfl) h1
  clear hA0
  refine (walk a0 a1 w0 w1 W (tab_of hL)).mono fun e W' ⟨he, bel⟩ => ?_
  subst he
  exact ⟨_, rfl, _, _, _, [], _, [], hW', (trodAll_cons_mk (shut_bool Tryd.underlying4 _) trodAll_mk0), (trodAll_cons_mk (shut_int Tryd.underlying21 w0) (trodAll_cons_mk (shut_int Tryd.underlying26 w1) trodAll_mk0)), rfl, bel.frame _, fun h => by cases h⟩


noncomputable def laidWorld (os : Os) : World :=
  { World.holding Tryd.prog os ⟨#[], #[], []⟩ with heap := ((((World.holding Tryd.prog os ⟨#[], #[], []⟩).heap.modify 2 (fun o => match o with | .cells _ t frozen => .cells #[.int .u8 0, .int .u8 1, .int .u8 28, .int .u8 2, .int .u8 29, .int .u8 14, .int .u8 24, .int .u8 3, .int .u8 30, .int .u8 22, .int .u8 20, .int .u8 15, .int .u8 25, .int .u8 17, .int .u8 4, .int .u8 8, .int .u8 31, .int .u8 27, .int .u8 13, .int .u8 23, .int .u8 21, .int .u8 19, .int .u8 16, .int .u8 7, .int .u8 26, .int .u8 12, .int .u8 18, .int .u8 6, .int .u8 11, .int .u8 5, .int .u8 10, .int .u8 9] t frozen | o => o)).modify 3 (fun o => match o with | .cells _ t frozen => .cells #[.int .u8 0, .int .u8 1, .int .u8 56, .int .u8 2, .int .u8 57, .int .u8 49, .int .u8 28, .int .u8 3, .int .u8 61, .int .u8 58, .int .u8 42, .int .u8 50, .int .u8 38, .int .u8 29, .int .u8 17, .int .u8 4, .int .u8 62, .int .u8 47, .int .u8 59, .int .u8 36, .int .u8 45, .int .u8 43, .int .u8 51, .int .u8 22, .int .u8 53, .int .u8 39, .int .u8 33, .int .u8 30, .int .u8 24, .int .u8 18, .int .u8 12, .int .u8 5, .int .u8 63, .int .u8 55, .int .u8 48, .int .u8 27, .int .u8 60, .int .u8 41, .int .u8 37, .int .u8 16, .int .u8 46, .int .u8 35, .int .u8 44, .int .u8 21, .int .u8 52, .int .u8 32, .int .u8 23, .int .u8 11, .int .u8 54, .int .u8 26, .int .u8 40, .int .u8 15, .int .u8 34, .int .u8 20, .int .u8 31, .int .u8 10, .int .u8 25, .int .u8 14, .int .u8 19, .int .u8 9, .int .u8 13, .int .u8 8, .int .u8 7, .int .u8 6] t frozen | o => o)).modify 1 (fun o => match o with | .cells _ t frozen => .cells #[.int .u64 1, .int .u64 10, .int .u64 100, .int .u64 1000, .int .u64 10000, .int .u64 100000, .int .u64 1000000, .int .u64 10000000, .int .u64 100000000, .int .u64 1000000000, .int .u64 10000000000, .int .u64 100000000000, .int .u64 1000000000000, .int .u64 10000000000000, .int .u64 100000000000000, .int .u64 1000000000000000, .int .u64 10000000000000000, .int .u64 100000000000000000, .int .u64 1000000000000000000, .int .u64 10000000000000000000] t frozen | o => o)) }
theorem laid_met (os : Os) : laidMet Tryd.prog Rows.gaugeTextsRow.laid ((laidWorld os).forCall (fun _ _ => 0) ⟨#[], #[.int .i32 0, .int .u64 0], []⟩).memory :=
  laidMet_of_run' 8 (by kernel_rfl) (by kernel_rfl)
theorem reads (os : Os) {H : Type} (enc : TypeId × Value → H) : ∃ places, DataW.whole enc Tryd.prog ((laidWorld os).forCall (fun _ _ => 0) ⟨#[], #[.int .i32 0, .int .u64 0], []⟩).memory Tryd.f7.params.toList Rows.gaugeTextsSpec.vars false (#[.int .i32 0, .int .u64 0] : Array Value).toList 8 = some ([.lit (.int .i32 0), .lit (.int .u64 0)], [], places) :=
  ⟨[], by kernel_rfl⟩

set_option maxRecDepth 100000 in
theorem lifted (os : Os) (started : os.Started) (H : Type) (enc : TypeId × Value → H) (F : Stop.Interp) :
    ReturnsInHanded {} Tryd.checked os 7 .any ((OpenSpec.ofChange Rows.gaugeTextsSpec).preRow enc Tryd.prog Tryd.f7 Rows.gaugeTextsRow.domain false Rows.gaugeTextsRow.laid) (((OpenSpec.ofChange Rows.gaugeTextsSpec).at F).post enc Tryd.prog Tryd.f7 false true false false) := by
  obtain ⟨places, hx⟩ := reads os enc
  refine returnsInHanded_of_row (C := Tryd.checked) (s := OpenSpec.ofChange Rows.gaugeTextsSpec) own started (by kernel_rfl) Tryd.func7
    (witness_row_at (enc := enc) (C := Tryd.checked) false (laidWorld os) #[.int .i32 0, .int .u64 0] rfl (by kernel_rfl) (by kernel_rfl) (by kernel_rfl)
      (OpenSpec.preRow_of_cond 8 hx (by kernel_rfl) (fun k hk => by cases hk) (by kernel_rfl) (laid_met os))) ?_
  intro W base args ds gs before hval hW _ _ _ hL _ _
  exact contract H enc W base args ds gs before hval hW hL

theorem said : Rows.GaugeTextsSaid :=
  OpenClaim.holds_of_cond 7 Tryd.f7 rfl rfl rfl rfl rfl rfl rfl ⟨rfl, rfl, rfl, rfl, rfl⟩ rfl rfl rfl rfl rfl (by kernel_rfl) Tryd.func7 (by kernel_rfl)
    (of_decide_eq_true (by kernel_rfl)) (by unfold Func.isWrapper; first | (rw [if_pos (by decide +kernel)]; kernel_rfl) | (rw [if_neg (by decide +kernel)]; exact ⟨rfl, rfl⟩))
    (fun os started H enc _ F => by rw [OpenClaim.pre_eq_preRow]; exact lifted os started H enc F)

theorem plain (f : FuncId) (fn : Func) (hf : Tryd.pinned.checked.prog.funcNamed "weathervane/weathervanelaw04.GaugeTexts" = some f) (hfn : Tryd.pinned.checked.prog.funcs[f]? = some fn) :
    false = Tryd.pinned.checked.prog.looks [] ∧ ∀ (j : Nat) t, fn.params[j]? = some t → Tryd.pinned.checked.prog.wantsStandIn t = false := by
  obtain rfl : f = 7 := Option.some.inj ((show Tryd.prog.funcNamed "weathervane/weathervanelaw04.GaugeTexts" = some 7 by kernel_rfl).symm.trans hf) |>.symm
  obtain rfl : fn = Tryd.f7 := (Option.some.inj (Tryd.func7.symm.trans hfn)).symm
  refine ⟨by kernel_rfl, fun j t ht => ?_⟩
  rw [Tryd.params7] at ht
  have ht2 : t = 21 ∨ t = 26 := by simpa using Array.mem_of_getElem? ht
  rcases ht2 with rfl | rfl
  · exact (show Tryd.prog.wantsStandIn 21 = false by kernel_rfl)
  · exact (show Tryd.prog.wantsStandIn 26 = false by kernel_rfl)
end Go.Proofs.YtkjnimmehjccbaaDoor.gaugeTexts
namespace Go.Proofs.YtkjnimmehjccbaaDoor
theorem gaugeTexts_holds : Rows.GaugeTextsCardSaid :=
  Claim7.holds_tied_plain_at .later [] _ _ _ _ gaugeTexts.said (fun _ h => by cases h) (by kernel_rfl) (fun _ h => by cases h) gaugeTexts_row_tie rfl ⟨rfl, rfl⟩ (by kernel_rfl) rfl gaugeTexts.plain (by kernel_rfl)
#print axioms gaugeTexts_holds
end Go.Proofs.YtkjnimmehjccbaaDoor
