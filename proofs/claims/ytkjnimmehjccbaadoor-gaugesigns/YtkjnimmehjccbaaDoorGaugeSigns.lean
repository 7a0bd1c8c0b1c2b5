/-
  GaugeSigns (tied card): for any byte the law returns true: of both noughts the one with a sign is less, what is no number less than no end below 0. Conditions: the library's tables hold what the program's text lays (the card ties them).
-/
import Derived.Test.YtkjnimmehjccbaaDoorCards
import Derived.Test.YtkjnimmehjccbaaDoorTie
import Derived.WalkKit
import Derived.Test.YtkjnimmehjccbaaDoorMean
import Derived.ProofKit
import Derived.OpenShut
import Derived.ShutString
import Derived.ChangeOld
import Derived.Below
import Derived.Deep.DeepHandedRow
import Derived.Lib.LaidTab
import Derived.LaidSub
namespace Go.Proofs.YtkjnimmehjccbaaDoor.gaugeSigns
open Go.ChangeShapes Go.WideShapes Go.ChangeAt Go.RowKit
open Go.ChangeMaps (open_string shut_string)
set_option linter.unusedVariables false

theorem own : ownKnob Tryd.prog.godebug = none := by kernel_rfl
theorem laidOut : laidOutB Tryd.prog = true := by kernel_rfl
theorem gTabType : (Tryd.prog.globals[1]?).map (·.type) = some 58 := by kernel_rfl
theorem tab_of {W : World} (h : laidMetH Tryd.prog Rows.gaugeSignsRow.laid W) : Tab W :=
  Lib.tabIs_of_head (rest := []) gPow gTabType Tryd.underlying58 Tryd.underlying26 (by kernel_rfl) (by kernel_rfl) (laidMetH.filter (fun x => x.1 == "internal/strconv.uint64pow10") h)
theorem best_unique {l : List Nat} {k i j : Nat} (hi : IsBest l k i) (hj : IsBest l k j) : i = j := by
  rcases Nat.lt_trichotomy i j with h | h | h
  · have h1 := hj.2.2 i h
    have h2 := hi.2.1 j hj.1
    rw [h1] at h2; cases h2
  · exact h
  · have h1 := hi.2.2 j h
    have h2 := hj.2.1 i hi.1
    rw [h1] at h2; cases h2
theorem best_exact (A : Option Addr) (c n : Nat) (l : List Nat) (j : Nat) (w : World) (hn : l.length = n) (h : FS w A l) (hl : l.length ≤ 1000) (hw : ∀ x ∈ l, x < 18446744073709551616) (hj : IsBest l n j) :
    Calls Tryd.prog 20 #[.slice A n c] w fun e w' => e = .returned (.int .i64 j) ∧ w = w' := by
  subst hn
  refine (best_any A c l w h hl hw).mono ?_
  rintro e w' ⟨z, rfl, hz, rfl⟩
  rcases hz with ⟨h1, rfl⟩ | ⟨i, rfl, hb⟩
  · have := hj.1; omega
  · rw [best_unique hb hj]; exact ⟨rfl, rfl⟩
theorem less_is (a b : Nat) (v : Bool) (h : lessW a b = v) (w : World) (ha : a < 18446744073709551616) (hb : b < 18446744073709551616) : Calls Tryd.prog 19 #[.float .f64 a, .float .f64 b] w fun e w' => e = .returned (.bool v) ∧ w = w' := by
  subst h
  exact less_any a b w ha hb

theorem fs_new (w : World) (l : List Nat) (L : List Nat) (t : TypeId) (hp : l <+: L) : FS (w.alloc (.cells ((L.map F).toArray) t)) (some ⟨w.heap.size, 0, none⟩) l := fun _ => by
  refine ⟨w.heap.size, 0, rfl, fun k hk => ?_⟩
  rw [cell_of_row _ w.heap.size (0 + k) _ t (0, 0) (heap_alloc_new w _), Nat.zero_add]
  obtain ⟨r, rfl⟩ := hp
  rw [List.map_append, List.getElem?_toArray, List.getElem?_append_left (by simpa using hk)]
  simp [List.getD, hk]

set_option maxRecDepth 20000 in
set_option maxHeartbeats 2000000 in
theorem walk_0 (n : Int) (w : World) (hT : Tab w) (hn0 : 0 ≤ n) (hn : n ≤ 255) (hm : n % 4 = 0) :
    Calls Tryd.prog 9 #[.int .u8 n] w fun e w' => e = .returned (.bool true) ∧ Below w.heap.size w w' := by
  have HT := Lib.hid hT
  have HF := Lib.hid (fs_new w [9223372036854775808] [9223372036854775808, 0, 9221120237041090561, 18442240474082181120] 22 (by decide))
  have hB0 : Hid (Below w.heap.size w (w.alloc (.cells (([9223372036854775808, 0, 9221120237041090561, 18442240474082181120].map F).toArray) 22))) := (Below.refl _ _).alloc (Nat.le_refl _) _
  clear hT
  go_enter Tryd.func9, Tryd.ntmps9
  go_wp2_with fail
  refine (copysign_neg _).mono ?_
  rintro e w1 ⟨rfl, rfl⟩
  go_wp2_with fail
  refine (nan_any _).mono ?_
  rintro e w1 ⟨rfl, rfl⟩
  go_wp2_with fail
  refine (inf_neg _).mono ?_
  rintro e w1 ⟨rfl, rfl⟩
  go_wp2_with fail
  refine (best_exact _ _ _ [9223372036854775808] 0 _ rfl HF.out (by decide) (by decide) (by unfold IsBest; decide +kernel)).mono ?_
  rintro e w1 ⟨rfl, rfl⟩
  go_wp2_with fail
  have hB1 := Lib.hid (hB0.out.alloc (B := w.heap.size) (by simp) (.cells #[.int .i64 0, .int .i64 1, .int .i64 1, .int .i64 1] 3))
  refine (awake_any _ (HT.out.old hB1.out)).mono ?_
  rintro e w2 ⟨rfl, hb⟩
  have HB2 := Lib.hid (hB1.out.trans (hb.mono hB1.out.size))
  clear hb
  go_wp2_with fail
  refine (less_is _ _ true (by decide +kernel) _ (by decide) (by decide)).mono ?_
  rintro e w3 ⟨rfl, rfl⟩
  go_wp2_with fail
  refine (less_is _ _ false (by decide +kernel) _ (by decide) (by decide)).mono ?_
  rintro e w3 ⟨rfl, rfl⟩
  go_wp2_with fail
  refine (nan_any _).mono ?_
  rintro e w3 ⟨rfl, rfl⟩
  go_wp2_with fail
  refine (inf_neg _).mono ?_
  rintro e w3 ⟨rfl, rfl⟩
  go_wp2_with fail
  refine (less_is _ _ true (by decide +kernel) _ (by decide) (by decide)).mono ?_
  rintro e w3 ⟨rfl, rfl⟩
  go_wp2_with fail
  refine (nan_any _).mono ?_
  rintro e w3 ⟨rfl, rfl⟩
  go_wp2_with fail
  refine (nan_any _).mono ?_
  rintro e w3 ⟨rfl, rfl⟩
  go_wp2_with fail
  refine (less_is _ _ false (by decide +kernel) _ (by decide) (by decide)).mono ?_
  rintro e w3 ⟨rfl, rfl⟩
  go_wp2
  go_ret
  exact ⟨rfl, HB2.out⟩

set_option maxRecDepth 20000 in
set_option maxHeartbeats 2000000 in
theorem walk_1 (n : Int) (w : World) (hT : Tab w) (hn0 : 0 ≤ n) (hn : n ≤ 255) (hm : n % 4 = 1) :
    Calls Tryd.prog 9 #[.int .u8 n] w fun e w' => e = .returned (.bool true) ∧ Below w.heap.size w w' := by
  have HT := Lib.hid hT
  have HF := Lib.hid (fs_new w [9223372036854775808, 0] [9223372036854775808, 0, 9221120237041090561, 18442240474082181120] 22 (by decide))
  have hB0 : Hid (Below w.heap.size w (w.alloc (.cells (([9223372036854775808, 0, 9221120237041090561, 18442240474082181120].map F).toArray) 22))) := (Below.refl _ _).alloc (Nat.le_refl _) _
  clear hT
  go_enter Tryd.func9, Tryd.ntmps9
  go_wp2_with fail
  refine (copysign_neg _).mono ?_
  rintro e w1 ⟨rfl, rfl⟩
  go_wp2_with fail
  refine (nan_any _).mono ?_
  rintro e w1 ⟨rfl, rfl⟩
  go_wp2_with fail
  refine (inf_neg _).mono ?_
  rintro e w1 ⟨rfl, rfl⟩
  go_wp2_with fail
  refine (best_exact _ _ _ [9223372036854775808, 0] 1 _ rfl HF.out (by decide) (by decide) (by unfold IsBest; decide +kernel)).mono ?_
  rintro e w1 ⟨rfl, rfl⟩
  go_wp2_with fail
  have hB1 := Lib.hid (hB0.out.alloc (B := w.heap.size) (by simp) (.cells #[.int .i64 0, .int .i64 1, .int .i64 1, .int .i64 1] 3))
  refine (awake_any _ (HT.out.old hB1.out)).mono ?_
  rintro e w2 ⟨rfl, hb⟩
  have HB2 := Lib.hid (hB1.out.trans (hb.mono hB1.out.size))
  clear hb
  go_wp2_with fail
  refine (less_is _ _ true (by decide +kernel) _ (by decide) (by decide)).mono ?_
  rintro e w3 ⟨rfl, rfl⟩
  go_wp2_with fail
  refine (less_is _ _ false (by decide +kernel) _ (by decide) (by decide)).mono ?_
  rintro e w3 ⟨rfl, rfl⟩
  go_wp2_with fail
  refine (nan_any _).mono ?_
  rintro e w3 ⟨rfl, rfl⟩
  go_wp2_with fail
  refine (inf_neg _).mono ?_
  rintro e w3 ⟨rfl, rfl⟩
  go_wp2_with fail
  refine (less_is _ _ true (by decide +kernel) _ (by decide) (by decide)).mono ?_
  rintro e w3 ⟨rfl, rfl⟩
  go_wp2_with fail
  refine (nan_any _).mono ?_
  rintro e w3 ⟨rfl, rfl⟩
  go_wp2_with fail
  refine (nan_any _).mono ?_
  rintro e w3 ⟨rfl, rfl⟩
  go_wp2_with fail
  refine (less_is _ _ false (by decide +kernel) _ (by decide) (by decide)).mono ?_
  rintro e w3 ⟨rfl, rfl⟩
  go_wp2
  go_ret
  exact ⟨rfl, HB2.out⟩

set_option maxRecDepth 20000 in
set_option maxHeartbeats 2000000 in
theorem walk_2 (n : Int) (w : World) (hT : Tab w) (hn0 : 0 ≤ n) (hn : n ≤ 255) (hm : n % 4 = 2) :
    Calls Tryd.prog 9 #[.int .u8 n] w fun e w' => e = .returned (.bool true) ∧ Below w.heap.size w w' := by
  have HT := Lib.hid hT
  have HF := Lib.hid (fs_new w [9223372036854775808, 0, 9221120237041090561] [9223372036854775808, 0, 9221120237041090561, 18442240474082181120] 22 (by decide))
  have hB0 : Hid (Below w.heap.size w (w.alloc (.cells (([9223372036854775808, 0, 9221120237041090561, 18442240474082181120].map F).toArray) 22))) := (Below.refl _ _).alloc (Nat.le_refl _) _
  clear hT
  go_enter Tryd.func9, Tryd.ntmps9
  go_wp2_with fail
  refine (copysign_neg _).mono ?_
  rintro e w1 ⟨rfl, rfl⟩
  go_wp2_with fail
  refine (nan_any _).mono ?_
  rintro e w1 ⟨rfl, rfl⟩
  go_wp2_with fail
  refine (inf_neg _).mono ?_
  rintro e w1 ⟨rfl, rfl⟩
  go_wp2_with fail
  refine (best_exact _ _ _ [9223372036854775808, 0, 9221120237041090561] 1 _ rfl HF.out (by decide) (by decide) (by unfold IsBest; decide +kernel)).mono ?_
  rintro e w1 ⟨rfl, rfl⟩
  go_wp2_with fail
  have hB1 := Lib.hid (hB0.out.alloc (B := w.heap.size) (by simp) (.cells #[.int .i64 0, .int .i64 1, .int .i64 1, .int .i64 1] 3))
  refine (awake_any _ (HT.out.old hB1.out)).mono ?_
  rintro e w2 ⟨rfl, hb⟩
  have HB2 := Lib.hid (hB1.out.trans (hb.mono hB1.out.size))
  clear hb
  go_wp2_with fail
  refine (less_is _ _ true (by decide +kernel) _ (by decide) (by decide)).mono ?_
  rintro e w3 ⟨rfl, rfl⟩
  go_wp2_with fail
  refine (less_is _ _ false (by decide +kernel) _ (by decide) (by decide)).mono ?_
  rintro e w3 ⟨rfl, rfl⟩
  go_wp2_with fail
  refine (nan_any _).mono ?_
  rintro e w3 ⟨rfl, rfl⟩
  go_wp2_with fail
  refine (inf_neg _).mono ?_
  rintro e w3 ⟨rfl, rfl⟩
  go_wp2_with fail
  refine (less_is _ _ true (by decide +kernel) _ (by decide) (by decide)).mono ?_
  rintro e w3 ⟨rfl, rfl⟩
  go_wp2_with fail
  refine (nan_any _).mono ?_
  rintro e w3 ⟨rfl, rfl⟩
  go_wp2_with fail
  refine (nan_any _).mono ?_
  rintro e w3 ⟨rfl, rfl⟩
  go_wp2_with fail
  refine (less_is _ _ false (by decide +kernel) _ (by decide) (by decide)).mono ?_
  rintro e w3 ⟨rfl, rfl⟩
  go_wp2
  go_ret
  exact ⟨rfl, HB2.out⟩

set_option maxRecDepth 20000 in
set_option maxHeartbeats 2000000 in
theorem walk_3 (n : Int) (w : World) (hT : Tab w) (hn0 : 0 ≤ n) (hn : n ≤ 255) (hm : n % 4 = 3) :
    Calls Tryd.prog 9 #[.int .u8 n] w fun e w' => e = .returned (.bool true) ∧ Below w.heap.size w w' := by
  have HT := Lib.hid hT
  have HF := Lib.hid (fs_new w [9223372036854775808, 0, 9221120237041090561, 18442240474082181120] [9223372036854775808, 0, 9221120237041090561, 18442240474082181120] 22 (by decide))
  have hB0 : Hid (Below w.heap.size w (w.alloc (.cells (([9223372036854775808, 0, 9221120237041090561, 18442240474082181120].map F).toArray) 22))) := (Below.refl _ _).alloc (Nat.le_refl _) _
  clear hT
  go_enter Tryd.func9, Tryd.ntmps9
  go_wp2_with fail
  refine (copysign_neg _).mono ?_
  rintro e w1 ⟨rfl, rfl⟩
  go_wp2_with fail
  refine (nan_any _).mono ?_
  rintro e w1 ⟨rfl, rfl⟩
  go_wp2_with fail
  refine (inf_neg _).mono ?_
  rintro e w1 ⟨rfl, rfl⟩
  go_wp2_with fail
  refine (best_exact _ _ _ [9223372036854775808, 0, 9221120237041090561, 18442240474082181120] 1 _ rfl HF.out (by decide) (by decide) (by unfold IsBest; decide +kernel)).mono ?_
  rintro e w1 ⟨rfl, rfl⟩
  go_wp2_with fail
  have hB1 := Lib.hid (hB0.out.alloc (B := w.heap.size) (by simp) (.cells #[.int .i64 0, .int .i64 1, .int .i64 1, .int .i64 1] 3))
  refine (awake_any _ (HT.out.old hB1.out)).mono ?_
  rintro e w2 ⟨rfl, hb⟩
  have HB2 := Lib.hid (hB1.out.trans (hb.mono hB1.out.size))
  clear hb
  go_wp2_with fail
  refine (less_is _ _ true (by decide +kernel) _ (by decide) (by decide)).mono ?_
  rintro e w3 ⟨rfl, rfl⟩
  go_wp2_with fail
  refine (less_is _ _ false (by decide +kernel) _ (by decide) (by decide)).mono ?_
  rintro e w3 ⟨rfl, rfl⟩
  go_wp2_with fail
  refine (nan_any _).mono ?_
  rintro e w3 ⟨rfl, rfl⟩
  go_wp2_with fail
  refine (inf_neg _).mono ?_
  rintro e w3 ⟨rfl, rfl⟩
  go_wp2_with fail
  refine (less_is _ _ true (by decide +kernel) _ (by decide) (by decide)).mono ?_
  rintro e w3 ⟨rfl, rfl⟩
  go_wp2_with fail
  refine (nan_any _).mono ?_
  rintro e w3 ⟨rfl, rfl⟩
  go_wp2_with fail
  refine (nan_any _).mono ?_
  rintro e w3 ⟨rfl, rfl⟩
  go_wp2_with fail
  refine (less_is _ _ false (by decide +kernel) _ (by decide) (by decide)).mono ?_
  rintro e w3 ⟨rfl, rfl⟩
  go_wp2
  go_ret
  exact ⟨rfl, HB2.out⟩

theorem walk (a0 : Int) (w0 : (Lit.int .u8 a0).wf = true) (w : World) (hT : Tab w) :
    Calls Tryd.prog 9 #[.int .u8 a0] w fun e w' => e = .returned (.bool true) ∧ Below w.heap.size w w' := by
  have b := bounds_u8 w0
  have h : a0 % 4 = 0 ∨ a0 % 4 = 1 ∨ a0 % 4 = 2 ∨ a0 % 4 = 3 := by omega
  rcases h with h | h | h | h
  · exact walk_0 a0 w hT b.1 b.2 h
  · exact walk_1 a0 w hT b.1 b.2 h
  · exact walk_2 a0 w hT b.1 b.2 h
  · exact walk_3 a0 w hT b.1 b.2 h

theorem contract (H : Type) (enc : TypeId × Value → H) (W : World) (base : Nat) (args : Array Value) (ds gs : List (DataW H)) (before : List MemPlace)
    (hval : ∀ (j : Nat) t v, Tryd.f9.params[j]? = some t → args[j]? = some v → Value.okWide Tryd.prog W .any base t v)
    (hW : DataW.Whole enc Tryd.prog Tryd.f9.params.toList Rows.gaugeSignsSpec.vars false W args.toList ds gs before) (hL : laidMetH Tryd.prog Rows.gaugeSignsRow.laid W) :
    Calls Tryd.prog 9 args W fun e W' => ∃ v, e = .returned v ∧ Rows.gaugeSignsSpec.post enc Tryd.prog Tryd.f9 false true false false W args v W' := by
  have hW' := hW
  obtain ⟨p, q, hA0, hV, rfl, hfz, hnd⟩ := hW
  have hA : DataW.TrodAll enc Tryd.prog W 0 (fun _ => true) true Tryd.f9.params.toList args.toList ds p := hA0
  rw [Tryd.params9] at hA hval
  obtain ⟨v0, vs0, d0, ds0, p0, q0, hargs, rfl, rfl, h0, r0⟩ := trodAll_cons hA
  obtain ⟨rfl, rfl, rfl⟩ := trodAll_nil r0
  obtain rfl : args = #[v0] := by cases args; simp_all
  obtain ⟨rfl, rfl⟩ := trodVars_none hV
  obtain ⟨a0, rfl, rfl, rfl, w0⟩ := open_int Tryd.underlying5 (hval 0 5 v0 rfl rfl) h0
  clear hA0
  refine (walk a0 w0 W (tab_of hL)).mono fun e W' ⟨he, bel⟩ => ?_
  subst he
  exact ⟨_, rfl, _, _, _, [], _, [], hW', (trodAll_cons_mk (shut_bool Tryd.underlying4 _) trodAll_mk0), (trodAll_cons_mk (shut_int Tryd.underlying5 w0) trodAll_mk0), rfl, bel.frame _, fun h => by cases h⟩


noncomputable def laidWorld (os : Os) : World :=
  { World.holding Tryd.prog os ⟨#[], #[], []⟩ with heap := ((((World.holding Tryd.prog os ⟨#[], #[], []⟩).heap.modify 2 (fun o => match o with | .cells _ t frozen => .cells #[.int .u8 0, .int .u8 1, .int .u8 28, .int .u8 2, .int .u8 29, .int .u8 14, .int .u8 24, .int .u8 3, .int .u8 30, .int .u8 22, .int .u8 20, .int .u8 15, .int .u8 25, .int .u8 17, .int .u8 4, .int .u8 8, .int .u8 31, .int .u8 27, .int .u8 13, .int .u8 23, .int .u8 21, .int .u8 19, .int .u8 16, .int .u8 7, .int .u8 26, .int .u8 12, .int .u8 18, .int .u8 6, .int .u8 11, .int .u8 5, .int .u8 10, .int .u8 9] t frozen | o => o)).modify 3 (fun o => match o with | .cells _ t frozen => .cells #[.int .u8 0, .int .u8 1, .int .u8 56, .int .u8 2, .int .u8 57, .int .u8 49, .int .u8 28, .int .u8 3, .int .u8 61, .int .u8 58, .int .u8 42, .int .u8 50, .int .u8 38, .int .u8 29, .int .u8 17, .int .u8 4, .int .u8 62, .int .u8 47, .int .u8 59, .int .u8 36, .int .u8 45, .int .u8 43, .int .u8 51, .int .u8 22, .int .u8 53, .int .u8 39, .int .u8 33, .int .u8 30, .int .u8 24, .int .u8 18, .int .u8 12, .int .u8 5, .int .u8 63, .int .u8 55, .int .u8 48, .int .u8 27, .int .u8 60, .int .u8 41, .int .u8 37, .int .u8 16, .int .u8 46, .int .u8 35, .int .u8 44, .int .u8 21, .int .u8 52, .int .u8 32, .int .u8 23, .int .u8 11, .int .u8 54, .int .u8 26, .int .u8 40, .int .u8 15, .int .u8 34, .int .u8 20, .int .u8 31, .int .u8 10, .int .u8 25, .int .u8 14, .int .u8 19, .int .u8 9, .int .u8 13, .int .u8 8, .int .u8 7, .int .u8 6] t frozen | o => o)).modify 1 (fun o => match o with | .cells _ t frozen => .cells #[.int .u64 1, .int .u64 10, .int .u64 100, .int .u64 1000, .int .u64 10000, .int .u64 100000, .int .u64 1000000, .int .u64 10000000, .int .u64 100000000, .int .u64 1000000000, .int .u64 10000000000, .int .u64 100000000000, .int .u64 1000000000000, .int .u64 10000000000000, .int .u64 100000000000000, .int .u64 1000000000000000, .int .u64 10000000000000000, .int .u64 100000000000000000, .int .u64 1000000000000000000, .int .u64 10000000000000000000] t frozen | o => o)) }
theorem laid_met (os : Os) : laidMet Tryd.prog Rows.gaugeSignsRow.laid ((laidWorld os).forCall (fun _ _ => 0) ⟨#[], #[.int .u8 0], []⟩).memory :=
  laidMet_of_run' 8 (by kernel_rfl) (by kernel_rfl)
theorem reads (os : Os) {H : Type} (enc : TypeId × Value → H) : ∃ places, DataW.whole enc Tryd.prog ((laidWorld os).forCall (fun _ _ => 0) ⟨#[], #[.int .u8 0], []⟩).memory Tryd.f9.params.toList Rows.gaugeSignsSpec.vars false (#[.int .u8 0] : Array Value).toList 8 = some ([.lit (.int .u8 0)], [], places) :=
  ⟨[], by kernel_rfl⟩

set_option maxRecDepth 100000 in
theorem lifted (os : Os) (started : os.Started) (H : Type) (enc : TypeId × Value → H) (F : Stop.Interp) :
    ReturnsInHanded {} Tryd.checked os 9 .any ((OpenSpec.ofChange Rows.gaugeSignsSpec).preRow enc Tryd.prog Tryd.f9 Rows.gaugeSignsRow.domain false Rows.gaugeSignsRow.laid) (((OpenSpec.ofChange Rows.gaugeSignsSpec).at F).post enc Tryd.prog Tryd.f9 false true false false) := by
  obtain ⟨places, hx⟩ := reads os enc
  refine returnsInHanded_of_row (C := Tryd.checked) (s := OpenSpec.ofChange Rows.gaugeSignsSpec) own started (by kernel_rfl) Tryd.func9
    (witness_row_at (enc := enc) (C := Tryd.checked) false (laidWorld os) #[.int .u8 0] rfl (by kernel_rfl) (by kernel_rfl) (by kernel_rfl)
      (OpenSpec.preRow_of_cond 8 hx (by kernel_rfl) (fun k hk => by cases hk) (by kernel_rfl) (laid_met os))) ?_
  intro W base args ds gs before hval hW _ _ _ hL _ _
  exact contract H enc W base args ds gs before hval hW hL

theorem said : Rows.GaugeSignsSaid :=
  OpenClaim.holds_of_cond 9 Tryd.f9 rfl rfl rfl rfl rfl rfl rfl ⟨rfl, rfl, rfl, rfl, rfl⟩ rfl rfl rfl rfl rfl (by kernel_rfl) Tryd.func9 (by kernel_rfl)
    (of_decide_eq_true (by kernel_rfl)) (by unfold Func.isWrapper; first | (rw [if_pos (by decide +kernel)]; kernel_rfl) | (rw [if_neg (by decide +kernel)]; exact ⟨rfl, rfl⟩))
    (fun os started H enc _ F => by rw [OpenClaim.pre_eq_preRow]; exact lifted os started H enc F)

theorem plain (f : FuncId) (fn : Func) (hf : Tryd.pinned.checked.prog.funcNamed "weathervane/weathervanelaw04.GaugeSigns" = some f) (hfn : Tryd.pinned.checked.prog.funcs[f]? = some fn) :
    false = Tryd.pinned.checked.prog.looks [] ∧ ∀ (j : Nat) t, fn.params[j]? = some t → Tryd.pinned.checked.prog.wantsStandIn t = false := by
  obtain rfl : f = 9 := Option.some.inj ((show Tryd.prog.funcNamed "weathervane/weathervanelaw04.GaugeSigns" = some 9 by kernel_rfl).symm.trans hf) |>.symm
  obtain rfl : fn = Tryd.f9 := (Option.some.inj (Tryd.func9.symm.trans hfn)).symm
  refine ⟨by kernel_rfl, fun j t ht => ?_⟩
  rw [Tryd.params9] at ht
  have ht2 : t = 5 := by simpa using Array.mem_of_getElem? ht
  subst ht2
  exact (show Tryd.prog.wantsStandIn 5 = false by kernel_rfl)
end Go.Proofs.YtkjnimmehjccbaaDoor.gaugeSigns
namespace Go.Proofs.YtkjnimmehjccbaaDoor
theorem gaugeSigns_holds : Rows.GaugeSignsCardSaid :=
  Claim7.holds_tied_plain_at .later [] _ _ _ _ gaugeSigns.said (fun _ h => by cases h) (by kernel_rfl) (fun _ h => by cases h) gaugeSigns_row_tie rfl ⟨rfl, rfl⟩ (by kernel_rfl) rfl gaugeSigns.plain (by kernel_rfl)
#print axioms gaugeSigns_holds
end Go.Proofs.YtkjnimmehjccbaaDoor
