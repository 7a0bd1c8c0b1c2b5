/-
  GaugeSame (tied card): for any int32 and any byte the law returns true: the mean of a number that stands so often is it. Conditions: the library's tables hold what the program's text lays (the card ties them).
-/
import Derived.Test.YtkjnimmehjccbaaDoorCards
import Derived.Test.YtkjnimmehjccbaaDoorTie
import Derived.WalkKit
import Derived.Test.YtkjnimmehjccbaaDoorMean
import Derived.ProofKit
import Derived.OpenShut
import Derived.ShutString
import Derived.ChangeOld
import Derived.Below
import Derived.Deep.DeepHandedRow
import Derived.Lib.LaidTab
import Derived.LaidSub
namespace Go.Proofs.YtkjnimmehjccbaaDoor.gaugeSame
open Go.ChangeShapes Go.WideShapes Go.ChangeAt Go.RowKit
open Go.ChangeMaps (open_string shut_string)
set_option linter.unusedVariables false

theorem own : ownKnob Tryd.prog.godebug = none := by kernel_rfl
theorem laidOut : laidOutB Tryd.prog = true := by kernel_rfl
theorem gTabType : (Tryd.prog.globals[1]?).map (·.type) = some 58 := by kernel_rfl
theorem tab_of {W : World} (h : laidMetH Tryd.prog Rows.gaugeSameRow.laid W) : Tab W :=
  Lib.tabIs_of_head (rest := []) gPow gTabType Tryd.underlying58 Tryd.underlying26 (by kernel_rfl) (by kernel_rfl) (laidMetH.filter (fun x => x.1 == "internal/strconv.uint64pow10") h)
theorem i32_of_wf {x : Int} (h : (Lit.int .i32 x).wf = true) : -2147483648 ≤ x ∧ x ≤ 2147483647 := by
  simpa [Lit.wf, IntKind.min, IntKind.max, IntKind.bits, IntKind.signed] using h
theorem info22 : (Tryd.prog.info? 22).map (fun i => (i.zero, i.size, i.bytes)) = some (some (.float .f64 0), 1, 8) := by kernel_rfl

/-- The sum of a whole number that stands so often is exact. -/
theorem sum_rep (x : Int) (hx : -2147483648 ≤ x ∧ x ≤ 2147483647) (n : Nat) (hn : n ≤ 255) : ∃ s, sumO (List.replicate n (floatOfInt .f64 x)) = some s ∧ IsV s (((n : Int) * x) * (2 ^ E1 : Nat)) := by
  induction n with
  | zero => exact ⟨0, rfl, by
      have := ofInt_isV 0 (by decide)
      rw [show floatOfInt .f64 0 = 0 from by decide +kernel] at this
      simpa using this⟩
  | succ n ih =>
    obtain ⟨s, h1, h2⟩ := ih (by omega)
    rw [List.replicate_succ', sumO_snoc, h1]
    have hx2 := ofInt_isV x (by omega)
    have hb : ((((n + 1 : Nat) : Int)) * x).natAbs < 9007199254740992 := by
      rw [Int.natAbs_mul]
      have h3 : x.natAbs ≤ 2147483648 := by omega
      have h4 : ((n + 1 : Nat) : Int).natAbs ≤ 255 := by omega
      exact Nat.lt_of_le_of_lt (Nat.mul_le_mul h4 h3) (by decide)
    have e : ((n : Int) * x) * (2 ^ E1 : Nat) + x * (2 ^ E1 : Nat) = (((n + 1 : Nat) : Int) * x) * (2 ^ E1 : Nat) := by
      rw [← Int.add_mul, show ((n + 1 : Nat) : Int) * x = (n : Int) * x + x from by rw [Int.natCast_add, Int.add_mul]; simp]
    have := add_exact h2 hx2 (by rw [e]; exact rep_int _ hb E1 (by rw [E1_eq]; omega))
    rw [e] at this
    exact this
theorem mean_rep (x : Int) (hx : -2147483648 ≤ x ∧ x ≤ 2147483647) (n : Nat) (h0 : 0 < n) (hn : n ≤ 255) : meanO (List.replicate n (floatOfInt .f64 x)) = some (floatOfInt .f64 x) := by
  obtain ⟨s, h1, h2⟩ := sum_rep x hx n hn
  have hx2 := ofInt_isV x (by omega)
  have hn2 := ofInt_isV n (by omega)
  have hP := Nat.two_pow_pos E1
  have hPi : (0 : Int) < ((2 ^ E1 : Nat) : Int) := Int.natCast_pos.2 hP
  obtain ⟨c, h3, h4⟩ := div_exact (z := x * (2 ^ E1 : Nat)) h2 hn2 (Int.mul_pos (by omega) hPi)
    (by simp only [Int.natAbs_mul, Int.natAbs_natCast]; generalize (2 : Nat) ^ E1 = P; ac_rfl)
    (by rw [neg_scaled, neg_scaled, decide_eq_decide]
        constructor
        · intro h
          rcases Int.lt_or_le x 0 with h5 | h5
          · exact h5
          · have := Int.mul_nonneg (show (0 : Int) ≤ n by omega) h5; omega
        · intro h; exact Int.mul_neg_of_pos_of_neg (by omega) h)
    (rep_int x (by omega) E1 (by rw [E1_eq]; omega))
  unfold meanO
  rw [h1, List.length_replicate]
  show floatBits .quo .f64 s _ = _
  rw [h3, isV_inj h4 hx2]

theorem best_nil (w : World) : Calls Tryd.prog 20 #[.slice none 0 0] w fun e w' => e = .returned (.int .i64 (-1)) ∧ w = w' := by
  refine (best_any none 0 [] w (fun h => by simp at h) (by simp) (by simp)).mono ?_
  rintro e w' ⟨z, rfl, hz, rfl⟩
  rcases hz with ⟨_, rfl⟩ | ⟨j, rfl, hb⟩
  · exact ⟨rfl, rfl⟩
  · have := hb.1; simp at this
theorem best_rep (A : Option Addr) (c n : Nat) (x : Nat) (w : World) (h : FS w A (List.replicate n x)) (h0 : 0 < n) (hn : n ≤ 255) (hx : x < 18446744073709551616) : Calls Tryd.prog 20 #[.slice A n c] w fun e w' => e = .returned (.int .i64 0) ∧ w = w' := by
  have := best_any A c (List.replicate n x) w h (by rw [List.length_replicate]; omega) (by intro y hy; rw [List.mem_replicate] at hy; omega)
  rw [List.length_replicate] at this
  refine this.mono ?_
  rintro e w' ⟨z, rfl, hz, rfl⟩
  rcases hz with ⟨h1, rfl⟩ | ⟨j, rfl, hb⟩
  · omega
  · have hj : j = 0 := by
      rcases Nat.eq_zero_or_pos j with h1 | h1
      · exact h1
      · have h2 := hb.2.2 0 h1
        have h3 := hb.1
        unfold lessW at h2
        simp [List.getD, h0, h3] at h2
    subst hj
    exact ⟨rfl, rfl⟩

set_option maxRecDepth 20000 in
set_option maxHeartbeats 2000000 in
theorem walk_nat (x : Int) (n : Nat) (w : World) (hT : Tab w) (b1 : -2147483648 ≤ x) (b2 : x ≤ 2147483647) (hn : n ≤ 255) :
    Calls Tryd.prog 8 #[.int .i32 x, .int .u8 n] w fun e w' => e = .returned (.bool true) ∧ Below w.heap.size w w' := by
  obtain ⟨i0, hi0, hz0, hz1, hz2⟩ := info_parts info22
  have HT := Lib.hid hT
  clear hT
  go_enter Tryd.func8, Tryd.ntmps8
  go_wp2_with fail
  go_loopw [5, 6] (fun v i wr => ∃ k : Nat, k ≤ n ∧ i = .int .i64 k ∧ Hid (wr.ownsRow w.heap.size 22 1 v k ((List.replicate k (floatOfInt .f64 x)).map F)) ∧ Hid (Below w.heap.size w wr)) (fun _ i _ => n - (intOf i).toNat)
  case atStart => exact ⟨0, Nat.zero_le _, rfl, World.ownsRow_nil _ _ _ _, Below.refl _ _⟩
  case round =>
    obtain ⟨k, hk, rfl, hO, hB⟩ := hrel
    by_cases hlt : k < n
    · go_wp2_with (at_builtin; refine wpList_append_own_at _ rfl _ _ 30 rfl w.heap.size 22 i0 (.float .f64 0) 1 8 Tryd.underlying30 hi0 hz0 hz1 hz2 rfl (by decide) u5 _ _ rfl (hO.out.alloc _) ⟨wr.heap.size, 0, none⟩ 1 1 [F (floatOfInt .f64 x)] rfl rfl ?c2 ?c3 ?c4 ?c5 ?c6 ?_)
      case c2 => exact cell_one_new wr (F (floatOfInt .f64 x)) 22
      case c3 => intro u hu; simp at hu; subst hu; rfl
      case c4 => unfold maxLen; omega
      case c5 => omega
      case c6 => have := hB.out.size; simp; omega
      intro v2 w2 hown hg _ _
      have HO2 : Hid (w2.ownsRow w.heap.size 22 1 v2 (k + 1) ((List.replicate (k + 1) (floatOfInt .f64 x)).map F)) := by
        show w2.ownsRow _ _ _ _ _ _
        rw [List.replicate_succ', List.map_append]
        simpa using hown
      have HB2 := Lib.hid ((hB.out.alloc hB.out.size _).grown hg (by have := hB.out.size; simp; omega) (fun j hj => (hO.out.lt j hj).1))
      clear hown hg
      go_wp2
      go_roundw
      case rel => exact ⟨k + 1, by omega, by go_num, HO2, HB2⟩
      case measure => simp [intOf]; omega
    · obtain rfl : k = n := by omega
      obtain ⟨A2, c2, hv, hfs⟩ : ∃ A2 c2, u5 = .slice A2 k c2 ∧ FS wr A2 (List.replicate k (floatOfInt .f64 x)) := by
        have := FS.own (l := List.replicate k (floatOfInt .f64 x)) (by rw [List.length_replicate]; exact hO.out)
        rwa [List.length_replicate] at this
      have HFS := Lib.hid hfs
      clear hfs hO
      subst hv
      have hmean : Calls Tryd.prog 15 #[.slice A2 k c2] wr (MeanPost (List.replicate k (floatOfInt .f64 x)) wr) := by
        have := mean_any A2 c2 (List.replicate k (floatOfInt .f64 x)) wr HFS.out (by rw [List.length_replicate]; omega)
        rwa [List.length_replicate] at this
      have HM := Lib.hid hmean
      clear hmean
      go_wp2_with fail
      refine HM.out.mono ?_
      rintro e w2 ⟨s, rfl, hs, hb⟩
      have HB2 := Lib.hid (hB.out.trans (hb.mono hB.out.size))
      have HFS2 := Lib.hid (HFS.out.old hb)
      have HT2 := Lib.hid (HT.out.old HB2.out)
      clear hb HFS HT hB HM
      rcases Nat.eq_zero_or_pos k with h0 | h0
      · subst h0
        have hno : meanO (List.replicate 0 (floatOfInt .f64 x)) = none := by show meanO [] = none; decide +kernel
        rw [hno] at hs
        have hsn : nanW s = true := by
          rcases hs.2 with h | h
          · cases h
          · exact h.2
        have hs1 := ord_self s
        rw [hsn] at hs1
        clear hs hno hsn
        go_wp2_with fail
        refine (awake_any _ HT2.out).mono ?_
        rintro e w3 ⟨rfl, hb⟩
        have HB3 := Lib.hid (HB2.out.trans (hb.mono HB2.out.size))
        clear hb
        go_wp2_with fail
        refine (best_nil _).mono ?_
        rintro e w4 ⟨rfl, rfl⟩
        go_wp2
        go_ret
        exact ⟨rfl, HB3.out⟩
      · rw [mean_rep x ⟨b1, b2⟩ k h0 hn] at hs
        have hss : s = floatOfInt .f64 x := by
          rcases hs.2 with h | h
          · injection h with h; exact h.symm
          · cases h.1
        subst hss
        have hv := isV_num (ofInt_isV x (by omega))
        have heq := ord_eq _ _ hv hv
        simp only [decide_true] at heq
        have hx64 := Lib.hid hs.1
        have hk0 : ((k : Int) == 0) = false := by simp; omega
        clear hs hv
        go_wp2_with fail
        refine (awake_any _ HT2.out).mono ?_
        rintro e w3 ⟨rfl, hb⟩
        have HB3 := Lib.hid (HB2.out.trans (hb.mono HB2.out.size))
        have HFS3 := Lib.hid (HFS2.out.old hb)
        clear hb
        go_wp2_with fail
        refine (best_rep _ _ _ _ _ HFS3.out h0 hn hx64.out).mono ?_
        rintro e w4 ⟨rfl, rfl⟩
        go_wp2
        go_ret
        exact ⟨rfl, HB3.out⟩

theorem walk (a0 : Int) (a1 : Int) (w0 : (Lit.int .i32 a0).wf = true) (w1 : (Lit.int .u8 a1).wf = true) (w : World) (hT : Tab w) :
    Calls Tryd.prog 8 #[.int .i32 a0, .int .u8 a1] w fun e w' => e = .returned (.bool true) ∧ Below w.heap.size w w' := by
  have b0 := i32_of_wf w0
  have b1 := bounds_u8 w1
  obtain ⟨n, rfl⟩ := Int.eq_ofNat_of_zero_le b1.1
  exact walk_nat a0 n w hT b0.1 b0.2 (by omega)

theorem contract (H : Type) (enc : TypeId × Value → H) (W : World) (base : Nat) (args : Array Value) (ds gs : List (DataW H)) (before : List MemPlace)
    (hval : ∀ (j : Nat) t v, Tryd.f8.params[j]? = some t → args[j]? = some v → Value.okWide Tryd.prog W .any base t v)
    (hW : DataW.Whole enc Tryd.prog Tryd.f8.params.toList Rows.gaugeSameSpec.vars false W args.toList ds gs before) (hL : laidMetH Tryd.prog Rows.gaugeSameRow.laid W) :
    Calls Tryd.prog 8 args W fun e W' => ∃ v, e = .returned v ∧ Rows.gaugeSameSpec.post enc Tryd.prog Tryd.f8 false true false false W args v W' := by
  have hW' := hW
  obtain ⟨p, q, hA0, hV, rfl, hfz, hnd⟩ := hW
  have hA : DataW.TrodAll enc Tryd.prog W 0 (fun _ => true) true Tryd.f8.params.toList args.toList ds p := hA0
  rw [Tryd.params8] at hA hval
  obtain ⟨v0, vs0, d0, ds0, p0, q0, hargs, rfl, rfl, h0, r0⟩ := trodAll_cons hA
  obtain ⟨v1, vs1, d1, ds1, p1, q1, rfl, rfl, rfl, h1, r1⟩ := trodAll_cons r0
  obtain ⟨rfl, rfl, rfl⟩ := trodAll_nil r1
  obtain rfl : args = #[v0, v1] := by cases args; simp_all
  obtain ⟨rfl, rfl⟩ := trodVars_none hV
  obtain ⟨a0, rfl, rfl, rfl, w0⟩ := open_int Tryd.underlying21 (hval 0 21 v0 rfl rfl) h0
  obtain ⟨a1, rfl, rfl, rfl, w1⟩ := open_int Tryd.underlying5 (hval 1 5 v1 rfl rfl) h1
  clear hA0
  refine (walk a0 a1 w0 w1 W (tab_of hL)).mono fun e W' ⟨he, bel⟩ => ?_
  subst he
  exact ⟨_, rfl, _, _, _, [], _, [], hW', (trodAll_cons_mk (shut_bool Tryd.underlying4 _) trodAll_mk0), (trodAll_cons_mk (shut_int Tryd.underlying21 w0) (trodAll_cons_mk (shut_int Tryd.underlying5 w1) trodAll_mk0)), rfl, bel.frame _, fun h => by cases h⟩


noncomputable def laidWorld (os : Os) : World :=
  { World.holding Tryd.prog os ⟨#[], #[], []⟩ with heap := ((((World.holding Tryd.prog os ⟨#[], #[], []⟩).heap.modify 2 (fun o => match o with | .cells _ t frozen => .cells #[.int .u8 0, .int .u8 1, .int .u8 28, .int .u8 2, .int .u8 29, .int .u8 14, .int .u8 24, .int .u8 3, .int .u8 30, .int .u8 22, .int .u8 20, .int .u8 15, .int .u8 25, .int .u8 17, .int .u8 4, .int .u8 8, .int .u8 31, .int .u8 27, .int .u8 13, .int .u8 23, .int .u8 21, .int .u8 19, .int .u8 16, .int .u8 7, .int .u8 26, .int .u8 12, .int .u8 18, .int .u8 6, .int .u8 11, .int .u8 5, .int .u8 10, .int .u8 9] t frozen | o => o)).modify 3 (fun o => match o with | .cells _ t frozen => .cells #[.int .u8 0, .int .u8 1, .int .u8 56, .int .u8 2, .int .u8 57, .int .u8 49, .int .u8 28, .int .u8 3, .int .u8 61, .int .u8 58, .int .u8 42, .int .u8 50, .int .u8 38, .int .u8 29, .int .u8 17, .int .u8 4, .int .u8 62, .int .u8 47, .int .u8 59, .int .u8 36, .int .u8 45, .int .u8 43, .int .u8 51, .int .u8 22, .int .u8 53, .int .u8 39, .int .u8 33, .int .u8 30, .int .u8 24, .int .u8 18, .int .u8 12, .int .u8 5, .int .u8 63, .int .u8 55, .int .u8 48, .int .u8 27, .int .u8 60, .int .u8 41, .int .u8 37, .int .u8 16, .int .u8 46, .int .u8 35, .int .u8 44, .int .u8 21, .int .u8 52, .int .u8 32, .int .u8 23, .int .u8 11, .int .u8 54, .int .u8 26, .int .u8 40, .int .u8 15, .int .u8 34, .int .u8 20, .int .u8 31, .int .u8 10, .int .u8 25, .int .u8 14, .int .u8 19, .int .u8 9, .int .u8 13, .int .u8 8, .int .u8 7, .int .u8 6] t frozen | o => o)).modify 1 (fun o => match o with | .cells _ t frozen => .cells #[.int .u64 1, .int .u64 10, .int .u64 100, .int .u64 1000, .int .u64 10000, .int .u64 100000, .int .u64 1000000, .int .u64 10000000, .int .u64 100000000, .int .u64 1000000000, .int .u64 10000000000, .int .u64 100000000000, .int .u64 1000000000000, .int .u64 10000000000000, .int .u64 100000000000000, .int .u64 1000000000000000, .int .u64 10000000000000000, .int .u64 100000000000000000, .int .u64 1000000000000000000, .int .u64 10000000000000000000] t frozen | o => o)) }
theorem laid_met (os : Os) : laidMet Tryd.prog Rows.gaugeSameRow.laid ((laidWorld os).forCall (fun _ _ => 0) ⟨#[], #[.int .i32 0, .int .u8 0], []⟩).memory :=
  laidMet_of_run' 8 (by kernel_rfl) (by kernel_rfl)
theorem reads (os : Os) {H : Type} (enc : TypeId × Value → H) : ∃ places, DataW.whole enc Tryd.prog ((laidWorld os).forCall (fun _ _ => 0) ⟨#[], #[.int .i32 0, .int .u8 0], []⟩).memory Tryd.f8.params.toList Rows.gaugeSameSpec.vars false (#[.int .i32 0, .int .u8 0] : Array Value).toList 8 = some ([.lit (.int .i32 0), .lit (.int .u8 0)], [], places) :=
  ⟨[], by kernel_rfl⟩

set_option maxRecDepth 100000 in
theorem lifted (os : Os) (started : os.Started) (H : Type) (enc : TypeId × Value → H) (F : Stop.Interp) :
    ReturnsInHanded {} Tryd.checked os 8 .any ((OpenSpec.ofChange Rows.gaugeSameSpec).preRow enc Tryd.prog Tryd.f8 Rows.gaugeSameRow.domain false Rows.gaugeSameRow.laid) (((OpenSpec.ofChange Rows.gaugeSameSpec).at F).post enc Tryd.prog Tryd.f8 false true false false) := by
  obtain ⟨places, hx⟩ := reads os enc
  refine returnsInHanded_of_row (C := Tryd.checked) (s := OpenSpec.ofChange Rows.gaugeSameSpec) own started (by kernel_rfl) Tryd.func8
    (witness_row_at (enc := enc) (C := Tryd.checked) false (laidWorld os) #[.int .i32 0, .int .u8 0] rfl (by kernel_rfl) (by kernel_rfl) (by kernel_rfl)
      (OpenSpec.preRow_of_cond 8 hx (by kernel_rfl) (fun k hk => by cases hk) (by kernel_rfl) (laid_met os))) ?_
  intro W base args ds gs before hval hW _ _ _ hL _ _
  exact contract H enc W base args ds gs before hval hW hL

theorem said : Rows.GaugeSameSaid :=
  OpenClaim.holds_of_cond 8 Tryd.f8 rfl rfl rfl rfl rfl rfl rfl ⟨rfl, rfl, rfl, rfl, rfl⟩ rfl rfl rfl rfl rfl (by kernel_rfl) Tryd.func8 (by kernel_rfl)
    (of_decide_eq_true (by kernel_rfl)) (by unfold Func.isWrapper; first | (rw [if_pos (by decide +kernel)]; kernel_rfl) | (rw [if_neg (by decide +kernel)]; exact ⟨rfl, rfl⟩))
    (fun os started H enc _ F => by rw [OpenClaim.pre_eq_preRow]; exact lifted os started H enc F)

theorem plain (f : FuncId) (fn : Func) (hf : Tryd.pinned.checked.prog.funcNamed "weathervane/weathervanelaw04.GaugeSame" = some f) (hfn : Tryd.pinned.checked.prog.funcs[f]? = some fn) :
    false = Tryd.pinned.checked.prog.looks [] ∧ ∀ (j : Nat) t, fn.params[j]? = some t → Tryd.pinned.checked.prog.wantsStandIn t = false := by
  obtain rfl : f = 8 := Option.some.inj ((show Tryd.prog.funcNamed "weathervane/weathervanelaw04.GaugeSame" = some 8 by kernel_rfl).symm.trans hf) |>.symm
  obtain rfl : fn = Tryd.f8 := (Option.some.inj (Tryd.func8.symm.trans hfn)).symm
  refine ⟨by kernel_rfl, fun j t ht => ?_⟩
  rw [Tryd.params8] at ht
  have ht2 : t = 21 ∨ t = 5 := by simpa using Array.mem_of_getElem? ht
  rcases ht2 with rfl | rfl
  · exact (show Tryd.prog.wantsStandIn 21 = false by kernel_rfl)
  · exact (show Tryd.prog.wantsStandIn 5 = false by kernel_rfl)
end Go.Proofs.YtkjnimmehjccbaaDoor.gaugeSame
namespace Go.Proofs.YtkjnimmehjccbaaDoor
theorem gaugeSame_holds : Rows.GaugeSameCardSaid :=
  Claim7.holds_tied_plain_at .later [] _ _ _ _ gaugeSame.said (fun _ h => by cases h) (by kernel_rfl) (fun _ h => by cases h) gaugeSame_row_tie rfl ⟨rfl, rfl⟩ (by kernel_rfl) rfl gaugeSame.plain (by kernel_rfl)
#print axioms gaugeSame_holds
end Go.Proofs.YtkjnimmehjccbaaDoor
