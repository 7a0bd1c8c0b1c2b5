/-
  PileRows (tied card): for any uint16 and any byte the law returns true: a set of a row of numbers has just these. Conditions: the library's table math/bits.deBruijn64tab holds what the program's text lays (the card ties it).
-/
import Derived.Test.YtkkkglmjipnfaaaDoorCards
import Derived.Test.YtkkkglmjipnfaaaDoorTie
import Derived.WalkKit
import Derived.Test.YtkkkglmjipnfaaaDoorKey
import Derived.ProofKit
import Derived.OpenShut
import Derived.ShutString
import Derived.ChangeOld
import Derived.Below
import Derived.Deep.DeepHandedRow
import Derived.Lib.LaidTab
import Derived.LaidSub
namespace Go.Proofs.YtkkkglmjipnfaaaDoor.pileRows
open Go.ChangeShapes Go.WideShapes Go.ChangeAt Go.RowKit
open Go.ChangeMaps (open_string shut_string)
set_option linter.unusedVariables false

theorem own : ownKnob Tryd.prog.godebug = none := by kernel_rfl
theorem laidOut : laidOutB Tryd.prog = true := by kernel_rfl
theorem gTab : Tryd.prog.globalNamed "math/bits.deBruijn64tab" = some 0 := by kernel_rfl
theorem gTabType : (Tryd.prog.globals[0]?).map (·.type) = some 74 := by kernel_rfl
theorem tab_of {W : World} (h : laidMetH Tryd.prog Rows.pileRowsRow.laid W) : Tab W := fun i hi => by
  have ht : Lib.TabIs Tryd.prog W "math/bits.deBruijn64tab" .u8 (Lib.deBruijn64tab.map (fun x : Nat => (x : Int))) :=
    Lib.tabIs_of_head (rest := []) gTab gTabType Tryd.underlying74 Tryd.underlying5 (by kernel_rfl) (by kernel_rfl) (laidMetH.filter (fun x => x.1 == "math/bits.deBruijn64tab") h)
  have hl : Lib.deBruijn64tab.length = 64 := rfl
  rw [ht.cell gTab i (by rw [List.length_map, hl]; exact hi)]
  have hi2 : i < Lib.deBruijn64tab.length := hi
  simp [List.getD, hi2]
/-- A row of numbers, rising. -/
theorem row_rise (a : Int) (n : Nat) : ((List.range n).map fun (i : Nat) => a + (i : Int)).Pairwise (· < ·) := by
  rw [List.pairwise_map]
  exact List.pairwise_lt_range.imp (fun h => by omega)
theorem row_mem (a m : Int) (n : Nat) : m ∈ ((List.range n).map fun (i : Nat) => a + (i : Int)) ↔ a ≤ m ∧ m < a + n := by
  simp only [List.mem_map, List.mem_range]
  constructor
  · rintro ⟨i, h, rfl⟩; omega
  · intro h; exact ⟨(m - a).toNat, by omega, by omega⟩

set_option maxRecDepth 20000 in
set_option maxHeartbeats 2000000 in
theorem walkN (a n : Nat) (ha : a < 65536) (hn : n < 256) (w : World) (hT : Tab w) :
    Calls Tryd.prog 7 #[.int .u16 a, .int .u8 n] w fun e w' => e = .returned (.bool true) ∧ Below w.heap.size w w' := by
  have HT := Lib.hid hT
  clear hT
  go_enter Tryd.func7, Tryd.ntmps7
  go_wp2_with fail
  refine (awake_any _ HT.out).mono ?_
  rintro e w1 ⟨rfl, hb1⟩
  have HB1 := Lib.hid hb1
  clear hb1
  have HBG : Hid (Below w.heap.size w (w1.alloc (.cells #[.slice none 0 0] 27))) := HB1.out.alloc HB1.out.size _
  have HSG : Hid (SetAt (w1.alloc (.cells #[.slice none 0 0] 27)) w.heap.size w1.heap.size (.slice none 0 0) []) :=
    ⟨HB1.out.size, heap_alloc_new w1 _, World.ownsRow_nil _ _ _ _, fun _ => rfl, (fun h => by cases h), good_nil⟩
  have hsz := HB1.out.size
  go_wp2_with fail
  obtain ⟨g, hg⟩ : ∃ g, g = w1.heap.size := ⟨_, rfl⟩
  rw [← hg] at HSG hsz ⊢
  generalize w1.alloc (.cells #[.slice none 0 0] 27) = w2 at HBG HSG ⊢
  clear hg HB1
  go_loopw [8] (fun i wr => ∃ k : Nat, k ≤ n ∧ i = .int .i64 ((k : Int) - 1) ∧ Hid (Below w.heap.size w wr ∧ ∃ v L, SetAt wr w.heap.size g v L ∧ (∀ m, has L m = decide ((a : Int) + k ≤ m ∧ m < (a : Int) + n)) ∧ L.length ≤ n - k)) (fun i _ => (intOf i + 1).toNat)
  case atStart => exact ⟨n, Nat.le_refl _, rfl, HBG.out, _, [], HSG.out, fun m => by simp [has, look], by simp⟩
  case round =>
    obtain ⟨k, hk, rfl, hR⟩ := hrel
    obtain ⟨hb, v, L, hS, hH, hL⟩ := hR.out
    clear hR
    have HB := Lib.hid hb
    have HS := Lib.hid hS
    have HH := Lib.hid hH
    clear hb hS hH
    rcases Nat.eq_zero_or_pos k with rfl | hk0
    · have hlL : L.length ≤ 1000 := by omega
      obtain ⟨A, c, rfl, hR⟩ := HS.out.rd (by omega)
      have HR := Lib.hid hR
      have HE : Hid (allF L = (List.range n).map fun (i : Nat) => (a : Int) + (i : Int)) := rise_ext (rise_allF HS.out.good) (row_rise _ _) (fun m => by
        rw [mem_allF HS.out.good, HH.out, row_mem]; simp)
      have HLn : Hid (lenF L = n) := by show _ = _; rw [lenF_all HS.out.good, HE.out]; simp
      clear hR
      go_wp2_with fail
      refine (all_any _ _ _ _ _ HR.out hlL (HT.out.old HB.out)).mono ?_
      rintro e w3 h
      obtain ⟨A3, c3, rfl, hI, _, hb3⟩ := h.rd
      have HB3 := Lib.hid (HB.out.trans (hb3.mono HB.out.size))
      have HR3 := Lib.hid (HR.out.old hb3)
      rw [HE.out] at hI ⊢
      have HI := Lib.hid hI
      rw [show ((List.range n).map fun (i : Nat) => (a : Int) + (i : Int)).length = n from by simp]
      clear hI hb3 h HR HS
      go_wp2_with fail
      go_loopw [10] (fun i wi => ∃ k : Nat, k ≤ n ∧ i = .int .i64 (k : Int) ∧ Hid (Below w3.heap.size w3 wi)) (fun i _ => n - (intOf i).toNat)
      case atStart => exact ⟨0, Nat.zero_le _, rfl, Below.refl _ _⟩
      case round =>
        obtain ⟨k, hk, rfl, hBi⟩ := hrel
        by_cases hlt : k < n
        · obtain ⟨b, o, rfl, hc⟩ := (HI.out.old hBi.out) (by simp; omega)
          have hck := hc k (by simpa using hlt)
          have hgk : ((List.range n).map fun (i : Nat) => (a : Int) + (i : Int)).getD k 0 = (a : Int) + k := by simp [List.getD, hlt]
          rw [hgk] at hck
          clear hc hgk
          go_wp2
          go_roundw
          case rel => exact ⟨k + 1, by omega, by go_num, hBi⟩
          case measure => simp [intOf]; omega
        · obtain rfl : k = n := by omega
          have HRi := Lib.hid (HR3.out.old hBi.out)
          have HBi := Lib.hid (HB3.out.trans (hBi.out.mono HB3.out.size))
          clear HR3 HI
          go_wp2_with fail
          refine (len_any _ _ _ _ _ HRi.out hlL).mono ?_
          rintro e w5 ⟨rfl, hb5⟩
          rw [HLn.out]
          have HR5 := Lib.hid (HRi.out.old hb5)
          have HB5 := Lib.hid (HBi.out.trans (hb5.mono HBi.out.size))
          clear hb5 HRi
          go_wp2_with fail
          refine (has_any _ _ _ _ _ _ HR5.out (by omega) (by omega)).mono ?_
          rintro e w6 ⟨rfl, hb6⟩
          rw [HH.out, decide_eq_false (by omega)]
          have HR6 := Lib.hid (HR5.out.old hb6)
          have HB6 := Lib.hid (HB5.out.trans (hb6.mono HB5.out.size))
          clear hb6 HR5
          by_cases ha0 : a = 0
          · subst ha0
            go_wp2
            go_ret
            exact ⟨rfl, HB6.out⟩
          · have hai : ((a : Int) == 0) = false := by simp; omega
            go_wp2_with fail
            refine (has_any _ _ _ _ _ _ HR6.out (by omega) (by omega)).mono ?_
            rintro e w7 ⟨rfl, hb7⟩
            rw [HH.out, decide_eq_false (by omega)]
            have HB7 := Lib.hid (HB6.out.trans (hb7.mono HB6.out.size))
            clear hb7
            go_wp2
            go_ret
            exact ⟨rfl, HB7.out⟩
    · go_wp2_with fail
      refine (add_any w.heap.size g v L ((a : Int) + ((k : Int) - 1)) _ HS.out (by omega) HB.out.size (by omega) (by omega)).mono ?_
      rintro e w3 ⟨rfl, v', L', hS', hH', hL', hT, hO⟩
      rw [HH.out, decide_eq_false (by omega)]
      have HB' := Lib.hid (touch_below HB.out hT HB.out.size hsz (fun q hq => (HS.out.row_ge q hq).1))
      have HS' := Lib.hid hS'
      have HH' := Lib.hid hH'
      clear hS' hH' hT hO
      go_wp2
      go_roundw
      case rel =>
        refine ⟨k - 1, by omega, by congr 1; omega, HB'.out, v', L', HS'.out, fun m => ?_, by omega⟩
        rw [HH'.out, HH.out]
        rw [Bool.eq_iff_iff]
        simp
        omega
      case measure => simp only [intOf]; omega

theorem walk (a0 : Int) (a1 : Int) (w0 : (Lit.int .u16 a0).wf = true) (w1 : (Lit.int .u8 a1).wf = true) (w : World) (hT : Tab w) :
    Calls Tryd.prog 7 #[.int .u16 a0, .int .u8 a1] w fun e w' => e = .returned (.bool true) ∧ Below w.heap.size w w' := by
  have h0 : 0 ≤ a0 ∧ a0 < 65536 := by simp [Lit.wf, IntKind.min, IntKind.max, IntKind.signed, IntKind.bits] at w0; omega
  have h1 : 0 ≤ a1 ∧ a1 < 256 := by simp [Lit.wf, IntKind.min, IntKind.max, IntKind.signed, IntKind.bits] at w1; omega
  obtain ⟨n0, rfl⟩ : ∃ n : Nat, a0 = n := ⟨a0.toNat, by omega⟩
  obtain ⟨n1, rfl⟩ : ∃ n : Nat, a1 = n := ⟨a1.toNat, by omega⟩
  exact walkN n0 n1 (by omega) (by omega) w hT

theorem contract (H : Type) (enc : TypeId × Value → H) (W : World) (base : Nat) (args : Array Value) (ds gs : List (DataW H)) (before : List MemPlace)
    (hval : ∀ (j : Nat) t v, Tryd.f7.params[j]? = some t → args[j]? = some v → Value.okWide Tryd.prog W .any base t v)
    (hW : DataW.Whole enc Tryd.prog Tryd.f7.params.toList Rows.pileRowsSpec.vars false W args.toList ds gs before) (hL : laidMetH Tryd.prog Rows.pileRowsRow.laid W) :
    Calls Tryd.prog 7 args W fun e W' => ∃ v, e = .returned v ∧ Rows.pileRowsSpec.post enc Tryd.prog Tryd.f7 false true false false W args v W' := by
  have hW' := hW
  obtain ⟨p, q, hA0, hV, rfl, hfz, hnd⟩ := hW
  have hA : DataW.TrodAll enc Tryd.prog W 0 (fun _ => true) true Tryd.f7.params.toList args.toList ds p := hA0
  rw [Tryd.params7] at hA hval
  obtain ⟨v0, vs0, d0, ds0, p0, q0, hargs, rfl, rfl, h0, r0⟩ := trodAll_cons hA
  obtain ⟨v1, vs1, d1, ds1, p1, q1, rfl, rfl, rfl, h1, r1⟩ := trodAll_cons r0
  obtain ⟨rfl, rfl, rfl⟩ := trodAll_nil r1
  obtain rfl : args = #[v0, v1] := by cases args; simp_all
  obtain ⟨rfl, rfl⟩ := trodVars_none hV
  obtain ⟨a0, rfl, rfl, rfl, w0⟩ := open_int Tryd.underlying47 (hval 0 47 v0 rfl rfl) h0
  obtain ⟨a1, rfl, rfl, rfl, w1⟩ := open_int Tryd.underlying5 (hval 1 5 v1 rfl rfl) h1
  clear hA0
  refine (walk a0 a1 w0 w1 W (tab_of hL)).mono fun e W' ⟨he, bel⟩ => ?_
  subst he
  exact ⟨_, rfl, _, _, _, [], _, [], hW', (trodAll_cons_mk (shut_bool Tryd.underlying4 _) trodAll_mk0), (trodAll_cons_mk (shut_int Tryd.underlying47 w0) (trodAll_cons_mk (shut_int Tryd.underlying5 w1) trodAll_mk0)), rfl, bel.frame _, fun h => by cases h⟩


noncomputable def laidWorld (os : Os) : World :=
  { World.holding Tryd.prog os ⟨#[], #[], []⟩ with heap := ((World.holding Tryd.prog os ⟨#[], #[], []⟩).heap.modify 0 (fun o => match o with | .cells _ t frozen => .cells #[.int .u8 0, .int .u8 1, .int .u8 56, .int .u8 2, .int .u8 57, .int .u8 49, .int .u8 28, .int .u8 3, .int .u8 61, .int .u8 58, .int .u8 42, .int .u8 50, .int .u8 38, .int .u8 29, .int .u8 17, .int .u8 4, .int .u8 62, .int .u8 47, .int .u8 59, .int .u8 36, .int .u8 45, .int .u8 43, .int .u8 51, .int .u8 22, .int .u8 53, .int .u8 39, .int .u8 33, .int .u8 30, .int .u8 24, .int .u8 18, .int .u8 12, .int .u8 5, .int .u8 63, .int .u8 55, .int .u8 48, .int .u8 27, .int .u8 60, .int .u8 41, .int .u8 37, .int .u8 16, .int .u8 46, .int .u8 35, .int .u8 44, .int .u8 21, .int .u8 52, .int .u8 32, .int .u8 23, .int .u8 11, .int .u8 54, .int .u8 26, .int .u8 40, .int .u8 15, .int .u8 34, .int .u8 20, .int .u8 31, .int .u8 10, .int .u8 25, .int .u8 14, .int .u8 19, .int .u8 9, .int .u8 13, .int .u8 8, .int .u8 7, .int .u8 6] t frozen | o => o)) }
theorem laid_met (os : Os) : laidMet Tryd.prog Rows.pileRowsRow.laid ((laidWorld os).forCall (fun _ _ => 0) ⟨#[], #[.int .u16 0, .int .u8 0], []⟩).memory :=
  laidMet_of_run' 8 (by kernel_rfl) (by kernel_rfl)
theorem reads (os : Os) {H : Type} (enc : TypeId × Value → H) : ∃ places, DataW.whole enc Tryd.prog ((laidWorld os).forCall (fun _ _ => 0) ⟨#[], #[.int .u16 0, .int .u8 0], []⟩).memory Tryd.f7.params.toList Rows.pileRowsSpec.vars false (#[.int .u16 0, .int .u8 0] : Array Value).toList 8 = some ([.lit (.int .u16 0), .lit (.int .u8 0)], [], places) :=
  ⟨[], by kernel_rfl⟩

set_option maxRecDepth 100000 in
theorem lifted (os : Os) (started : os.Started) (H : Type) (enc : TypeId × Value → H) (F : Stop.Interp) :
    ReturnsInHanded {} Tryd.checked os 7 .any ((OpenSpec.ofChange Rows.pileRowsSpec).preRow enc Tryd.prog Tryd.f7 Rows.pileRowsRow.domain false Rows.pileRowsRow.laid) (((OpenSpec.ofChange Rows.pileRowsSpec).at F).post enc Tryd.prog Tryd.f7 false true false false) := by
  obtain ⟨places, hx⟩ := reads os enc
  refine returnsInHanded_of_row (C := Tryd.checked) (s := OpenSpec.ofChange Rows.pileRowsSpec) own started (by kernel_rfl) Tryd.func7
    (witness_row_at (enc := enc) (C := Tryd.checked) false (laidWorld os) #[.int .u16 0, .int .u8 0] rfl (by kernel_rfl) (by kernel_rfl) (by kernel_rfl)
      (OpenSpec.preRow_of_cond 8 hx (by kernel_rfl) (fun k hk => by cases hk) (by kernel_rfl) (laid_met os))) ?_
  intro W base args ds gs before hval hW _ _ _ hL _ _
  exact contract H enc W base args ds gs before hval hW hL

theorem said : Rows.PileRowsSaid :=
  OpenClaim.holds_of_cond 7 Tryd.f7 rfl rfl rfl rfl rfl rfl rfl ⟨rfl, rfl, rfl, rfl, rfl⟩ rfl rfl rfl rfl rfl (by kernel_rfl) Tryd.func7 (by kernel_rfl)
    (of_decide_eq_true (by kernel_rfl)) (by unfold Func.isWrapper; first | (rw [if_pos (by decide +kernel)]; kernel_rfl) | (rw [if_neg (by decide +kernel)]; exact ⟨rfl, rfl⟩))
    (fun os started H enc _ F => by rw [OpenClaim.pre_eq_preRow]; exact lifted os started H enc F)

theorem plain (f : FuncId) (fn : Func) (hf : Tryd.pinned.checked.prog.funcNamed "weathervane/weathervanelaw03.PileRows" = some f) (hfn : Tryd.pinned.checked.prog.funcs[f]? = some fn) :
    false = Tryd.pinned.checked.prog.looks [] ∧ ∀ (j : Nat) t, fn.params[j]? = some t → Tryd.pinned.checked.prog.wantsStandIn t = false := by
  obtain rfl : f = 7 := Option.some.inj ((show Tryd.prog.funcNamed "weathervane/weathervanelaw03.PileRows" = some 7 by kernel_rfl).symm.trans hf) |>.symm
  obtain rfl : fn = Tryd.f7 := (Option.some.inj (Tryd.func7.symm.trans hfn)).symm
  refine ⟨by kernel_rfl, fun j t ht => ?_⟩
  rw [Tryd.params7] at ht
  have ht2 : t = 47 ∨ t = 5 := by simpa using Array.mem_of_getElem? ht
  rcases ht2 with rfl | rfl
  · exact (show Tryd.prog.wantsStandIn 47 = false by kernel_rfl)
  · exact (show Tryd.prog.wantsStandIn 5 = false by kernel_rfl)
end Go.Proofs.YtkkkglmjipnfaaaDoor.pileRows
namespace Go.Proofs.YtkkkglmjipnfaaaDoor
theorem pileRows_holds : Rows.PileRowsCardSaid :=
  Claim7.holds_tied_plain_at .later [] _ _ _ _ pileRows.said (fun _ h => by cases h) (by kernel_rfl) (fun _ h => by cases h) pileRows_row_tie rfl ⟨rfl, rfl⟩ (by kernel_rfl) rfl pileRows.plain (by kernel_rfl)
#print axioms pileRows_holds
end Go.Proofs.YtkkkglmjipnfaaaDoor
