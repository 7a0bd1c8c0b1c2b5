/-
  PileKeys (tied card): for any two slices of uint16 and any bool the law returns true and leaves its arguments as they were: sets have one text just if they have the same numbers. Conditions: the library's table math/bits.deBruijn64tab holds what the program's text lays (the card ties it).
-/
import Derived.Test.YtkkkglmjipnfaaaDoorCards
import Derived.Test.YtkkkglmjipnfaaaDoorTie
import Derived.WalkKit
import Derived.Test.YtkkkglmjipnfaaaDoorTwo
import Derived.ProofKit
import Derived.OpenShut
import Derived.ShutString
import Derived.ChangeOld
import Derived.Below
import Derived.Deep.DeepHandedRow
import Derived.Lib.LaidTab
import Derived.LaidSub
namespace Go.Proofs.YtkkkglmjipnfaaaDoor.pileKeys
open Go.ChangeShapes Go.WideShapes Go.ChangeAt Go.RowKit
open Go.ChangeMaps (open_string shut_string)
set_option linter.unusedVariables false

theorem own : ownKnob Tryd.prog.godebug = none := by kernel_rfl
theorem laidOut : laidOutB Tryd.prog = true := by kernel_rfl
theorem gTab : Tryd.prog.globalNamed "math/bits.deBruijn64tab" = some 0 := by kernel_rfl
theorem gTabType : (Tryd.prog.globals[0]?).map (·.type) = some 74 := by kernel_rfl
theorem tab_of {W : World} (h : laidMetH Tryd.prog Rows.pileKeysRow.laid W) : Tab W := fun i hi => by
  have ht : Lib.TabIs Tryd.prog W "math/bits.deBruijn64tab" .u8 (Lib.deBruijn64tab.map (fun x : Nat => (x : Int))) :=
    Lib.tabIs_of_head (rest := []) gTab gTabType Tryd.underlying74 Tryd.underlying5 (by kernel_rfl) (by kernel_rfl) (laidMetH.filter (fun x => x.1 == "math/bits.deBruijn64tab") h)
  have hl : Lib.deBruijn64tab.length = 64 := rfl
  rw [ht.cell gTab i (by rw [List.length_map, hl]; exact hi)]
  have hi2 : i < Lib.deBruijn64tab.length := hi
  simp [List.getD, hi2]
/-- WHAT THE WALK IS TOLD OF A SLICE OF INTEGERS THAT CAME IN: it is nil; or it leads to a row of 'cap' cells, the numbers 'zs' (the first 'len' are its elements, the rest its spare room), each fitting its kind. -/
def IsRow (k : IntKind) (w : World) (a : Option Addr) (len cap : Nat) (zs : List Int) : Prop :=
  (a = none ∧ len = 0 ∧ cap = 0 ∧ zs = []) ∨
  ∃ x, a = some x ∧ len ≤ cap ∧ cap ≤ maxLen ∧ zs.length = cap ∧ (∀ i, i < zs.length → w.cell? (x.add i) = some (.int k (zs.getD i 0))) ∧ ∀ n ∈ zs, (Lit.int k n).wf = true

theorem u16_of_wf {x : Int} (h : (Lit.int .u16 x).wf = true) : 0 ≤ x ∧ x ≤ 65535 := by
  simpa [Lit.wf, IntKind.min, IntKind.max, IntKind.bits, IntKind.signed] using h

set_option maxRecDepth 20000 in
set_option maxHeartbeats 4000000 in
theorem walkB (sm : Bool) (A1 A2 : Option Addr) (c1 c2 : Nat) (l k2 : List Int) (w : World) (hT : Tab w) (h1 : UR .u16 w A1 l) (h2 : UR .u16 w A2 k2) (x1 : ∀ x ∈ l, 0 ≤ x ∧ x ≤ 65535) (x2 : ∀ x ∈ k2, 0 ≤ x ∧ x ≤ 65535) (hl1 : l.length ≤ 20) (hl2 : k2.length ≤ 20) :
    Calls Tryd.prog 9 #[.slice A1 l.length c1, .slice A2 k2.length c2, .bool sm] w fun e w' => e = .returned (.bool true) ∧ Below w.heap.size w w' := by
  have HT := Lib.hid hT
  have HU1 := Lib.hid h1
  have HU2 := Lib.hid h2
  have HX1 := Lib.hid x1
  have HX2 := Lib.hid x2
  clear hT h1 h2 x1 x2
  go_enter Tryd.func9, Tryd.ntmps9
  go_wp2_with fail
  refine (awake_any _ HT.out).mono ?_
  rintro e w1 ⟨rfl, hb1⟩
  have HB1 := Lib.hid hb1
  clear hb1
  have hsz := HB1.out.size
  have HB2 := Lib.hid ((HB1.out.alloc HB1.out.size (.cells #[.slice none 0 0] 27)).alloc (by simp; omega) (.cells #[.slice none 0 0] 27))
  have HS2 : Hid (SetAt ((w1.alloc (.cells #[.slice none 0 0] 27)).alloc (.cells #[.slice none 0 0] 27)) w.heap.size w1.heap.size (.slice none 0 0) []) := (SetAt.fresh hsz).old ((Below.refl _ _).alloc (Nat.le_refl _) _)
  have HM2 : Hid (SetAt ((w1.alloc (.cells #[.slice none 0 0] 27)).alloc (.cells #[.slice none 0 0] 27)) w.heap.size (w1.heap.size + 1) (.slice none 0 0) []) := by
    have := SetAt.fresh (w := w1.alloc (.cells #[.slice none 0 0] 27)) (base := w.heap.size) (by simp; omega)
    rw [show (w1.alloc (.cells #[.slice none 0 0] 27)).heap.size = w1.heap.size + 1 from by simp] at this
    exact this
  have HA2 : Hid (Apart w1.heap.size (.slice none 0 0) (w1.heap.size + 1) (.slice none 0 0)) := ⟨by omega, (fun h => by cases h), (fun h => by cases h), (fun q h => by cases h)⟩
  go_wp2_with fail
  obtain ⟨g1, hg1⟩ : ∃ g, g = w1.heap.size := ⟨_, rfl⟩
  obtain ⟨g2, hg2⟩ : ∃ g, g = w1.heap.size + 1 := ⟨_, rfl⟩
  rw [← hg2, ← hg1] at HA2
  rw [← hg1] at HS2
  rw [← hg2] at HM2
  rw [← hg2, ← hg1]
  generalize (w1.alloc (.cells #[.slice none 0 0] 27)).alloc (.cells #[.slice none 0 0] 27) = w2 at HB2 HS2 HM2 ⊢
  clear hg1 hg2 HB1 hsz
  go_loopw [9] (fun i wr => ∃ k : Nat, k ≤ l.length ∧ i = .int .i64 (k : Int) ∧ Hid (Below w.heap.size w wr ∧ ∃ v L, SetAt wr w.heap.size g1 v L ∧ SetAt wr w.heap.size g2 (.slice none 0 0) [] ∧ Apart g1 v g2 (.slice none 0 0) ∧ (∀ m, has L m = inl (l.take k) m) ∧ L.length ≤ k)) (fun i _ => l.length - (intOf i).toNat)
  case atStart => exact ⟨0, Nat.zero_le _, rfl, HB2.out, _, [], HS2.out, HM2.out, HA2.out, fun m => by simp [has, look, inl], by simp⟩
  case round =>
    obtain ⟨k, hk, rfl, hR⟩ := hrel
    obtain ⟨hb, v1, L, hS, hM, hA, hH, hL⟩ := hR.out
    clear hR HS2 HM2 HA2
    have HBr := Lib.hid hb
    have HS := Lib.hid hS
    have HM := Lib.hid hM
    have HA := Lib.hid hA
    have HSum := Lib.hid hH
    clear hb hS hM hA hH
    by_cases hlt : k < l.length
    · obtain ⟨b, o, rfl, hc⟩ := (HU1.out.old HBr.out) (by omega)
      have hck := hc k hlt
      have hx := HX1.out (l.getD k 0) (by simp [hlt])
      have Hts := Lib.hid (take_snocI l k hlt)
      generalize l.getD k 0 = x at *
      clear hc
      go_wp2_with fail
      refine (add_any w.heap.size g1 v1 L x _ HS.out (by omega) HBr.out.size (by omega) (by omega)).mono ?_
      rintro e w3 ⟨rfl, v', L', hS', hH', hL', hT, hO⟩
      have HBr' := Lib.hid (touch_below HBr.out hT HBr.out.size HS.out.hb (fun q hq => (HS.out.row_ge q hq).1))
      have HM' := Lib.hid (HM.out.touch hT HA.out)
      have HA' := Lib.hid (Apart.grow HM.out HA.out hO)
      have HS' := Lib.hid hS'
      have HH' := Lib.hid hH'
      clear hS' hH' hT hO
      go_wp2
      go_roundw
      case rel =>
        refine ⟨k + 1, by omega, by go_num, HBr'.out, v', L', HS'.out, HM'.out, HA'.out, fun m => ?_, by omega⟩
        rw [HH'.out, HSum.out, Hts.out, inl_snoc, decide_eq_true (by omega : 0 ≤ x)]; simp
      case measure => simp [intOf]; omega
    · obtain rfl : k = l.length := by omega
      rw [List.take_length] at HSum
      obtain ⟨w9, hw9⟩ : ∃ w9, w9 = wr := ⟨wr, rfl⟩
      subst hw9
      cases sm
      · go_wp2_with fail
        go_loopw [10] (fun i wi => ∃ k : Nat, k ≤ k2.length ∧ i = .int .i64 ((k : Int) - 1) ∧ Hid (Below w.heap.size w wi ∧ ∃ v M, SetAt wi w.heap.size g1 v1 L ∧ SetAt wi w.heap.size g2 v M ∧ Apart g1 v1 g2 v ∧ (∀ m, has M m = inl (k2.drop k) m) ∧ M.length ≤ k2.length - k)) (fun i _ => (intOf i + 1).toNat)
        case atStart => exact ⟨k2.length, Nat.le_refl _, rfl, HBr.out, _, [], HS.out, HM.out, HA.out, fun m => by simp [has, look, inl], by simp⟩
        case round =>
          obtain ⟨k, hk, rfl, hR⟩ := hrel
          obtain ⟨hb, v, M, hS, hM, hA, hH, hL2⟩ := hR.out
          clear hR HS HM HA HBr
          have HBr := Lib.hid hb
          have HS := Lib.hid hS
          have HM := Lib.hid hM
          have HA := Lib.hid hA
          have HMem := Lib.hid hH
          clear hb hS hM hA hH
          rcases Nat.eq_zero_or_pos k with rfl | hk0
          · have HLM : Hid (Good L ∧ Good M ∧ L.length ≤ 20 ∧ M.length ≤ 20) := ⟨HS.out.good, HM.out.good, by omega, by omega⟩
            skip
            obtain ⟨A5, c5, rfl, hR5⟩ := HS.out.rd (by omega)
            obtain ⟨A6, c6, rfl, hR6⟩ := HM.out.rd (by omega)
            have HR5 := Lib.hid hR5
            have HR6 := Lib.hid hR6
            clear hR5 hR6 HS HM HA HSum HMem
            have hLl : L.length ≤ 1000 := by omega
            have hMl : M.length ≤ 1000 := by omega
            have HK : Hid (((str (kF L)).toList == (str (kF M)).toList) = decide (L = M)) := by
              show _ = _
              rw [str_beq _ _ (kF_lt L) (kF_lt M)]
              by_cases e : L = M
              · rw [decide_eq_true e, decide_eq_true (by rw [e])]
              · rw [decide_eq_false e, decide_eq_false (fun e2 => e (kF_inj HLM.out.1 HLM.out.2.1 e2))]
            go_wp2_with fail
            refine (key_any _ _ _ _ _ HR5.out hLl).mono ?_
            rintro e w5 ⟨rfl, hb5⟩
            have HR7 := Lib.hid (HR6.out.old hb5)
            have HR8 := Lib.hid (HR5.out.old hb5)
            have HB5 := Lib.hid (HBr.out.trans (hb5.mono HBr.out.size))
            clear hb5 HR5 HR6
            go_wp2_with fail
            refine (key_any _ _ _ _ _ HR7.out hMl).mono ?_
            rintro e w6 ⟨rfl, hb6⟩
            have HR9 := Lib.hid (HR7.out.old hb6)
            have HR10 := Lib.hid (HR8.out.old hb6)
            have HB6 := Lib.hid (HB5.out.trans (hb6.mono HB5.out.size))
            clear hb6 HR7 HR8
            have hk := HK.out
            go_wp2_with fail
            refine (same_any _ _ _ _ _ _ _ _ _ HR10.out HR9.out).mono ?_
            rintro e w7 ⟨rfl, hb7⟩
            have HB7 := Lib.hid (HB6.out.trans (hb7.mono HB6.out.size))
            have HR11 := Lib.hid (HR9.out.old hb7)
            have HR12 := Lib.hid (HR10.out.old hb7)
            clear hb7 HR9 HR10
            generalize decide (L = M) = r at hk ⊢
            cases r
            · go_wp2
              go_ret
              exact ⟨rfl, HB7.out⟩
            · go_wp2
              go_ret
              exact ⟨rfl, HB7.out⟩
          · obtain ⟨k', rfl⟩ : ∃ k', k = k' + 1 := ⟨k - 1, by omega⟩
            have hlt : k' < k2.length := by omega
            obtain ⟨b, o, rfl, hc⟩ := (HU2.out.old HBr.out) (by omega)
            have hck := hc k' hlt
            have hx := HX2.out (k2.getD k' 0) (by simp [hlt])
            have Hd := Lib.hid (drop_cons k2 k' hlt)
            generalize k2.getD k' 0 = x at *
            clear hc
            rw [show (((k' + 1 : Nat) : Int) - 1) = (k' : Int) from by omega]
            go_wp2_with fail
            refine (add_any w.heap.size g2 v M x _ HM.out (by omega) HBr.out.size (by omega) (by omega)).mono ?_
            rintro e w3 ⟨rfl, v', M', hM', hH', hL', hT, hO⟩
            have HBr' := Lib.hid (touch_below HBr.out hT HBr.out.size HM.out.hb (fun q hq => (HM.out.row_ge q hq).1))
            have HS' := Lib.hid (HS.out.touch hT HA.out.symm)
            have HA' := Lib.hid ((Apart.grow HS.out HA.out.symm hO).symm)
            have HM' := Lib.hid hM'
            have HH' := Lib.hid hH'
            clear hM' hH' hT hO
            go_wp2
            go_roundw
            case rel =>
              refine ⟨k', by omega, by congr 1, HBr'.out, v', M', HS'.out, HM'.out, HA'.out, fun m => ?_, by omega⟩
              rw [HH'.out, HMem.out, Hd.out, inl_cons, decide_eq_true (by omega : 0 ≤ x)]; simp
            case measure => simp only [intOf]; omega
      · go_wp2_with fail
        go_loopw [10] (fun i wi => ∃ k : Nat, k ≤ l.length ∧ i = .int .i64 ((k : Int) - 1) ∧ Hid (Below w.heap.size w wi ∧ ∃ v M, SetAt wi w.heap.size g1 v1 L ∧ SetAt wi w.heap.size g2 v M ∧ Apart g1 v1 g2 v ∧ (∀ m, has M m = inl (l.drop k) m) ∧ M.length ≤ l.length - k)) (fun i _ => (intOf i + 1).toNat)
        case atStart => exact ⟨l.length, Nat.le_refl _, rfl, HBr.out, _, [], HS.out, HM.out, HA.out, fun m => by simp [has, look, inl], by simp⟩
        case round =>
          obtain ⟨k, hk, rfl, hR⟩ := hrel
          obtain ⟨hb, v, M, hS, hM, hA, hH, hL2⟩ := hR.out
          clear hR HS HM HA HBr
          have HBr := Lib.hid hb
          have HS := Lib.hid hS
          have HM := Lib.hid hM
          have HA := Lib.hid hA
          have HMem := Lib.hid hH
          clear hb hS hM hA hH
          rcases Nat.eq_zero_or_pos k with rfl | hk0
          · have HLM : Hid (Good L ∧ Good M ∧ L.length ≤ 20 ∧ M.length ≤ 20) := ⟨HS.out.good, HM.out.good, by omega, by omega⟩
            have HEq : Hid (L = M) := has_ext HS.out.good HM.out.good (fun m => by rw [HSum.out, HMem.out]; simp)
            obtain ⟨A5, c5, rfl, hR5⟩ := HS.out.rd (by omega)
            obtain ⟨A6, c6, rfl, hR6⟩ := HM.out.rd (by omega)
            have HR5 := Lib.hid hR5
            have HR6 := Lib.hid hR6
            clear hR5 hR6 HS HM HA HSum HMem
            have hLl : L.length ≤ 1000 := by omega
            have hMl : M.length ≤ 1000 := by omega
            have HK : Hid (((str (kF L)).toList == (str (kF M)).toList) = decide (L = M)) := by
              show _ = _
              rw [str_beq _ _ (kF_lt L) (kF_lt M)]
              by_cases e : L = M
              · rw [decide_eq_true e, decide_eq_true (by rw [e])]
              · rw [decide_eq_false e, decide_eq_false (fun e2 => e (kF_inj HLM.out.1 HLM.out.2.1 e2))]
            go_wp2_with fail
            refine (key_any _ _ _ _ _ HR5.out hLl).mono ?_
            rintro e w5 ⟨rfl, hb5⟩
            have HR7 := Lib.hid (HR6.out.old hb5)
            have HR8 := Lib.hid (HR5.out.old hb5)
            have HB5 := Lib.hid (HBr.out.trans (hb5.mono HBr.out.size))
            clear hb5 HR5 HR6
            go_wp2_with fail
            refine (key_any _ _ _ _ _ HR7.out hMl).mono ?_
            rintro e w6 ⟨rfl, hb6⟩
            have HR9 := Lib.hid (HR7.out.old hb6)
            have HR10 := Lib.hid (HR8.out.old hb6)
            have HB6 := Lib.hid (HB5.out.trans (hb6.mono HB5.out.size))
            clear hb6 HR7 HR8
            have hk := HK.out
            go_wp2_with fail
            refine (same_any _ _ _ _ _ _ _ _ _ HR10.out HR9.out).mono ?_
            rintro e w7 ⟨rfl, hb7⟩
            have HB7 := Lib.hid (HB6.out.trans (hb7.mono HB6.out.size))
            have HR11 := Lib.hid (HR9.out.old hb7)
            have HR12 := Lib.hid (HR10.out.old hb7)
            clear hb7 HR9 HR10
            rw [decide_eq_true HEq.out] at hk ⊢
            go_wp2_with fail
            refine (same_any _ _ _ _ _ _ _ _ _ HR12.out HR11.out).mono ?_
            rintro e w8 ⟨rfl, hb8⟩
            have HB8 := Lib.hid (HB7.out.trans (hb8.mono HB7.out.size))
            rw [decide_eq_true HEq.out]
            clear hb8
            go_wp2
            go_ret
            exact ⟨rfl, HB8.out⟩
          · obtain ⟨k', rfl⟩ : ∃ k', k = k' + 1 := ⟨k - 1, by omega⟩
            have hlt : k' < l.length := by omega
            obtain ⟨b, o, rfl, hc⟩ := (HU1.out.old HBr.out) (by omega)
            have hck := hc k' hlt
            have hx := HX1.out (l.getD k' 0) (by simp [hlt])
            have Hd := Lib.hid (drop_cons l k' hlt)
            generalize l.getD k' 0 = x at *
            clear hc
            rw [show (((k' + 1 : Nat) : Int) - 1) = (k' : Int) from by omega]
            go_wp2_with fail
            refine (add_any w.heap.size g2 v M x _ HM.out (by omega) HBr.out.size (by omega) (by omega)).mono ?_
            rintro e w3 ⟨rfl, v', M', hM', hH', hL', hT, hO⟩
            have HBr' := Lib.hid (touch_below HBr.out hT HBr.out.size HM.out.hb (fun q hq => (HM.out.row_ge q hq).1))
            have HS' := Lib.hid (HS.out.touch hT HA.out.symm)
            have HA' := Lib.hid ((Apart.grow HS.out HA.out.symm hO).symm)
            have HM' := Lib.hid hM'
            have HH' := Lib.hid hH'
            clear hM' hH' hT hO
            go_wp2
            go_roundw
            case rel =>
              refine ⟨k', by omega, by congr 1, HBr'.out, v', M', HS'.out, HM'.out, HA'.out, fun m => ?_, by omega⟩
              rw [HH'.out, HMem.out, Hd.out, inl_cons, decide_eq_true (by omega : 0 ≤ x)]; simp
            case measure => simp only [intOf]; omega

set_option maxHeartbeats 1000000 in
theorem walk (a0 : Option Addr) (len0 cap0 : Nat) (z0 : List Int) (a1 : Option Addr) (len1 cap1 : Nat) (z1 : List Int) (a2 : Bool) (w : World) (w0 : IsRow .u16 w a0 len0 cap0 z0) (w1 : IsRow .u16 w a1 len1 cap1 z1) (hT : Tab w) :
    Calls Tryd.prog 9 #[.slice a0 len0 cap0, .slice a1 len1 cap1, .bool a2] w fun e w' => e = .returned (.bool true) ∧ Below w.heap.size w w' := by
  obtain ⟨l, rfl, u1, x1, m1, _⟩ := ur_of_row w0
  obtain ⟨k2, rfl, u2, x2, m2, _⟩ := ur_of_row w1
  by_cases hl : l.length ≤ 20 ∧ k2.length ≤ 20
  · exact walkB a2 a0 a1 cap0 cap1 l k2 w hT u1 u2 (fun x hx => u16_of_wf (x1 x hx)) (fun x hx => u16_of_wf (x2 x hx)) hl.1 hl.2
  · have HT := Lib.hid hT
    clear w0 w1 u1 u2 x1 x2 hT
    obtain ⟨n1, hn1⟩ : ∃ n, n = l.length := ⟨_, rfl⟩
    obtain ⟨n2, hn2⟩ : ∃ n, n = k2.length := ⟨_, rfl⟩
    rw [← hn1] at hl m1 ⊢
    rw [← hn2] at hl m2 ⊢
    clear hn1 hn2
    by_cases h1 : n1 ≤ 20
    · have h2 : 20 < n2 := by omega
      go_enter Tryd.func9, Tryd.ntmps9
      go_wp2_with fail
      refine (awake_any _ HT.out).mono ?_
      rintro e w1 ⟨rfl, hb1⟩
      have HB1 := Lib.hid hb1
      have HT1 := Lib.hid (HT.out.old hb1)
      clear hb1 HT
      go_wp2_with fail
      refine (awake_any _ HT1.out).mono ?_
      rintro e w2 ⟨rfl, hb2⟩
      have HB2 := Lib.hid (HB1.out.trans (hb2.mono HB1.out.size))
      clear hb2
      go_wp2
      go_ret
      exact ⟨rfl, HB2.out⟩
    · have h2 : 20 < n1 := by omega
      go_enter Tryd.func9, Tryd.ntmps9
      go_wp2_with fail
      refine (awake_any _ HT.out).mono ?_
      rintro e w1 ⟨rfl, hb1⟩
      have HB1 := Lib.hid hb1
      have HT1 := Lib.hid (HT.out.old hb1)
      clear hb1 HT
      go_wp2_with fail
      refine (awake_any _ HT1.out).mono ?_
      rintro e w2 ⟨rfl, hb2⟩
      have HB2 := Lib.hid (HB1.out.trans (hb2.mono HB1.out.size))
      clear hb2
      go_wp2
      go_ret
      exact ⟨rfl, HB2.out⟩

theorem contract (H : Type) (enc : TypeId × Value → H) (W : World) (base : Nat) (args : Array Value) (ds gs : List (DataW H)) (before : List MemPlace)
    (hval : ∀ (j : Nat) t v, Tryd.f9.params[j]? = some t → args[j]? = some v → Value.okWide Tryd.prog W .any base t v)
    (hW : DataW.Whole enc Tryd.prog Tryd.f9.params.toList Rows.pileKeysSpec.vars false W args.toList ds gs before) (hL : laidMetH Tryd.prog Rows.pileKeysRow.laid W) :
    Calls Tryd.prog 9 args W fun e W' => ∃ v, e = .returned v ∧ Rows.pileKeysSpec.post enc Tryd.prog Tryd.f9 false true false false W args v W' := by
  have hW' := hW
  obtain ⟨p, q, hA0, hV, rfl, hfz, hnd⟩ := hW
  have hA : DataW.TrodAll enc Tryd.prog W 0 (fun _ => true) true Tryd.f9.params.toList args.toList ds p := hA0
  rw [Tryd.params9] at hA hval
  obtain ⟨v0, vs0, d0, ds0, p0, q0, hargs, rfl, rfl, h0, r0⟩ := trodAll_cons hA
  obtain ⟨v1, vs1, d1, ds1, p1, q1, rfl, rfl, rfl, h1, r1⟩ := trodAll_cons r0
  obtain ⟨v2, vs2, d2, ds2, p2, q2, rfl, rfl, rfl, h2, r2⟩ := trodAll_cons r1
  obtain ⟨rfl, rfl, rfl⟩ := trodAll_nil r2
  obtain rfl : args = #[v0, v1, v2] := by cases args; simp_all
  obtain ⟨rfl, rfl⟩ := trodVars_none hV
  obtain ⟨a0, len0, cap0, rfl⟩ := okWide_slice Tryd.underlying49 (hval 0 49 v0 rfl rfl)
  have k0 := h0
  have lt0 : ∀ x ∈ p0, x.block < W.heap.size := by obtain ⟨m, hm⟩ := k0; exact DataW.trod_lt m _ _ _ hm
  obtain ⟨z0, w0⟩ : ∃ zs, IsRow .u16 W a0 len0 cap0 zs := by
    obtain ⟨fuel, hf⟩ := h0
    rcases open_ints Tryd.underlying49 Tryd.underlying47 (by kernel_rfl) hf with ⟨hcs, _⟩ | ⟨x, l, c, zs, hcs, _, hl, hm, hz, _, hcell, hwz⟩
    · simp [Value.cells] at hcs
      obtain ⟨rfl, rfl, rfl⟩ := hcs
      exact ⟨[], .inl ⟨rfl, rfl, rfl, rfl⟩⟩
    · simp [Value.cells] at hcs
      obtain ⟨rfl, rfl, rfl⟩ := hcs
      exact ⟨zs, .inr ⟨_, rfl, hl, hm, by simpa using hz, hcell, hwz⟩⟩
  obtain ⟨a1, len1, cap1, rfl⟩ := okWide_slice Tryd.underlying49 (hval 1 49 v1 rfl rfl)
  have k1 := h1
  have lt1 : ∀ x ∈ p1, x.block < W.heap.size := by obtain ⟨m, hm⟩ := k1; exact DataW.trod_lt m _ _ _ hm
  obtain ⟨z1, w1⟩ : ∃ zs, IsRow .u16 W a1 len1 cap1 zs := by
    obtain ⟨fuel, hf⟩ := h1
    rcases open_ints Tryd.underlying49 Tryd.underlying47 (by kernel_rfl) hf with ⟨hcs, _⟩ | ⟨x, l, c, zs, hcs, _, hl, hm, hz, _, hcell, hwz⟩
    · simp [Value.cells] at hcs
      obtain ⟨rfl, rfl, rfl⟩ := hcs
      exact ⟨[], .inl ⟨rfl, rfl, rfl, rfl⟩⟩
    · simp [Value.cells] at hcs
      obtain ⟨rfl, rfl, rfl⟩ := hcs
      exact ⟨zs, .inr ⟨_, rfl, hl, hm, by simpa using hz, hcell, hwz⟩⟩
  obtain ⟨a2, rfl, rfl, rfl⟩ := open_bool Tryd.underlying4 (hval 2 4 v2 rfl rfl) h2
  clear hA0
  refine (walk a0 len0 cap0 z0 a1 len1 cap1 z1 a2 W w0 w1 (tab_of hL)).mono fun e W' ⟨he, bel⟩ => ?_
  subst he
  exact ⟨_, rfl, _, _, _, [], _, [], hW', trodAll_mk1 (shut_bool Tryd.underlying4 _), (trodAll_cons_mk (Below.trod laidOut (by kernel_rfl) (of_decide_eq_true (by kernel_rfl)) k0 bel lt0) (trodAll_cons_mk (Below.trod laidOut (by kernel_rfl) (of_decide_eq_true (by kernel_rfl)) k1 bel lt1) (trodAll_cons_mk (shut_bool Tryd.underlying4 _) trodAll_mk0))), rfl, bel.frame _, fun h => by cases h⟩


noncomputable def laidWorld (os : Os) : World :=
  { World.holding Tryd.prog os ⟨#[], #[], []⟩ with heap := ((World.holding Tryd.prog os ⟨#[], #[], []⟩).heap.modify 0 (fun o => match o with | .cells _ t frozen => .cells #[.int .u8 0, .int .u8 1, .int .u8 56, .int .u8 2, .int .u8 57, .int .u8 49, .int .u8 28, .int .u8 3, .int .u8 61, .int .u8 58, .int .u8 42, .int .u8 50, .int .u8 38, .int .u8 29, .int .u8 17, .int .u8 4, .int .u8 62, .int .u8 47, .int .u8 59, .int .u8 36, .int .u8 45, .int .u8 43, .int .u8 51, .int .u8 22, .int .u8 53, .int .u8 39, .int .u8 33, .int .u8 30, .int .u8 24, .int .u8 18, .int .u8 12, .int .u8 5, .int .u8 63, .int .u8 55, .int .u8 48, .int .u8 27, .int .u8 60, .int .u8 41, .int .u8 37, .int .u8 16, .int .u8 46, .int .u8 35, .int .u8 44, .int .u8 21, .int .u8 52, .int .u8 32, .int .u8 23, .int .u8 11, .int .u8 54, .int .u8 26, .int .u8 40, .int .u8 15, .int .u8 34, .int .u8 20, .int .u8 31, .int .u8 10, .int .u8 25, .int .u8 14, .int .u8 19, .int .u8 9, .int .u8 13, .int .u8 8, .int .u8 7, .int .u8 6] t frozen | o => o)) }
theorem laid_met (os : Os) : laidMet Tryd.prog Rows.pileKeysRow.laid ((laidWorld os).forCall (fun _ _ => 0) ⟨#[], #[.slice none 0 0, .slice none 0 0, .bool false], []⟩).memory :=
  laidMet_of_run' 8 (by kernel_rfl) (by kernel_rfl)
theorem reads (os : Os) {H : Type} (enc : TypeId × Value → H) : ∃ places, DataW.whole enc Tryd.prog ((laidWorld os).forCall (fun _ _ => 0) ⟨#[], #[.slice none 0 0, .slice none 0 0, .bool false], []⟩).memory Tryd.f9.params.toList Rows.pileKeysSpec.vars false (#[.slice none 0 0, .slice none 0 0, .bool false] : Array Value).toList 8 = some ([.nil, .nil, .lit (.bool false)], [], places) :=
  ⟨[], by kernel_rfl⟩

set_option maxRecDepth 100000 in
theorem lifted (os : Os) (started : os.Started) (H : Type) (enc : TypeId × Value → H) (F : Stop.Interp) :
    ReturnsInHanded {} Tryd.checked os 9 .any ((OpenSpec.ofChange Rows.pileKeysSpec).preRow enc Tryd.prog Tryd.f9 Rows.pileKeysRow.domain false Rows.pileKeysRow.laid) (((OpenSpec.ofChange Rows.pileKeysSpec).at F).post enc Tryd.prog Tryd.f9 false true false false) := by
  obtain ⟨places, hx⟩ := reads os enc
  refine returnsInHanded_of_row (C := Tryd.checked) (s := OpenSpec.ofChange Rows.pileKeysSpec) own started (by kernel_rfl) Tryd.func9
    (witness_row_at (enc := enc) (C := Tryd.checked) false (laidWorld os) #[.slice none 0 0, .slice none 0 0, .bool false] rfl (by kernel_rfl) (by kernel_rfl) (by kernel_rfl)
      (OpenSpec.preRow_of_cond 8 hx (by kernel_rfl) (fun k hk => by cases hk) (by kernel_rfl) (laid_met os))) ?_
  intro W base args ds gs before hval hW _ _ _ hL _ _
  exact contract H enc W base args ds gs before hval hW hL

theorem said : Rows.PileKeysSaid :=
  OpenClaim.holds_of_cond 9 Tryd.f9 rfl rfl rfl rfl rfl rfl rfl ⟨rfl, rfl, rfl, rfl, rfl⟩ rfl rfl rfl rfl rfl (by kernel_rfl) Tryd.func9 (by kernel_rfl)
    (of_decide_eq_true (by kernel_rfl)) (by unfold Func.isWrapper; first | (rw [if_pos (by decide +kernel)]; kernel_rfl) | (rw [if_neg (by decide +kernel)]; exact ⟨rfl, rfl⟩))
    (fun os started H enc _ F => by rw [OpenClaim.pre_eq_preRow]; exact lifted os started H enc F)

theorem plain (f : FuncId) (fn : Func) (hf : Tryd.pinned.checked.prog.funcNamed "weathervane/weathervanelaw03.PileKeys" = some f) (hfn : Tryd.pinned.checked.prog.funcs[f]? = some fn) :
    false = Tryd.pinned.checked.prog.looks [] ∧ ∀ (j : Nat) t, fn.params[j]? = some t → Tryd.pinned.checked.prog.wantsStandIn t = false := by
  obtain rfl : f = 9 := Option.some.inj ((show Tryd.prog.funcNamed "weathervane/weathervanelaw03.PileKeys" = some 9 by kernel_rfl).symm.trans hf) |>.symm
  obtain rfl : fn = Tryd.f9 := (Option.some.inj (Tryd.func9.symm.trans hfn)).symm
  refine ⟨by kernel_rfl, fun j t ht => ?_⟩
  rw [Tryd.params9] at ht
  have ht2 : t = 49 ∨ t = 4 := by simpa using Array.mem_of_getElem? ht
  rcases ht2 with rfl | rfl
  · exact (show Tryd.prog.wantsStandIn 49 = false by kernel_rfl)
  · exact (show Tryd.prog.wantsStandIn 4 = false by kernel_rfl)
end Go.Proofs.YtkkkglmjipnfaaaDoor.pileKeys
namespace Go.Proofs.YtkkkglmjipnfaaaDoor
theorem pileKeys_holds : Rows.PileKeysCardSaid :=
  Claim7.holds_tied_plain_at .later [] _ _ _ _ pileKeys.said (fun _ h => by cases h) (by kernel_rfl) (fun _ h => by cases h) pileKeys_row_tie rfl ⟨rfl, rfl⟩ (by kernel_rfl) rfl pileKeys.plain (by kernel_rfl)
#print axioms pileKeys_holds
end Go.Proofs.YtkkkglmjipnfaaaDoor
