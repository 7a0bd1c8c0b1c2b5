/-
  GaugeBest (tied card): for any slice of words the law returns true and leaves its argument as it was: gauge.Best is the first place of which none is greater. Conditions: the library's tables hold what the program's text lays (the card ties them).
-/
import Derived.Test.YtkjnimmehjccbaaDoorCards
import Derived.Test.YtkjnimmehjccbaaDoorTie
import Derived.WalkKit
import Derived.Test.YtkjnimmehjccbaaDoorMean
import Derived.ProofKit
import Derived.OpenShut
import Derived.ShutString
import Derived.ChangeOld
import Derived.Below
import Derived.Deep.DeepHandedRow
import Derived.Lib.LaidTab
import Derived.LaidSub
namespace Go.Proofs.YtkjnimmehjccbaaDoor.gaugeBest
open Go.ChangeShapes Go.WideShapes Go.ChangeAt Go.RowKit
open Go.ChangeMaps (open_string shut_string)
set_option linter.unusedVariables false

theorem own : ownKnob Tryd.prog.godebug = none := by kernel_rfl
theorem laidOut : laidOutB Tryd.prog = true := by kernel_rfl
theorem gTabType : (Tryd.prog.globals[1]?).map (·.type) = some 58 := by kernel_rfl
theorem tab_of {W : World} (h : laidMetH Tryd.prog Rows.gaugeBestRow.laid W) : Tab W :=
  Lib.tabIs_of_head (rest := []) gPow gTabType Tryd.underlying58 Tryd.underlying26 (by kernel_rfl) (by kernel_rfl) (laidMetH.filter (fun x => x.1 == "internal/strconv.uint64pow10") h)
/-- WHAT THE WALK IS TOLD OF A SLICE OF INTEGERS THAT CAME IN: it is nil; or it leads to a row of 'cap' cells, the numbers 'zs' (the first 'len' are its elements, the rest its spare room), each fitting its kind. -/
def IsRow (k : IntKind) (w : World) (a : Option Addr) (len cap : Nat) (zs : List Int) : Prop :=
  (a = none ∧ len = 0 ∧ cap = 0 ∧ zs = []) ∨
  ∃ x, a = some x ∧ len ≤ cap ∧ cap ≤ maxLen ∧ zs.length = cap ∧ (∀ i, i < zs.length → w.cell? (x.add i) = some (.int k (zs.getD i 0))) ∧ ∀ n ∈ zs, (Lit.int k n).wf = true

theorem info22 : (Tryd.prog.info? 22).map (fun i => (i.zero, i.size, i.bytes)) = some (some (.float .f64 0), 1, 8) := by kernel_rfl
/-- A slice of words that came in. -/
def US (w : World) (A : Option Addr) (l : List Nat) : Prop := 0 < l.length → ∃ b o, A = some ⟨b, o, none⟩ ∧ ∀ k, k < l.length → w.cell? ⟨b, o + k, none⟩ = some (.int .u64 ((l.getD k 0 : Nat) : Int))
theorem US.old {w w' : World} {A : Option Addr} {l : List Nat} (h : US w A l) (hb : Below w.heap.size w w') : US w' A l := fun hp => by
  obtain ⟨b, o, rfl, hc⟩ := h hp
  exact ⟨b, o, rfl, fun k hk => (World.cell?_of_block (hb.block b (World.block_lt_of_cell? w ⟨b, o + k, none⟩ (hc k hk)))).trans (hc k hk)⟩
theorem us_of_row {w : World} {a : Option Addr} {len cap : Nat} {zs : List Int} (h : IsRow .u64 w a len cap zs) :
    ∃ l : List Nat, l.length = len ∧ US w a l ∧ ∀ x ∈ l, x < 18446744073709551616 := by
  rcases h with ⟨rfl, rfl, rfl, rfl⟩ | ⟨x, rfl, h1, h2, h3, h4, h5⟩
  · exact ⟨[], rfl, fun h => by simp at h, by simp⟩
  · have hb : ∀ n ∈ zs, 0 ≤ n ∧ n < 18446744073709551616 := fun n hn => by
      have := h5 n hn
      simp [Lit.wf, IntKind.min, IntKind.max, IntKind.bits, IntKind.signed] at this
      omega
    refine ⟨(zs.take len).map Int.toNat, by simp; omega, fun hp => ?_, fun y hy => ?_⟩
    · have hp' : 0 < len := by simp at hp; omega
      obtain ⟨b, off, rfl, hc⟩ := ints_at h4 (by omega)
      refine ⟨b, off, rfl, fun i hi => ?_⟩
      have hi' : i < len := by simp at hi; omega
      rw [hc i (by omega)]
      have hm := hb (zs.getD i 0) (by simp [show i < zs.length by omega])
      have e : ((zs.take len).map Int.toNat).getD i 0 = (zs.getD i 0).toNat := by
        simp [List.getD, List.getElem?_take_of_lt hi', show i < zs.length by omega]
      rw [e]
      exact congrArg (fun z => some (Value.int .u64 z)) (by omega)
    · simp only [List.mem_map] at hy
      obtain ⟨z, hz, rfl⟩ := hy
      have := hb z (List.mem_of_mem_take hz)
      omega

set_option maxHeartbeats 400000 in
theorem walk_far (a0 : Option Addr) (len0 cap0 : Nat) (w : World) (hT : Tab w) (h : 30 < len0) :
    Calls Tryd.prog 6 #[.slice a0 len0 cap0] w fun e w' => e = .returned (.bool true) ∧ Below w.heap.size w w' := by
  have HT := Lib.hid hT
  clear hT
  go_enter Tryd.func6, Tryd.ntmps6
  go_wp2_with fail
  refine (awake_any _ HT.out).mono ?_
  rintro e w1 ⟨rfl, hb⟩
  have HB := Lib.hid hb
  have HT1 := Lib.hid (HT.out.old hb)
  clear hb
  go_wp2_with fail
  refine (awake_any _ HT1.out).mono ?_
  rintro e w2 ⟨rfl, hb⟩
  have HB2 := Lib.hid (HB.out.trans (hb.mono HB.out.size))
  clear hb
  go_wp2
  go_ret
  exact ⟨rfl, HB2.out⟩

theorem less_is (a b : Nat) (v : Bool) (h : lessW a b = v) (w : World) (ha : a < 18446744073709551616) (hb : b < 18446744073709551616) : Calls Tryd.prog 19 #[.float .f64 a, .float .f64 b] w fun e w' => e = .returned (.bool v) ∧ w = w' := by
  subst h
  exact less_any a b w ha hb
set_option maxRecDepth 20000 in
set_option maxHeartbeats 2000000 in
theorem walk_near (A : Option Addr) (l : List Nat) (c : Nat) (w : World) (hT : Tab w) (hx : US w A l) (hw : ∀ x ∈ l, x < 18446744073709551616) (hl : l.length ≤ 30) :
    Calls Tryd.prog 6 #[.slice A l.length c] w fun e w' => e = .returned (.bool true) ∧ Below w.heap.size w w' := by
  obtain ⟨i0, hi0, hz0, hz1, hz2⟩ := info_parts info22
  have HT := Lib.hid hT
  have X := Lib.hid hx
  have HW := Lib.hid hw
  have hrf := run_frombits
  clear hT hx hw
  go_enter Tryd.func6, Tryd.ntmps6
  go_wp2_with fail
  refine (awake_any _ HT.out).mono ?_
  rintro e w1 ⟨rfl, hb⟩
  have HB1 := Lib.hid hb
  clear hb
  go_wp2_with fail
  go_loopw [3, 4] (fun v i wr => ∃ k : Nat, k ≤ l.length ∧ i = .int .i64 k ∧ Hid (wr.ownsRow w.heap.size 22 1 v k ((l.take k).map F)) ∧ Hid (Below w.heap.size w wr)) (fun _ i _ => l.length - (intOf i).toNat)
  case atStart => exact ⟨0, Nat.zero_le _, rfl, World.ownsRow_nil _ _ _ _, HB1⟩
  case round =>
    obtain ⟨k, hk, rfl, hO, hB⟩ := hrel
    by_cases hlt : k < l.length
    · obtain ⟨b, off, rfl, hc⟩ := (X.out.old hB.out) (by omega)
      have hcell := hc k hlt
      have Hts := Lib.hid (take_snocN l k hlt)
      generalize l.getD k 0 = x at *
      clear hc
      go_wp2_with (at_builtin; refine wpList_append_own_at _ rfl _ _ 30 rfl w.heap.size 22 i0 (.float .f64 0) 1 8 Tryd.underlying30 hi0 hz0 hz1 hz2 rfl (by decide) u3 _ _ rfl (hO.out.alloc _) ⟨wr.heap.size, 0, none⟩ 1 1 [F x] rfl rfl ?c2 ?c3 ?c4 ?c5 ?c6 ?_)
      case c2 => exact cell_one_new wr (F x) 22
      case c3 => intro u hu; simp at hu; subst hu; rfl
      case c4 => unfold maxLen; omega
      case c5 => omega
      case c6 => have := hB.out.size; simp; omega
      intro v2 w2 hown hg _ _
      have HO2 : Hid (w2.ownsRow w.heap.size 22 1 v2 (k + 1) ((l.take (k + 1)).map F)) := by
        show w2.ownsRow _ _ _ _ _ _
        rw [Hts.out, List.map_append, List.map_take]
        exact hown
      have HB2 := Lib.hid ((hB.out.alloc hB.out.size _).grown hg (by have := hB.out.size; simp; omega) (fun j hj => (hO.out.lt j hj).1))
      clear hown hg
      go_wp2
      go_roundw
      case rel => exact ⟨k + 1, by omega, by go_num, HO2, HB2⟩
      case measure => simp [intOf]; omega
    · obtain rfl : k = l.length := by omega
      have hO' : Hid (wr.ownsRow w.heap.size 22 1 u3 l.length (l.map F)) := by have := hO.out; rw [List.take_length] at this; exact this
      obtain ⟨A2, c2, hv, hfs⟩ := FS.own hO'.out
      have HFS := Lib.hid hfs
      clear hO hO' hfs
      subst hv
      go_wp2_with fail
      refine (best_any _ _ _ _ HFS.out (by omega) HW.out).mono ?_
      rintro e w2 ⟨z, rfl, hz, rfl⟩
      rcases hz with ⟨h0, rfl⟩ | ⟨j, rfl, hb⟩
      · have h0' : ((l.length : Int) == 0) = true := by rw [h0]; rfl
        clear h0
        go_wp2
        go_ret
        exact ⟨rfl, hB.out⟩
      · have hj := hb.1
        have h0' : ((l.length : Int) == 0) = false := by simp; intro h; rw [h] at hj; simp at hj
        have Hb := Lib.hid hb
        clear hb
        obtain ⟨b2, o2, rfl, hc2⟩ := HFS.out (by omega)
        have Hc2 := Lib.hid hc2
        have hyw := Lib.hid (HW.out (l.getD j 0) (by simp [hj]))
        clear hc2
        have hd1 : decide (l.length ≤ j) = false := by simp; omega
        have hd2 : decide ((j : Int) < 0) = false := by simp
        obtain ⟨w9, rfl⟩ : ∃ w9, w9 = wr := ⟨_, rfl⟩
        go_wp2_with fail
        go_loopw [6] (fun i w3 => ∃ k : Nat, k ≤ l.length ∧ i = .int .i64 k ∧ Hid (Below w9.heap.size w9 w3)) (fun i _ => l.length - (intOf i).toNat)
        case atStart => exact ⟨0, Nat.zero_le _, rfl, Below.refl _ _⟩
        case round =>
          obtain ⟨k, hk, rfl, hD⟩ := hrel
          by_cases hlt : k < l.length
          · have hck : wr.cell? ⟨b2, o2 + k, none⟩ = some (F (l.getD k 0)) := (World.cell?_of_block (hD.out.block b2 (World.block_lt_of_cell? w9 ⟨b2, o2 + k, none⟩ (Hc2.out k hlt)))).trans (Hc2.out k hlt)
            have hcj3 : wr.cell? ⟨b2, o2 + j, none⟩ = some (F (l.getD j 0)) := (World.cell?_of_block (hD.out.block b2 (World.block_lt_of_cell? w9 ⟨b2, o2 + j, none⟩ (Hc2.out j hj)))).trans (Hc2.out j hj)
            have hxw := Lib.hid (HW.out (l.getD k 0) (by simp [hlt]))
            have hl1 := Lib.hid (Hb.out.2.1 k hlt)
            have hl2 := Lib.hid (Hb.out.2.2 k)
            generalize l.getD j 0 = y at *
            generalize l.getD k 0 = x at *
            unfold F at hck hcj3
            have hi1 : (j : Int) < (l.length : Int) := by omega
            have hi2 : (k : Int) < (l.length : Int) := by omega
            by_cases hkj : k < j
            · have hl3 := Lib.hid (hl2.out hkj)
              have hg : decide ((k : Int) < (j : Int)) = true := by simp; omega
              have hg' : decide (k < j) = true := by simp; omega
              go_wp2_with fail
              go_quiet ((first | (with_reducible exact quiet_left (less_is y x false hl1.out _ hyw.out hxw.out)) | (with_reducible exact quiet_left (less_is x y true hl3.out _ hxw.out hyw.out))))
              go_wp2
              go_roundw
              case rel => exact ⟨k + 1, by omega, by go_num, below_drewN' hD.out _⟩
              case measure => simp [intOf]; omega
            · have hg : decide ((k : Int) < (j : Int)) = false := by simp; omega
              have hg' : decide (k < j) = false := by simp; omega
              go_wp2_with fail
              go_quiet ((with_reducible exact quiet_left (less_is y x false hl1.out _ hyw.out hxw.out)))
              go_wp2
              go_roundw
              case rel => exact ⟨k + 1, by omega, by go_num, below_drewN' hD.out _⟩
              case measure => simp [intOf]; omega
          · go_wp2
            go_ret
            exact ⟨rfl, hB.out.trans (hD.out.mono hB.out.size)⟩

theorem walk (a0 : Option Addr) (len0 cap0 : Nat) (z0 : List Int) (w : World) (w0 : IsRow .u64 w a0 len0 cap0 z0) (hT : Tab w) :
    Calls Tryd.prog 6 #[.slice a0 len0 cap0] w fun e w' => e = .returned (.bool true) ∧ Below w.heap.size w w' := by
  obtain ⟨l, rfl, hx, hw⟩ := us_of_row w0
  by_cases h : 30 < l.length
  · exact walk_far _ _ _ _ hT h
  · exact walk_near _ l _ w hT hx hw (by omega)

theorem contract (H : Type) (enc : TypeId × Value → H) (W : World) (base : Nat) (args : Array Value) (ds gs : List (DataW H)) (before : List MemPlace)
    (hval : ∀ (j : Nat) t v, Tryd.f6.params[j]? = some t → args[j]? = some v → Value.okWide Tryd.prog W .any base t v)
    (hW : DataW.Whole enc Tryd.prog Tryd.f6.params.toList Rows.gaugeBestSpec.vars false W args.toList ds gs before) (hL : laidMetH Tryd.prog Rows.gaugeBestRow.laid W) :
    Calls Tryd.prog 6 args W fun e W' => ∃ v, e = .returned v ∧ Rows.gaugeBestSpec.post enc Tryd.prog Tryd.f6 false true false false W args v W' := by
  have hW' := hW
  obtain ⟨p, q, hA0, hV, rfl, hfz, hnd⟩ := hW
  have hA : DataW.TrodAll enc Tryd.prog W 0 (fun _ => true) true Tryd.f6.params.toList args.toList ds p := hA0
  rw [Tryd.params6] at hA hval
  obtain ⟨v0, vs0, d0, ds0, p0, q0, hargs, rfl, rfl, h0, r0⟩ := trodAll_cons hA
  obtain ⟨rfl, rfl, rfl⟩ := trodAll_nil r0
  obtain rfl : args = #[v0] := by cases args; simp_all
  obtain ⟨rfl, rfl⟩ := trodVars_none hV
  obtain ⟨a0, len0, cap0, rfl⟩ := okWide_slice Tryd.underlying29 (hval 0 29 v0 rfl rfl)
  have k0 := h0
  have lt0 : ∀ x ∈ p0, x.block < W.heap.size := by obtain ⟨m, hm⟩ := k0; exact DataW.trod_lt m _ _ _ hm
  obtain ⟨z0, w0⟩ : ∃ zs, IsRow .u64 W a0 len0 cap0 zs := by
    obtain ⟨fuel, hf⟩ := h0
    rcases open_ints Tryd.underlying29 Tryd.underlying26 (by kernel_rfl) hf with ⟨hcs, _⟩ | ⟨x, l, c, zs, hcs, _, hl, hm, hz, _, hcell, hwz⟩
    · simp [Value.cells] at hcs
      obtain ⟨rfl, rfl, rfl⟩ := hcs
      exact ⟨[], .inl ⟨rfl, rfl, rfl, rfl⟩⟩
    · simp [Value.cells] at hcs
      obtain ⟨rfl, rfl, rfl⟩ := hcs
      exact ⟨zs, .inr ⟨_, rfl, hl, hm, by simpa using hz, hcell, hwz⟩⟩
  clear hA0
  refine (walk a0 len0 cap0 z0 W w0 (tab_of hL)).mono fun e W' ⟨he, bel⟩ => ?_
  subst he
  exact ⟨_, rfl, _, _, _, [], _, [], hW', trodAll_mk1 (shut_bool Tryd.underlying4 _), (trodAll_cons_mk (Below.trod laidOut (by kernel_rfl) (of_decide_eq_true (by kernel_rfl)) k0 bel lt0) trodAll_mk0), rfl, bel.frame _, fun h => by cases h⟩


noncomputable def laidWorld (os : Os) : World :=
  { World.holding Tryd.prog os ⟨#[], #[], []⟩ with heap := ((((World.holding Tryd.prog os ⟨#[], #[], []⟩).heap.modify 2 (fun o => match o with | .cells _ t frozen => .cells #[.int .u8 0, .int .u8 1, .int .u8 28, .int .u8 2, .int .u8 29, .int .u8 14, .int .u8 24, .int .u8 3, .int .u8 30, .int .u8 22, .int .u8 20, .int .u8 15, .int .u8 25, .int .u8 17, .int .u8 4, .int .u8 8, .int .u8 31, .int .u8 27, .int .u8 13, .int .u8 23, .int .u8 21, .int .u8 19, .int .u8 16, .int .u8 7, .int .u8 26, .int .u8 12, .int .u8 18, .int .u8 6, .int .u8 11, .int .u8 5, .int .u8 10, .int .u8 9] t frozen | o => o)).modify 3 (fun o => match o with | .cells _ t frozen => .cells #[.int .u8 0, .int .u8 1, .int .u8 56, .int .u8 2, .int .u8 57, .int .u8 49, .int .u8 28, .int .u8 3, .int .u8 61, .int .u8 58, .int .u8 42, .int .u8 50, .int .u8 38, .int .u8 29, .int .u8 17, .int .u8 4, .int .u8 62, .int .u8 47, .int .u8 59, .int .u8 36, .int .u8 45, .int .u8 43, .int .u8 51, .int .u8 22, .int .u8 53, .int .u8 39, .int .u8 33, .int .u8 30, .int .u8 24, .int .u8 18, .int .u8 12, .int .u8 5, .int .u8 63, .int .u8 55, .int .u8 48, .int .u8 27, .int .u8 60, .int .u8 41, .int .u8 37, .int .u8 16, .int .u8 46, .int .u8 35, .int .u8 44, .int .u8 21, .int .u8 52, .int .u8 32, .int .u8 23, .int .u8 11, .int .u8 54, .int .u8 26, .int .u8 40, .int .u8 15, .int .u8 34, .int .u8 20, .int .u8 31, .int .u8 10, .int .u8 25, .int .u8 14, .int .u8 19, .int .u8 9, .int .u8 13, .int .u8 8, .int .u8 7, .int .u8 6] t frozen | o => o)).modify 1 (fun o => match o with | .cells _ t frozen => .cells #[.int .u64 1, .int .u64 10, .int .u64 100, .int .u64 1000, .int .u64 10000, .int .u64 100000, .int .u64 1000000, .int .u64 10000000, .int .u64 100000000, .int .u64 1000000000, .int .u64 10000000000, .int .u64 100000000000, .int .u64 1000000000000, .int .u64 10000000000000, .int .u64 100000000000000, .int .u64 1000000000000000, .int .u64 10000000000000000, .int .u64 100000000000000000, .int .u64 1000000000000000000, .int .u64 10000000000000000000] t frozen | o => o)) }
theorem laid_met (os : Os) : laidMet Tryd.prog Rows.gaugeBestRow.laid ((laidWorld os).forCall (fun _ _ => 0) ⟨#[], #[.slice none 0 0], []⟩).memory :=
  laidMet_of_run' 8 (by kernel_rfl) (by kernel_rfl)
theorem reads (os : Os) {H : Type} (enc : TypeId × Value → H) : ∃ places, DataW.whole enc Tryd.prog ((laidWorld os).forCall (fun _ _ => 0) ⟨#[], #[.slice none 0 0], []⟩).memory Tryd.f6.params.toList Rows.gaugeBestSpec.vars false (#[.slice none 0 0] : Array Value).toList 8 = some ([.nil], [], places) :=
  ⟨[], by kernel_rfl⟩

set_option maxRecDepth 100000 in
theorem lifted (os : Os) (started : os.Started) (H : Type) (enc : TypeId × Value → H) (F : Stop.Interp) :
    ReturnsInHanded {} Tryd.checked os 6 .any ((OpenSpec.ofChange Rows.gaugeBestSpec).preRow enc Tryd.prog Tryd.f6 Rows.gaugeBestRow.domain false Rows.gaugeBestRow.laid) (((OpenSpec.ofChange Rows.gaugeBestSpec).at F).post enc Tryd.prog Tryd.f6 false true false false) := by
  obtain ⟨places, hx⟩ := reads os enc
  refine returnsInHanded_of_row (C := Tryd.checked) (s := OpenSpec.ofChange Rows.gaugeBestSpec) own started (by kernel_rfl) Tryd.func6
    (witness_row_at (enc := enc) (C := Tryd.checked) false (laidWorld os) #[.slice none 0 0] rfl (by kernel_rfl) (by kernel_rfl) (by kernel_rfl)
      (OpenSpec.preRow_of_cond 8 hx (by kernel_rfl) (fun k hk => by cases hk) (by kernel_rfl) (laid_met os))) ?_
  intro W base args ds gs before hval hW _ _ _ hL _ _
  exact contract H enc W base args ds gs before hval hW hL

theorem said : Rows.GaugeBestSaid :=
  OpenClaim.holds_of_cond 6 Tryd.f6 rfl rfl rfl rfl rfl rfl rfl ⟨rfl, rfl, rfl, rfl, rfl⟩ rfl rfl rfl rfl rfl (by kernel_rfl) Tryd.func6 (by kernel_rfl)
    (of_decide_eq_true (by kernel_rfl)) (by unfold Func.isWrapper; first | (rw [if_pos (by decide +kernel)]; kernel_rfl) | (rw [if_neg (by decide +kernel)]; exact ⟨rfl, rfl⟩))
    (fun os started H enc _ F => by rw [OpenClaim.pre_eq_preRow]; exact lifted os started H enc F)

theorem plain (f : FuncId) (fn : Func) (hf : Tryd.pinned.checked.prog.funcNamed "weathervane/weathervanelaw04.GaugeBest" = some f) (hfn : Tryd.pinned.checked.prog.funcs[f]? = some fn) :
    false = Tryd.pinned.checked.prog.looks [] ∧ ∀ (j : Nat) t, fn.params[j]? = some t → Tryd.pinned.checked.prog.wantsStandIn t = false := by
  obtain rfl : f = 6 := Option.some.inj ((show Tryd.prog.funcNamed "weathervane/weathervanelaw04.GaugeBest" = some 6 by kernel_rfl).symm.trans hf) |>.symm
  obtain rfl : fn = Tryd.f6 := (Option.some.inj (Tryd.func6.symm.trans hfn)).symm
  refine ⟨by kernel_rfl, fun j t ht => ?_⟩
  rw [Tryd.params6] at ht
  have ht2 : t = 29 := by simpa using Array.mem_of_getElem? ht
  subst ht2
  exact (show Tryd.prog.wantsStandIn 29 = false by kernel_rfl)
end Go.Proofs.YtkjnimmehjccbaaDoor.gaugeBest
namespace Go.Proofs.YtkjnimmehjccbaaDoor
theorem gaugeBest_holds : Rows.GaugeBestCardSaid :=
  Claim7.holds_tied_plain_at .later [] _ _ _ _ gaugeBest.said (fun _ h => by cases h) (by kernel_rfl) (fun _ h => by cases h) gaugeBest_row_tie rfl ⟨rfl, rfl⟩ (by kernel_rfl) rfl gaugeBest.plain (by kernel_rfl)
#print axioms gaugeBest_holds
end Go.Proofs.YtkjnimmehjccbaaDoor
