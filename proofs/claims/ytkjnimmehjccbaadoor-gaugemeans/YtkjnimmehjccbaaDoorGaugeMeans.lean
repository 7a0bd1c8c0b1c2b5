/-
  GaugeMeans (tied card): for any slice of words the law returns true and leaves its argument as it was: gauge.Mean is the sum, in order, by how many they are. Conditions: the library's tables hold what the program's text lays (the card ties them).
-/
import Derived.Test.YtkjnimmehjccbaaDoorCards
import Derived.Test.YtkjnimmehjccbaaDoorTie
import Derived.WalkKit
import Derived.Test.YtkjnimmehjccbaaDoorMean
import Derived.ProofKit
import Derived.OpenShut
import Derived.ShutString
import Derived.ChangeOld
import Derived.Below
import Derived.Deep.DeepHandedRow
import Derived.Lib.LaidTab
import Derived.LaidSub
namespace Go.Proofs.YtkjnimmehjccbaaDoor.gaugeMeans
open Go.ChangeShapes Go.WideShapes Go.ChangeAt Go.RowKit
open Go.ChangeMaps (open_string shut_string)
set_option linter.unusedVariables false

theorem own : ownKnob Tryd.prog.godebug = none := by kernel_rfl
theorem laidOut : laidOutB Tryd.prog = true := by kernel_rfl
theorem gTabType : (Tryd.prog.globals[1]?).map (·.type) = some 58 := by kernel_rfl
theorem tab_of {W : World} (h : laidMetH Tryd.prog Rows.gaugeMeansRow.laid W) : Tab W :=
  Lib.tabIs_of_head (rest := []) gPow gTabType Tryd.underlying58 Tryd.underlying26 (by kernel_rfl) (by kernel_rfl) (laidMetH.filter (fun x => x.1 == "internal/strconv.uint64pow10") h)
/-- WHAT THE WALK IS TOLD OF A SLICE OF INTEGERS THAT CAME IN: it is nil; or it leads to a row of 'cap' cells, the numbers 'zs' (the first 'len' are its elements, the rest its spare room), each fitting its kind. -/
def IsRow (k : IntKind) (w : World) (a : Option Addr) (len cap : Nat) (zs : List Int) : Prop :=
  (a = none ∧ len = 0 ∧ cap = 0 ∧ zs = []) ∨
  ∃ x, a = some x ∧ len ≤ cap ∧ cap ≤ maxLen ∧ zs.length = cap ∧ (∀ i, i < zs.length → w.cell? (x.add i) = some (.int k (zs.getD i 0))) ∧ ∀ n ∈ zs, (Lit.int k n).wf = true

theorem info22 : (Tryd.prog.info? 22).map (fun i => (i.zero, i.size, i.bytes)) = some (some (.float .f64 0), 1, 8) := by kernel_rfl
/-- A slice of words that came in. -/
def US (w : World) (A : Option Addr) (l : List Nat) : Prop := 0 < l.length → ∃ b o, A = some ⟨b, o, none⟩ ∧ ∀ k, k < l.length → w.cell? ⟨b, o + k, none⟩ = some (.int .u64 ((l.getD k 0 : Nat) : Int))
theorem US.old {w w' : World} {A : Option Addr} {l : List Nat} (h : US w A l) (hb : Below w.heap.size w w') : US w' A l := fun hp => by
  obtain ⟨b, o, rfl, hc⟩ := h hp
  exact ⟨b, o, rfl, fun k hk => (World.cell?_of_block (hb.block b (World.block_lt_of_cell? w ⟨b, o + k, none⟩ (hc k hk)))).trans (hc k hk)⟩
theorem us_of_row {w : World} {a : Option Addr} {len cap : Nat} {zs : List Int} (h : IsRow .u64 w a len cap zs) :
    ∃ l : List Nat, l.length = len ∧ US w a l ∧ ∀ x ∈ l, x < 18446744073709551616 := by
  rcases h with ⟨rfl, rfl, rfl, rfl⟩ | ⟨x, rfl, h1, h2, h3, h4, h5⟩
  · exact ⟨[], rfl, fun h => by simp at h, by simp⟩
  · have hb : ∀ n ∈ zs, 0 ≤ n ∧ n < 18446744073709551616 := fun n hn => by
      have := h5 n hn
      simp [Lit.wf, IntKind.min, IntKind.max, IntKind.bits, IntKind.signed] at this
      omega
    refine ⟨(zs.take len).map Int.toNat, by simp; omega, fun hp => ?_, fun y hy => ?_⟩
    · have hp' : 0 < len := by simp at hp; omega
      obtain ⟨b, off, rfl, hc⟩ := ints_at h4 (by omega)
      refine ⟨b, off, rfl, fun i hi => ?_⟩
      have hi' : i < len := by simp at hi; omega
      rw [hc i (by omega)]
      have hm := hb (zs.getD i 0) (by simp [show i < zs.length by omega])
      have e : ((zs.take len).map Int.toNat).getD i 0 = (zs.getD i 0).toNat := by
        simp [List.getD, List.getElem?_take_of_lt hi', show i < zs.length by omega]
      rw [e]
      exact congrArg (fun z => some (Value.int .u64 z)) (by omega)
    · simp only [List.mem_map] at hy
      obtain ⟨z, hz, rfl⟩ := hy
      have := hb z (List.mem_of_mem_take hz)
      omega

set_option maxHeartbeats 400000 in
theorem walk_far (a0 : Option Addr) (len0 cap0 : Nat) (w : World) (hT : Tab w) (h : 30 < len0) :
    Calls Tryd.prog 4 #[.slice a0 len0 cap0] w fun e w' => e = .returned (.bool true) ∧ Below w.heap.size w w' := by
  have HT := Lib.hid hT
  clear hT
  go_enter Tryd.func4, Tryd.ntmps4
  go_wp2_with fail
  refine (awake_any _ HT.out).mono ?_
  rintro e w1 ⟨rfl, hb⟩
  have HB := Lib.hid hb
  have HT1 := Lib.hid (HT.out.old hb)
  clear hb
  go_wp2_with fail
  refine (awake_any _ HT1.out).mono ?_
  rintro e w2 ⟨rfl, hb⟩
  have HB2 := Lib.hid (HB.out.trans (hb.mono HB.out.size))
  clear hb
  go_wp2
  go_ret
  exact ⟨rfl, HB2.out⟩

theorem same_stands {s t : Nat} {o : Option Nat} (h : Stands s o) (h' : Stands t o) : (nanW s = true ∧ nanW t = true) ∨ (s = t) := by
  rcases h.2 with h1 | ⟨h1, h2⟩ <;> rcases h'.2 with h3 | ⟨h3, h4⟩
  · right; rw [h1] at h3; injection h3
  · rw [h1] at h3; cases h3
  · rw [h1] at h3; cases h3
  · left; exact ⟨h2, h4⟩

set_option maxRecDepth 20000 in
set_option maxHeartbeats 2000000 in
theorem walk_near (A : Option Addr) (l : List Nat) (c : Nat) (w : World) (hT : Tab w) (hx : US w A l) (hw : ∀ x ∈ l, x < 18446744073709551616) (hl : l.length ≤ 30) :
    Calls Tryd.prog 4 #[.slice A l.length c] w fun e w' => e = .returned (.bool true) ∧ Below w.heap.size w w' := by
  obtain ⟨i0, hi0, hz0, hz1, hz2⟩ := info_parts info22
  have HT := Lib.hid hT
  have X := Lib.hid hx
  have HW := Lib.hid hw
  have Hrb := Lib.hid run_bits
  have hrf := run_frombits
  clear hT hx hw
  go_enter Tryd.func4, Tryd.ntmps4
  go_wp2_with fail
  refine (awake_any _ HT.out).mono ?_
  rintro e w1 ⟨rfl, hb⟩
  have HB1 := Lib.hid hb
  clear hb
  go_wp2_with fail
  go_loopw [3, 4, 5] (fun v t i wr => ∃ k s : Nat, k ≤ l.length ∧ i = .int .i64 k ∧ t = .float .f64 s ∧ Hid (Stands s (sumO (l.take k))) ∧ Hid (wr.ownsRow w.heap.size 22 1 v k ((l.take k).map F)) ∧ Hid (Below w.heap.size w wr)) (fun _ _ i _ => l.length - (intOf i).toNat)
  case atStart => exact ⟨0, 0, Nat.zero_le _, rfl, rfl, ⟨by omega, .inl rfl⟩, World.ownsRow_nil _ _ _ _, HB1⟩
  case round =>
    obtain ⟨k, s, hk, rfl, rfl, hS, hO, hB⟩ := hrel
    by_cases hlt : k < l.length
    · obtain ⟨b, off, rfl, hc⟩ := (X.out.old hB.out) (by omega)
      have hcell := hc k hlt
      have Hts := Lib.hid (take_snocN l k hlt)
      generalize l.getD k 0 = x at *
      clear hc
      cases hf : floatBits .add .f64 s x with
      | some c =>
        have H := fun t w => run_float_arith (P := Tryd.prog) w .add t .f64 _ _ c hf
        have HN : Hid (Stands c (sumO (l.take (k + 1)))) := by
          show Stands _ _
          rw [Hts.out, sumO_snoc]
          exact hS.out.step_some (.inl rfl) x c hf
        clear hf
        go_wp2_with (at_builtin; refine wpList_append_own_at _ rfl _ _ 30 rfl w.heap.size 22 i0 (.float .f64 0) 1 8 Tryd.underlying30 hi0 hz0 hz1 hz2 rfl (by decide) u3 _ _ rfl (hO.out.alloc _) ⟨wr.heap.size, 0, none⟩ 1 1 [F x] rfl rfl ?c2 ?c3 ?c4 ?c5 ?c6 ?_)
        case c2 => exact cell_one_new wr (F x) 22
        case c3 => intro u hu; simp at hu; subst hu; rfl
        case c4 => unfold maxLen; omega
        case c5 => omega
        case c6 => have := hB.out.size; simp; omega
        intro v2 w2 hown hg _ _
        have HO2 : Hid (w2.ownsRow w.heap.size 22 1 v2 (k + 1) ((l.take (k + 1)).map F)) := by
          show w2.ownsRow _ _ _ _ _ _
          rw [Hts.out, List.map_append, List.map_take]
          exact hown
        have HB2 := Lib.hid ((hB.out.alloc hB.out.size _).grown hg (by have := hB.out.size; simp; omega) (fun j hj => (hO.out.lt j hj).1))
        clear hown hg
        go_wp2
        go_roundw
        case rel => exact ⟨k + 1, c, by omega, by go_num, rfl, HN, HO2, HB2⟩
        case measure => simp [intOf]; omega
      | none =>
        have H := fun t w => run_float_nan .add (.inl rfl) t s x w hf
        go_wp2_with (at_builtin; refine wpList_append_own_at _ rfl _ _ 30 rfl w.heap.size 22 i0 (.float .f64 0) 1 8 Tryd.underlying30 hi0 hz0 hz1 hz2 rfl (by decide) u3 _ _ rfl (hO.out.alloc _) ⟨wr.heap.size, 0, none⟩ 1 1 [F x] rfl rfl ?d2 ?d3 ?d4 ?d5 ?d6 ?_)
        case d2 => exact cell_one_new wr (F x) 22
        case d3 => intro u hu; simp at hu; subst hu; rfl
        case d4 => unfold maxLen; omega
        case d5 => omega
        case d6 => have := hB.out.size; simp; omega
        intro v2 w2 hown hg _ _
        have HN : Hid (Stands (nanAt s x w2) (sumO (l.take (k + 1)))) := by
          show Stands _ _
          rw [Hts.out, sumO_snoc]
          exact hS.out.step_none x w2 hf
        have HO2 : Hid (w2.ownsRow w.heap.size 22 1 v2 (k + 1) ((l.take (k + 1)).map F)) := by
          show w2.ownsRow _ _ _ _ _ _
          rw [Hts.out, List.map_append, List.map_take]
          exact hown
        have HB2 := Lib.hid ((hB.out.alloc hB.out.size _).grown hg (by have := hB.out.size; simp; omega) (fun j hj => (hO.out.lt j hj).1))
        clear hown hg hf
        go_wp2
        go_roundw
        case rel => exact ⟨k + 1, _, by omega, by go_num, rfl, HN, HO2.out, HB2.out.trans ((below_drew w2).mono HB2.out.size)⟩
        case measure => simp [intOf]; omega
    · obtain rfl : k = l.length := by omega
      have hS' : Hid (Stands s (sumO l)) := by have := hS.out; rw [List.take_length] at this; exact this
      have hO' : Hid (wr.ownsRow w.heap.size 22 1 u3 l.length (l.map F)) := by have := hO.out; rw [List.take_length] at this; exact this
      obtain ⟨A2, c2, hv, hfs⟩ := FS.own hO'.out
      have HFS := Lib.hid hfs
      clear hS hO hO' hfs
      subst hv
      cases hf : floatBits .quo .f64 s (floatOfInt .f64 l.length) with
      | some q =>
        have H := fun t w => run_float_arith (P := Tryd.prog) w .quo t .f64 _ _ q hf
        have HN : Hid (Stands q (meanO l)) := hS'.out.step_some (.inr rfl) _ q hf
        clear hf
        go_wp2_with fail
        refine (mean_any _ _ _ _ HFS.out (by omega)).mono ?_
        rintro e w2 ⟨g, rfl, hg, hb⟩
        have HB2 := Lib.hid (hB.out.trans (hb.mono hB.out.size))
        have hq := same_stands hg HN.out
        clear hb hg HN HFS
        have hrb := Hrb.out
        have hs1 := ord_self g
        have hs2 := ord_self q
        rcases hq with ⟨h1, h2⟩ | h1
        · rw [h1] at hs1
          rw [h2] at hs2
          go_wp2
          go_ret
          exact ⟨rfl, HB2.out⟩
        · subst h1
          cases hn : nanW g
          · rw [hn] at hs1
            go_wp2
            go_ret
            exact ⟨rfl, HB2.out⟩
          · rw [hn] at hs1
            go_wp2
            go_ret
            exact ⟨rfl, HB2.out⟩
      | none =>
        have H := fun t w => run_float_nan .quo (.inr (.inr rfl)) t s _ w hf
        have HN : Hid (Stands (nanAt s (floatOfInt .f64 l.length) wr) (meanO l)) := hS'.out.step_none _ wr hf
        clear hf
        generalize hq : nanAt s (floatOfInt .f64 l.length) wr = q at HN
        have HQ := Lib.hid hq
        clear hq
        go_wp2_with fail
        refine (mean_any _ _ _ _ (HFS.out.old (below_drew wr)) (by omega)).mono ?_
        rintro e w2 ⟨g, rfl, hg, hb⟩
        have HB2 := Lib.hid ((hB.out.trans ((below_drew wr).mono hB.out.size)).trans (hb.mono hB.out.size))
        have hqq := same_stands hg HN.out
        clear hb hg HN HFS
        rw [HQ.out]
        have hrb := Hrb.out
        have hs1 := ord_self g
        have hs2 := ord_self q
        rcases hqq with ⟨h1, h2⟩ | h1
        · rw [h1] at hs1
          rw [h2] at hs2
          go_wp2
          go_ret
          exact ⟨rfl, HB2.out⟩
        · subst h1
          cases hn : nanW g
          · rw [hn] at hs1
            go_wp2
            go_ret
            exact ⟨rfl, HB2.out⟩
          · rw [hn] at hs1
            go_wp2
            go_ret
            exact ⟨rfl, HB2.out⟩

theorem walk (a0 : Option Addr) (len0 cap0 : Nat) (z0 : List Int) (w : World) (w0 : IsRow .u64 w a0 len0 cap0 z0) (hT : Tab w) :
    Calls Tryd.prog 4 #[.slice a0 len0 cap0] w fun e w' => e = .returned (.bool true) ∧ Below w.heap.size w w' := by
  obtain ⟨l, rfl, hx, hw⟩ := us_of_row w0
  by_cases h : 30 < l.length
  · exact walk_far _ _ _ _ hT h
  · exact walk_near _ l _ w hT hx hw (by omega)

theorem contract (H : Type) (enc : TypeId × Value → H) (W : World) (base : Nat) (args : Array Value) (ds gs : List (DataW H)) (before : List MemPlace)
    (hval : ∀ (j : Nat) t v, Tryd.f4.params[j]? = some t → args[j]? = some v → Value.okWide Tryd.prog W .any base t v)
    (hW : DataW.Whole enc Tryd.prog Tryd.f4.params.toList Rows.gaugeMeansSpec.vars false W args.toList ds gs before) (hL : laidMetH Tryd.prog Rows.gaugeMeansRow.laid W) :
    Calls Tryd.prog 4 args W fun e W' => ∃ v, e = .returned v ∧ Rows.gaugeMeansSpec.post enc Tryd.prog Tryd.f4 false true false false W args v W' := by
  have hW' := hW
  obtain ⟨p, q, hA0, hV, rfl, hfz, hnd⟩ := hW
  have hA : DataW.TrodAll enc Tryd.prog W 0 (fun _ => true) true Tryd.f4.params.toList args.toList ds p := hA0
  rw [Tryd.params4] at hA hval
  obtain ⟨v0, vs0, d0, ds0, p0, q0, hargs, rfl, rfl, h0, r0⟩ := trodAll_cons hA
  obtain ⟨rfl, rfl, rfl⟩ := trodAll_nil r0
  obtain rfl : args = #[v0] := by cases args; simp_all
  obtain ⟨rfl, rfl⟩ := trodVars_none hV
  obtain ⟨a0, len0, cap0, rfl⟩ := okWide_slice Tryd.underlying29 (hval 0 29 v0 rfl rfl)
  have k0 := h0
  have lt0 : ∀ x ∈ p0, x.block < W.heap.size := by obtain ⟨m, hm⟩ := k0; exact DataW.trod_lt m _ _ _ hm
  obtain ⟨z0, w0⟩ : ∃ zs, IsRow .u64 W a0 len0 cap0 zs := by
    obtain ⟨fuel, hf⟩ := h0
    rcases open_ints Tryd.underlying29 Tryd.underlying26 (by kernel_rfl) hf with ⟨hcs, _⟩ | ⟨x, l, c, zs, hcs, _, hl, hm, hz, _, hcell, hwz⟩
    · simp [Value.cells] at hcs
      obtain ⟨rfl, rfl, rfl⟩ := hcs
      exact ⟨[], .inl ⟨rfl, rfl, rfl, rfl⟩⟩
    · simp [Value.cells] at hcs
      obtain ⟨rfl, rfl, rfl⟩ := hcs
      exact ⟨zs, .inr ⟨_, rfl, hl, hm, by simpa using hz, hcell, hwz⟩⟩
  clear hA0
  refine (walk a0 len0 cap0 z0 W w0 (tab_of hL)).mono fun e W' ⟨he, bel⟩ => ?_
  subst he
  exact ⟨_, rfl, _, _, _, [], _, [], hW', trodAll_mk1 (shut_bool Tryd.underlying4 _), (trodAll_cons_mk (Below.trod laidOut (by kernel_rfl) (of_decide_eq_true (by kernel_rfl)) k0 bel lt0) trodAll_mk0), rfl, bel.frame _, fun h => by cases h⟩


noncomputable def laidWorld (os : Os) : World :=
  { World.holding Tryd.prog os ⟨#[], #[], []⟩ with heap := ((((World.holding Tryd.prog os ⟨#[], #[], []⟩).heap.modify 2 (fun o => match o with | .cells _ t frozen => .cells #[.int .u8 0, .int .u8 1, .int .u8 28, .int .u8 2, .int .u8 29, .int .u8 14, .int .u8 24, .int .u8 3, .int .u8 30, .int .u8 22, .int .u8 20, .int .u8 15, .int .u8 25, .int .u8 17, .int .u8 4, .int .u8 8, .int .u8 31, .int .u8 27, .int .u8 13, .int .u8 23, .int .u8 21, .int .u8 19, .int .u8 16, .int .u8 7, .int .u8 26, .int .u8 12, .int .u8 18, .int .u8 6, .int .u8 11, .int .u8 5, .int .u8 10, .int .u8 9] t frozen | o => o)).modify 3 (fun o => match o with | .cells _ t frozen => .cells #[.int .u8 0, .int .u8 1, .int .u8 56, .int .u8 2, .int .u8 57, .int .u8 49, .int .u8 28, .int .u8 3, .int .u8 61, .int .u8 58, .int .u8 42, .int .u8 50, .int .u8 38, .int .u8 29, .int .u8 17, .int .u8 4, .int .u8 62, .int .u8 47, .int .u8 59, .int .u8 36, .int .u8 45, .int .u8 43, .int .u8 51, .int .u8 22, .int .u8 53, .int .u8 39, .int .u8 33, .int .u8 30, .int .u8 24, .int .u8 18, .int .u8 12, .int .u8 5, .int .u8 63, .int .u8 55, .int .u8 48, .int .u8 27, .int .u8 60, .int .u8 41, .int .u8 37, .int .u8 16, .int .u8 46, .int .u8 35, .int .u8 44, .int .u8 21, .int .u8 52, .int .u8 32, .int .u8 23, .int .u8 11, .int .u8 54, .int .u8 26, .int .u8 40, .int .u8 15, .int .u8 34, .int .u8 20, .int .u8 31, .int .u8 10, .int .u8 25, .int .u8 14, .int .u8 19, .int .u8 9, .int .u8 13, .int .u8 8, .int .u8 7, .int .u8 6] t frozen | o => o)).modify 1 (fun o => match o with | .cells _ t frozen => .cells #[.int .u64 1, .int .u64 10, .int .u64 100, .int .u64 1000, .int .u64 10000, .int .u64 100000, .int .u64 1000000, .int .u64 10000000, .int .u64 100000000, .int .u64 1000000000, .int .u64 10000000000, .int .u64 100000000000, .int .u64 1000000000000, .int .u64 10000000000000, .int .u64 100000000000000, .int .u64 1000000000000000, .int .u64 10000000000000000, .int .u64 100000000000000000, .int .u64 1000000000000000000, .int .u64 10000000000000000000] t frozen | o => o)) }
theorem laid_met (os : Os) : laidMet Tryd.prog Rows.gaugeMeansRow.laid ((laidWorld os).forCall (fun _ _ => 0) ⟨#[], #[.slice none 0 0], []⟩).memory :=
  laidMet_of_run' 8 (by kernel_rfl) (by kernel_rfl)
theorem reads (os : Os) {H : Type} (enc : TypeId × Value → H) : ∃ places, DataW.whole enc Tryd.prog ((laidWorld os).forCall (fun _ _ => 0) ⟨#[], #[.slice none 0 0], []⟩).memory Tryd.f4.params.toList Rows.gaugeMeansSpec.vars false (#[.slice none 0 0] : Array Value).toList 8 = some ([.nil], [], places) :=
  ⟨[], by kernel_rfl⟩

set_option maxRecDepth 100000 in
theorem lifted (os : Os) (started : os.Started) (H : Type) (enc : TypeId × Value → H) (F : Stop.Interp) :
    ReturnsInHanded {} Tryd.checked os 4 .any ((OpenSpec.ofChange Rows.gaugeMeansSpec).preRow enc Tryd.prog Tryd.f4 Rows.gaugeMeansRow.domain false Rows.gaugeMeansRow.laid) (((OpenSpec.ofChange Rows.gaugeMeansSpec).at F).post enc Tryd.prog Tryd.f4 false true false false) := by
  obtain ⟨places, hx⟩ := reads os enc
  refine returnsInHanded_of_row (C := Tryd.checked) (s := OpenSpec.ofChange Rows.gaugeMeansSpec) own started (by kernel_rfl) Tryd.func4
    (witness_row_at (enc := enc) (C := Tryd.checked) false (laidWorld os) #[.slice none 0 0] rfl (by kernel_rfl) (by kernel_rfl) (by kernel_rfl)
      (OpenSpec.preRow_of_cond 8 hx (by kernel_rfl) (fun k hk => by cases hk) (by kernel_rfl) (laid_met os))) ?_
  intro W base args ds gs before hval hW _ _ _ hL _ _
  exact contract H enc W base args ds gs before hval hW hL

theorem said : Rows.GaugeMeansSaid :=
  OpenClaim.holds_of_cond 4 Tryd.f4 rfl rfl rfl rfl rfl rfl rfl ⟨rfl, rfl, rfl, rfl, rfl⟩ rfl rfl rfl rfl rfl (by kernel_rfl) Tryd.func4 (by kernel_rfl)
    (of_decide_eq_true (by kernel_rfl)) (by unfold Func.isWrapper; first | (rw [if_pos (by decide +kernel)]; kernel_rfl) | (rw [if_neg (by decide +kernel)]; exact ⟨rfl, rfl⟩))
    (fun os started H enc _ F => by rw [OpenClaim.pre_eq_preRow]; exact lifted os started H enc F)

theorem plain (f : FuncId) (fn : Func) (hf : Tryd.pinned.checked.prog.funcNamed "weathervane/weathervanelaw04.GaugeMeans" = some f) (hfn : Tryd.pinned.checked.prog.funcs[f]? = some fn) :
    false = Tryd.pinned.checked.prog.looks [] ∧ ∀ (j : Nat) t, fn.params[j]? = some t → Tryd.pinned.checked.prog.wantsStandIn t = false := by
  obtain rfl : f = 4 := Option.some.inj ((show Tryd.prog.funcNamed "weathervane/weathervanelaw04.GaugeMeans" = some 4 by kernel_rfl).symm.trans hf) |>.symm
  obtain rfl : fn = Tryd.f4 := (Option.some.inj (Tryd.func4.symm.trans hfn)).symm
  refine ⟨by kernel_rfl, fun j t ht => ?_⟩
  rw [Tryd.params4] at ht
  have ht2 : t = 29 := by simpa using Array.mem_of_getElem? ht
  subst ht2
  exact (show Tryd.prog.wantsStandIn 29 = false by kernel_rfl)
end Go.Proofs.YtkjnimmehjccbaaDoor.gaugeMeans
namespace Go.Proofs.YtkjnimmehjccbaaDoor
theorem gaugeMeans_holds : Rows.GaugeMeansCardSaid :=
  Claim7.holds_tied_plain_at .later [] _ _ _ _ gaugeMeans.said (fun _ h => by cases h) (by kernel_rfl) (fun _ h => by cases h) gaugeMeans_row_tie rfl ⟨rfl, rfl⟩ (by kernel_rfl) rfl gaugeMeans.plain (by kernel_rfl)
#print axioms gaugeMeans_holds
end Go.Proofs.YtkjnimmehjccbaaDoor
