/-
  SumTails (tied card): for every byte slice the law returns true and leaves its argument as it was: sealed bytes sum to zero, by the program's seal and by the reference's; the empty slice has the start value. Conditions: the table weathervane/sum.lines holds what the program's text lays (the card ties it).
-/
import Derived.Test.YtfdnlbmaceafhaaDoorCards
import Derived.Test.YtfdnlbmaceafhaaDoorTie
import Derived.WalkKit
import Derived.Test.YtfdnlbmaceafhaaDoorOpen
import Derived.ProofKit
import Derived.OpenShut
import Derived.ShutString
import Derived.ChangeOld
import Derived.Below
import Derived.Deep.DeepHandedRow
import Derived.Lib.LaidTab
namespace Go.Proofs.YtfdnlbmaceafhaaDoor.sumTails
open Go.ChangeShapes Go.WideShapes Go.ChangeAt Go.RowKit
open Go.ChangeMaps (open_string shut_string)
set_option linter.unusedVariables false

theorem own : ownKnob Tryd.prog.godebug = none := by kernel_rfl
theorem laidOut : laidOutB Tryd.prog = true := by kernel_rfl
theorem gTab : Tryd.prog.globalNamed "weathervane/sum.lines" = some 0 := by kernel_rfl
theorem gTabType : (Tryd.prog.globals[0]?).map (·.type) = some 36 := by kernel_rfl
theorem cells36 : Tryd.prog.cellsOf 36 = 16 := by kernel_rfl
theorem cells24 : Tryd.prog.cellsOf 24 = 1 := by kernel_rfl

theorem table {W : World} (h : laidMetH Tryd.prog Rows.sumTailsRow.laid W) : Lib.TabIs Tryd.prog W "weathervane/sum.lines" .u32 (tab.map fun x : Nat => (x : Int)) :=
  Lib.tabIs_of_head (rest := []) gTab gTabType Tryd.underlying36 Tryd.underlying24 cells24 cells36 h
theorem tab_of {W : World} (h : laidMetH Tryd.prog Rows.sumTailsRow.laid W) : Tab W := by
  intro i hi
  have := (table h).cell gTab i (by simpa [tab] using hi)
  rw [this]
  have e : ∀ i : Fin 16, (tab.map fun x : Nat => (x : Int)).getD i.val 0 = ((tab.getD i.val 0 : Nat) : Int) := by decide
  exact congrArg (fun z => some (Value.int .u32 z)) (e ⟨i, hi⟩)

/-- WHAT THE WALK IS TOLD OF A SLICE OF INTEGERS THAT CAME IN: it is nil; or it leads to a row of 'cap' cells, the numbers 'zs' (the first 'len' are its elements, the rest its spare room), each fitting its kind. -/
def IsRow (k : IntKind) (w : World) (a : Option Addr) (len cap : Nat) (zs : List Int) : Prop :=
  (a = none ∧ len = 0 ∧ cap = 0 ∧ zs = []) ∨
  ∃ x, a = some x ∧ len ≤ cap ∧ cap ≤ maxLen ∧ zs.length = cap ∧ (∀ i, i < zs.length → w.cell? (x.add i) = some (.int k (zs.getD i 0))) ∧ ∀ n ∈ zs, (Lit.int k n).wf = true

set_option maxHeartbeats 400000 in
theorem walk_far (a0 : Option Addr) (len0 cap0 : Nat) (w : World) (hT : Tab w) (h : 300 < len0) :
    Calls Tryd.prog 6 #[.slice a0 len0 cap0] w fun e w' => e = .returned (.bool true) ∧ Below w.heap.size w w' := by
  have HT := Lib.hid hT
  clear hT
  go_enter Tryd.func6, Tryd.ntmps6
  go_wp2_with fail
  refine (awake_any _ HT.out).mono ?_
  rintro e w1 ⟨rfl, hb⟩
  have HB := Lib.hid hb
  have HT1 := Lib.hid (HT.out.old hb)
  clear hb
  go_wp2_with fail
  refine (awake_any _ HT1.out).mono ?_
  rintro e w2 ⟨rfl, hb⟩
  have HB2 := Lib.hid (HB.out.trans (hb.mono HB.out.size))
  clear hb
  go_wp2
  go_ret
  exact ⟨rfl, HB2.out⟩

theorem crc_sealed (l : List Nat) : crc ones (l ++ four (crc ones l)) = 0#32 := by rw [crc_append, four_crc]
theorem sealed_lt (l : List Nat) (h : ∀ x ∈ l, x < 256) (r : BitVec 32) : ∀ x ∈ l ++ four r, x < 256 := by
  intro x hx
  rw [List.mem_append] at hx
  rcases hx with hx | hx
  · exact h x hx
  · exact four_lt r x hx

set_option maxHeartbeats 1000000 in
theorem walk_near (A : Option Addr) (l : List Nat) (c : Nat) (w : World) (hT : Tab w) (hs : Src w A l) (hb : ∀ x ∈ l, x < 256) (h : l.length ≤ 300) :
    Calls Tryd.prog 6 #[.slice A l.length c] w fun e w' => e = .returned (.bool true) ∧ Below w.heap.size w w' := by
  have HT := Lib.hid hT
  have HS := Lib.hid hs
  have HBy := Lib.hid hb
  clear hT hs hb
  have hl4 : (l ++ four (crc ones l)).length = l.length + 4 := by rw [List.length_append, four_len]
  have Hl4 := Lib.hid hl4
  clear hl4
  go_enter Tryd.func6, Tryd.ntmps6
  go_wp2_with fail
  refine (awake_any _ HT.out).mono ?_
  rintro e w1 ⟨rfl, hb⟩
  have HB := Lib.hid hb
  have HT1 := Lib.hid (HT.out.old hb)
  have HS1 := Lib.hid (HS.out.old hb)
  clear hb
  go_wp2_with fail
  refine (seal_any _ _ _ _ HT1.out HS1.out (by omega) HBy.out).mono ?_
  rintro e w2 ⟨A2, c2, rfl, hown, hb⟩
  obtain ⟨A2', c2', hv, _, hs2, _⟩ := Src.own hown
  injection hv with hA _ hc
  subst hA hc
  have HB2 := Lib.hid (HB.out.trans (hb.mono HB.out.size))
  have HT2 := Lib.hid (HT1.out.old hb)
  have HS2 := Lib.hid hs2
  have HSS2 := Lib.hid (HS1.out.old hb)
  clear hown hb hs2
  go_wp2_with fail
  refine (of_len _ _ _ _ (l ++ four (crc ones l)) List.length_append HT2.out HS2.out (by rw [Hl4.out]; omega) (sealed_lt l HBy.out _)).mono ?_
  rintro e w3 ⟨rfl, rfl⟩
  rw [crc_sealed]
  go_wp2_with fail
  refine (of_len _ 0 _ _ [] rfl HT2.out ⟨fun _ => rfl, fun ad h => by cases h⟩ (by simp) (by simp)).mono ?_
  rintro e w3 ⟨rfl, rfl⟩
  rw [show crc ones [] = 4294967295#32 from rfl]
  go_wp2_with fail
  refine (rseal_any _ _ _ _ HSS2.out (by omega) HBy.out).mono ?_
  rintro e w3 ⟨A3, c3, rfl, hown, hb⟩
  obtain ⟨A3', c3', hv, _, hs3, _⟩ := Src.own hown
  injection hv with hA _ hc
  subst hA hc
  have HB3 := Lib.hid (HB2.out.trans (hb.mono HB2.out.size))
  have HT3 := Lib.hid (HT2.out.old hb)
  have HS3 := Lib.hid hs3
  clear hown hb hs3
  go_wp2_with fail
  refine (of_len _ _ _ _ (l ++ four (crc ones l)) List.length_append HT3.out HS3.out (by rw [Hl4.out]; omega) (sealed_lt l HBy.out _)).mono ?_
  rintro e w4 ⟨rfl, rfl⟩
  rw [crc_sealed]
  go_wp2
  go_ret
  exact ⟨rfl, HB3.out⟩

theorem walk (a0 : Option Addr) (len0 cap0 : Nat) (z0 : List Int) (w : World) (w0 : IsRow .u8 w a0 len0 cap0 z0) (hT : Tab w) :
    Calls Tryd.prog 6 #[.slice a0 len0 cap0] w fun e w' => e = .returned (.bool true) ∧ Below w.heap.size w w' := by
  obtain ⟨p, rfl, s0, b0, c0, z0⟩ := src_of_row w0
  by_cases h : 300 < p.length
  · exact walk_far _ _ _ _ hT h
  · exact walk_near _ p _ w hT s0 b0 (by omega)

theorem contract (H : Type) (enc : TypeId × Value → H) (W : World) (base : Nat) (args : Array Value) (ds gs : List (DataW H)) (before : List MemPlace)
    (hval : ∀ (j : Nat) t v, Tryd.f6.params[j]? = some t → args[j]? = some v → Value.okWide Tryd.prog W .any base t v)
    (hW : DataW.Whole enc Tryd.prog Tryd.f6.params.toList Rows.sumTailsSpec.vars false W args.toList ds gs before) (hL : laidMetH Tryd.prog Rows.sumTailsRow.laid W) :
    Calls Tryd.prog 6 args W fun e W' => ∃ v, e = .returned v ∧ Rows.sumTailsSpec.post enc Tryd.prog Tryd.f6 false true false false W args v W' := by
  have hW' := hW
  obtain ⟨p, q, hA0, hV, rfl, hfz, hnd⟩ := hW
  have hA : DataW.TrodAll enc Tryd.prog W 0 (fun _ => true) true Tryd.f6.params.toList args.toList ds p := hA0
  rw [Tryd.params6] at hA hval
  obtain ⟨v0, vs0, d0, ds0, p0, q0, hargs, rfl, rfl, h0, r0⟩ := trodAll_cons hA
  obtain ⟨rfl, rfl, rfl⟩ := trodAll_nil r0
  obtain rfl : args = #[v0] := by cases args; simp_all
  obtain ⟨rfl, rfl⟩ := trodVars_none hV
  obtain ⟨a0, len0, cap0, rfl⟩ := okWide_slice Tryd.underlying22 (hval 0 22 v0 rfl rfl)
  have k0 := h0
  have lt0 : ∀ x ∈ p0, x.block < W.heap.size := by obtain ⟨m, hm⟩ := k0; exact DataW.trod_lt m _ _ _ hm
  obtain ⟨z0, w0⟩ : ∃ zs, IsRow .u8 W a0 len0 cap0 zs := by
    obtain ⟨fuel, hf⟩ := h0
    rcases open_ints Tryd.underlying22 Tryd.underlying5 (by kernel_rfl) hf with ⟨hcs, _⟩ | ⟨x, l, c, zs, hcs, _, hl, hm, hz, _, hcell, hwz⟩
    · simp [Value.cells] at hcs
      obtain ⟨rfl, rfl, rfl⟩ := hcs
      exact ⟨[], .inl ⟨rfl, rfl, rfl, rfl⟩⟩
    · simp [Value.cells] at hcs
      obtain ⟨rfl, rfl, rfl⟩ := hcs
      exact ⟨zs, .inr ⟨_, rfl, hl, hm, by simpa using hz, hcell, hwz⟩⟩
  clear hA0
  refine (walk a0 len0 cap0 z0 W w0 (tab_of hL)).mono fun e W' ⟨he, bel⟩ => ?_
  subst he
  exact ⟨_, rfl, _, _, _, [], _, [], hW', trodAll_mk1 (shut_bool Tryd.underlying4 _), (trodAll_cons_mk (Below.trod laidOut (by kernel_rfl) (of_decide_eq_true (by kernel_rfl)) k0 bel lt0) trodAll_mk0), rfl, bel.frame _, fun h => by cases h⟩


noncomputable def laidWorld (os : Os) : World :=
  { World.holding Tryd.prog os ⟨#[], #[], []⟩ with heap := (World.holding Tryd.prog os ⟨#[], #[], []⟩).heap.modify 0 fun
      | .cells _ t frozen => .cells #[.int .u32 0, .int .u32 79764919, .int .u32 159529838, .int .u32 222504665, .int .u32 319059676, .int .u32 398814059, .int .u32 445009330, .int .u32 507990021, .int .u32 638119352, .int .u32 583659535, .int .u32 797628118, .int .u32 726387553, .int .u32 890018660, .int .u32 835552979, .int .u32 1015980042, .int .u32 944750013] t frozen
      | o => o }
theorem laid_met (os : Os) : laidMet Tryd.prog Rows.sumTailsRow.laid ((laidWorld os).forCall (fun _ _ => 0) ⟨#[], #[.slice none 0 0], []⟩).memory :=
  laidMet_of_run' 8 (by kernel_rfl) (by kernel_rfl)
theorem reads (os : Os) {H : Type} (enc : TypeId × Value → H) : ∃ places, DataW.whole enc Tryd.prog ((laidWorld os).forCall (fun _ _ => 0) ⟨#[], #[.slice none 0 0], []⟩).memory Tryd.f6.params.toList Rows.sumTailsSpec.vars false (#[.slice none 0 0] : Array Value).toList 8 = some ([.nil], [], places) :=
  ⟨[], by kernel_rfl⟩

set_option maxRecDepth 100000 in
theorem lifted (os : Os) (started : os.Started) (H : Type) (enc : TypeId × Value → H) (F : Stop.Interp) :
    ReturnsInHanded {} Tryd.checked os 6 .any ((OpenSpec.ofChange Rows.sumTailsSpec).preRow enc Tryd.prog Tryd.f6 Rows.sumTailsRow.domain false Rows.sumTailsRow.laid) (((OpenSpec.ofChange Rows.sumTailsSpec).at F).post enc Tryd.prog Tryd.f6 false true false false) := by
  obtain ⟨places, hx⟩ := reads os enc
  refine returnsInHanded_of_row (C := Tryd.checked) (s := OpenSpec.ofChange Rows.sumTailsSpec) own started (by kernel_rfl) Tryd.func6
    (witness_row_at (enc := enc) (C := Tryd.checked) false (laidWorld os) #[.slice none 0 0] rfl (by kernel_rfl) (by kernel_rfl) (by kernel_rfl)
      (OpenSpec.preRow_of_cond 8 hx (by kernel_rfl) (fun k hk => by cases hk) (by kernel_rfl) (laid_met os))) ?_
  intro W base args ds gs before hval hW _ _ _ hL _ _
  exact contract H enc W base args ds gs before hval hW hL

theorem said : Rows.SumTailsSaid :=
  OpenClaim.holds_of_cond 6 Tryd.f6 rfl rfl rfl rfl rfl rfl rfl ⟨rfl, rfl, rfl, rfl, rfl⟩ rfl rfl rfl rfl rfl (by kernel_rfl) Tryd.func6 (by kernel_rfl)
    (of_decide_eq_true (by kernel_rfl)) (by unfold Func.isWrapper; first | (rw [if_pos (by decide +kernel)]; kernel_rfl) | (rw [if_neg (by decide +kernel)]; exact ⟨rfl, rfl⟩))
    (fun os started H enc _ F => by rw [OpenClaim.pre_eq_preRow]; exact lifted os started H enc F)

theorem plain (f : FuncId) (fn : Func) (hf : Tryd.pinned.checked.prog.funcNamed "weathervane/weathervanelaw02.SumTails" = some f) (hfn : Tryd.pinned.checked.prog.funcs[f]? = some fn) :
    false = Tryd.pinned.checked.prog.looks [] ∧ ∀ (j : Nat) t, fn.params[j]? = some t → Tryd.pinned.checked.prog.wantsStandIn t = false := by
  obtain rfl : f = 6 := Option.some.inj ((show Tryd.prog.funcNamed "weathervane/weathervanelaw02.SumTails" = some 6 by kernel_rfl).symm.trans hf) |>.symm
  obtain rfl : fn = Tryd.f6 := (Option.some.inj (Tryd.func6.symm.trans hfn)).symm
  refine ⟨by kernel_rfl, fun j t ht => ?_⟩
  rw [Tryd.params6] at ht
  have ht2 : t = 22 := by simpa using Array.mem_of_getElem? ht
  subst ht2
  exact (show Tryd.prog.wantsStandIn 22 = false by kernel_rfl)
end Go.Proofs.YtfdnlbmaceafhaaDoor.sumTails
namespace Go.Proofs.YtfdnlbmaceafhaaDoor
theorem sumTails_holds : Rows.SumTailsCardSaid :=
  Claim7.holds_tied_plain_at .later [] _ _ _ _ sumTails.said (fun _ h => by cases h) (by kernel_rfl) (fun _ h => by cases h) sumTails_row_tie rfl ⟨rfl, rfl⟩ (by kernel_rfl) rfl sumTails.plain (by kernel_rfl)
#print axioms sumTails_holds
end Go.Proofs.YtfdnlbmaceafhaaDoor
