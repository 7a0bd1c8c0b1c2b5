/-
  What gauge.Mean and gauge.Best return, for every slice that reads as a list of words.
-/
import Derived.Test.YtkjnimmehjccbaaDoorEx2
import Derived.Maps.AppendAt
import Derived.Laws.OwnMore
import Derived.Deep.QuietTactic
import Derived.BigQuiet
namespace Go.Proofs.YtkjnimmehjccbaaDoor
open Go.RowKit

/-- A float cell. -/
def F (b : Nat) : Value := .float .f64 b
/-- A slice of floats that reads as these words. -/
def FS (w : World) (A : Option Addr) (l : List Nat) : Prop := 0 < l.length → ∃ b o, A = some ⟨b, o, none⟩ ∧ ∀ k, k < l.length → w.cell? ⟨b, o + k, none⟩ = some (F (l.getD k 0))
theorem FS.old {w w' : World} {A : Option Addr} {l : List Nat} (h : FS w A l) (hb : Below w.heap.size w w') : FS w' A l := fun hp => by
  obtain ⟨b, o, rfl, hc⟩ := h hp
  exact ⟨b, o, rfl, fun k hk => (World.cell?_of_block (hb.block b (World.block_lt_of_cell? w ⟨b, o + k, none⟩ (hc k hk)))).trans (hc k hk)⟩
theorem FS.own {w : World} {base e : Nat} {v : Value} {l : List Nat} (h : w.ownsRow base e 1 v l.length (l.map F)) : ∃ A c, v = .slice A l.length c ∧ FS w A l := by
  obtain ⟨_, h2⟩ := h
  rcases h2 with ⟨rfl, hn⟩ | ⟨g, cap, cur, rfl, _, hg, _, _, _, ht⟩
  · refine ⟨none, 0, by rw [hn], fun hp => by omega⟩
  · refine ⟨_, _, rfl, fun _ => ⟨g, 0, rfl, fun k hk => ?_⟩⟩
    rw [cell_of_row w g (0 + k) cur e (0, 0) hg, Nat.zero_add, ← Array.getElem?_toList]
    have h3 : (cur.toList.take (l.length * 1))[k]? = (l.map F)[k]? := by rw [ht]
    rw [List.getElem?_take_of_lt (by omega)] at h3
    rw [h3]
    simp [List.getD, hk]
theorem take_snocN (l : List Nat) (k : Nat) (h : k < l.length) : l.take (k + 1) = l.take k ++ [l.getD k 0] := by
  rw [List.take_succ_eq_append_getElem h]; simp [h]

/-- The sum in order; none: no number. -/
def sumO (l : List Nat) : Option Nat := l.foldl (fun o x => o.bind fun s => floatBits .add .f64 s x) (some 0)
def meanO (l : List Nat) : Option Nat := (sumO l).bind fun s => floatBits .quo .f64 s (floatOfInt .f64 l.length)
def Stands (s : Nat) (o : Option Nat) : Prop := s < 18446744073709551616 ∧ ((o = some s) ∨ (o = none ∧ nanW s = true))
theorem sumO_snoc (l : List Nat) (x : Nat) : sumO (l ++ [x]) = (sumO l).bind fun s => floatBits .add .f64 s x := by
  unfold sumO
  rw [List.foldl_append]
  rfl
theorem nan_add {s : Nat} (h : nanW s = true) (x : Nat) : floatBits .add .f64 s x = none := by
  unfold nanW at h
  simp only [decide_eq_true_eq] at h
  show Ieee.double.add s x = none
  unfold Ieee.Format.add
  rw [read_nan s h]
  rfl
theorem nan_quo {s : Nat} (h : nanW s = true) (x : Nat) : floatBits .quo .f64 s x = none := by
  unfold nanW at h
  simp only [decide_eq_true_eq] at h
  show Ieee.double.div s x = none
  unfold Ieee.Format.div
  rw [read_nan s h]
  rfl
theorem wf_lt {r : Nat} (h : (Lit.float .f64 r).wf = true) : r < 18446744073709551616 := by
  simpa [Lit.wf] using h
theorem Stands.step_some {s : Nat} {o : Option Nat} {op : BinOp} (hop : op = .add ∨ op = .quo) (h : Stands s o) (x c : Nat) (hf : floatBits op .f64 s x = some c) : Stands c (o.bind fun s => floatBits op .f64 s x) := by
  refine ⟨wf_lt (floatBits_wf hf), ?_⟩
  rcases h.2 with rfl | ⟨rfl, hn⟩
  · left; exact hf
  · rcases hop with rfl | rfl
    · rw [nan_add hn] at hf; cases hf
    · rw [nan_quo hn] at hf; cases hf
theorem Stands.step_none {s : Nat} {o : Option Nat} {op : BinOp} (h : Stands s o) (x : Nat) (w : World) (hf : floatBits op .f64 s x = none) : Stands (nanAt s x w) (o.bind fun s => floatBits op .f64 s x) := by
  refine ⟨(nanAt_nan s x w).2, .inr ⟨?_, (nanAt_nan s x w).1⟩⟩
  rcases h.2 with rfl | ⟨rfl, hn⟩
  · exact hf
  · rfl

/-- What Mean leaves. -/
def MeanPost (l : List Nat) (w : World) (e : Ending) (w' : World) : Prop := ∃ s, e = .returned (.float .f64 s) ∧ Stands s (meanO l) ∧ Below w.heap.size w w'

set_option maxHeartbeats 1000000 in
theorem mean_any (A : Option Addr) (c : Nat) (l : List Nat) (w : World) (h : FS w A l) (hl : l.length ≤ 1000) : Calls Tryd.prog 15 #[.slice A l.length c] w (MeanPost l w) := by
  have HS := Lib.hid h
  clear h
  go_enter Tryd.func15, Tryd.ntmps15
  go_wp2
  go_loopw [3, 8] (fun t i wr => ∃ k s : Nat, k ≤ l.length ∧ i = .int .i64 k ∧ t = .float .f64 s ∧ Hid (Stands s (sumO (l.take k))) ∧ Hid (Below w.heap.size w wr)) (fun _ i _ => l.length - (intOf i).toNat)
  case atStart => exact ⟨0, 0, Nat.zero_le _, rfl, rfl, ⟨by omega, .inl rfl⟩, Below.refl _ _⟩
  case round =>
    obtain ⟨k, s, hk, rfl, rfl, hS, hB⟩ := hrel
    by_cases hlt : k < l.length
    · obtain ⟨b, o, rfl, hc⟩ := (HS.out.old hB.out) (by omega)
      have hcell := hc k hlt
      have Hts := Lib.hid (take_snocN l k hlt)
      generalize l.getD k 0 = x at *
      unfold F at hcell
      clear hc
      cases hf : floatBits .add .f64 s x with
      | some c =>
        have H := fun t w => run_float_arith (P := Tryd.prog) w .add t .f64 _ _ c hf
        have HN : Hid (Stands c (sumO (l.take (k + 1)))) := by
          show Stands _ _
          rw [Hts.out, sumO_snoc]
          exact hS.out.step_some (.inl rfl) x c hf
        clear hf
        go_wp2
        go_roundw
        case rel => exact ⟨k + 1, c, by omega, by go_num, rfl, HN, hB⟩
        case measure => simp [intOf]; omega
      | none =>
        have H := fun t w => run_float_nan .add (.inl rfl) t s x w hf
        have HN : Hid (Stands (nanAt s x wr) (sumO (l.take (k + 1)))) := by
          show Stands _ _
          rw [Hts.out, sumO_snoc]
          exact hS.out.step_none x wr hf
        clear hf
        go_wp2
        go_roundw
        case rel => exact ⟨k + 1, _, by omega, by go_num, rfl, HN, hB.out.trans ((below_drew wr).mono hB.out.size)⟩
        case measure => simp [intOf]; omega
    · obtain rfl : k = l.length := by omega
      have hS' : Hid (Stands s (sumO l)) := by have := hS.out; rw [List.take_length] at this; exact this
      clear hS
      cases hf : floatBits .quo .f64 s (floatOfInt .f64 l.length) with
      | some c =>
        have H := fun t w => run_float_arith (P := Tryd.prog) w .quo t .f64 _ _ c hf
        have HN : Hid (Stands c (meanO l)) := hS'.out.step_some (.inr rfl) _ c hf
        clear hf
        go_wp2
        go_ret
        exact ⟨c, rfl, HN.out, hB.out⟩
      | none =>
        have H := fun t w => run_float_nan .quo (.inr (.inr rfl)) t s _ w hf
        have HN : Hid (Stands (nanAt s (floatOfInt .f64 l.length) wr) (meanO l)) := hS'.out.step_none _ wr hf
        clear hf
        go_wp2
        go_ret
        exact ⟨_, rfl, HN.out, hB.out.trans ((below_drew wr).mono hB.out.size)⟩

/-- The first place, among the first k, of which none is greater. -/
def IsBest (l : List Nat) (k j : Nat) : Prop := j < k ∧ (∀ i, i < k → lessW (l.getD j 0) (l.getD i 0) = false) ∧ (∀ i, i < j → lessW (l.getD i 0) (l.getD j 0) = true)
theorem IsBest.one (l : List Nat) : IsBest l 1 0 := by
  refine ⟨by omega, fun i hi => ?_, fun i hi => by omega⟩
  obtain rfl : i = 0 := by omega
  unfold lessW
  simp
theorem IsBest.stay {l : List Nat} {k j : Nat} (h : IsBest l k j) (hn : lessW (l.getD j 0) (l.getD k 0) = false) : IsBest l (k + 1) j := by
  refine ⟨by have := h.1; omega, fun i hi => ?_, h.2.2⟩
  by_cases e : i = k
  · subst e; exact hn
  · exact h.2.1 i (by omega)
theorem IsBest.move {l : List Nat} {k j : Nat} (h : IsBest l k j) (hn : lessW (l.getD j 0) (l.getD k 0) = true) : IsBest l (k + 1) k := by
  unfold IsBest lessW at *
  simp only [decide_eq_false_iff_not, decide_eq_true_eq] at *
  refine ⟨by omega, fun i hi => ?_, fun i hi => ?_⟩
  · by_cases e : i = k
    · subst e; omega
    · have := h.2.1 i (by omega); omega
  · have := h.2.1 i (by omega); omega

/-- What Best holds at a round: none yet, or the best so far. -/
def BestAt (l : List Nat) (k : Nat) (z : Int) : Prop := (k = 0 ∧ z = -1) ∨ ∃ j : Nat, z = j ∧ IsBest l k j

theorem quiet_left {P : Program} {f : FuncId} {args : Array Value} {w : World} {n : Nat} {v : Value}
    (h : Calls P f args (w.drewN n) fun e w' => e = .returned v ∧ w.drewN n = w') : Calls P f args (w.drewN n) fun e w'' => e = .returned v ∧ ∃ m, w'' = w.drewN m :=
  h.mono fun _ _ ⟨he, hm⟩ => ⟨he, n, hm.symm⟩
theorem below_drewN' {B : Nat} {a w : World} (h : Below B a w) (n : Nat) : Below B a (w.drewN n) := ⟨h.os, h.tape, h.output, h.size, h.block⟩

set_option maxHeartbeats 1000000 in
theorem best_any (A : Option Addr) (c : Nat) (l : List Nat) (w : World) (h : FS w A l) (hl : l.length ≤ 1000) (hw : ∀ x ∈ l, x < 18446744073709551616) :
    Calls Tryd.prog 20 #[.slice A l.length c] w fun e w' => ∃ z, e = .returned (.int .i64 z) ∧ BestAt l l.length z ∧ w = w' := by
  have HS := Lib.hid h
  have HW := Lib.hid hw
  clear h hw
  go_enter Tryd.func20, Tryd.ntmps20
  go_wp2
  go_loop [3, 8] (fun t i => ∃ (k : Nat) (z : Int), k ≤ l.length ∧ i = .int .i64 k ∧ t = .int .i64 z ∧ Hid (BestAt l k z)) (fun _ i => l.length - (intOf i).toNat)
  case atStart => exact ⟨0, -1, Nat.zero_le _, rfl, rfl, .inl ⟨rfl, rfl⟩⟩
  case round =>
    obtain ⟨k, z, hk, rfl, rfl, hS⟩ := hrel
    by_cases hlt : k < l.length
    · obtain ⟨b, o, rfl, hc⟩ := HS.out (by omega)
      have hcell := hc k hlt
      have hxw := Lib.hid (HW.out (l.getD k 0) (by simp [hlt]))
      rcases hS.out with ⟨rfl, rfl⟩ | ⟨j, rfl, hb⟩
      · generalize l.getD 0 0 = x at *
        unfold F at hcell
        rw [Nat.add_zero] at hcell
        clear hc
        go_wp2
        go_round
        case rel => exact ⟨1, 0, by omega, by go_num, by go_num, .inr ⟨0, rfl, IsBest.one l⟩⟩
        case measure => simp [intOf]; omega
      · have hj := hb.1
        have hcell2 := hc j (by omega)
        have hyw := Lib.hid (HW.out (l.getD j 0) (by simp [show j < l.length by omega]))
        have Hb := Lib.hid hb
        clear hc hb hS
        cases hq : lessW (l.getD j 0) (l.getD k 0)
        · have HN := Lib.hid (Hb.out.stay hq)
          generalize l.getD j 0 = y at *
          generalize l.getD k 0 = x at *
          unfold F at hcell hcell2
          go_wp2_with fail
          refine (less_any _ _ _ hyw.out hxw.out).mono ?_
          rintro e w1 ⟨rfl, rfl⟩
          go_wp2
          go_round
          case rel => exact ⟨k + 1, j, by omega, by go_num, rfl, .inr ⟨j, rfl, HN.out⟩⟩
          case measure => simp [intOf]; omega
        · have HN := Lib.hid (Hb.out.move hq)
          generalize l.getD j 0 = y at *
          generalize l.getD k 0 = x at *
          unfold F at hcell hcell2
          go_wp2_with fail
          refine (less_any _ _ _ hyw.out hxw.out).mono ?_
          rintro e w1 ⟨rfl, rfl⟩
          go_wp2
          go_round
          case rel => exact ⟨k + 1, k, by omega, by go_num, rfl, .inr ⟨k, rfl, HN.out⟩⟩
          case measure => simp [intOf]; omega
    · obtain rfl : k = l.length := by omega
      go_wp2
      go_ret
      exact ⟨z, rfl, hS.out, rfl⟩
end Go.Proofs.YtkjnimmehjccbaaDoor
