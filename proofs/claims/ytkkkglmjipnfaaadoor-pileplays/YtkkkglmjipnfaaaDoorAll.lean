/-
  What the set's All leaves.
-/
import Derived.Test.YtkkkglmjipnfaaaDoorLen
import Derived.Lib.QuoteBits
import Derived.Maps.AppendAt
namespace Go.Proofs.YtkkkglmjipnfaaaDoor
open Go.RowKit
set_option linter.unusedVariables false

/-- A block's numbers, rising. -/
def bnums (a : Int) (x : Nat) : List Int := ((List.range 64).filter x.testBit).map fun (i : Nat) => a * 64 + (i : Int)
def allF (L : Bks) : List Int := L.flatMap fun p => bnums p.1 p.2
theorem allF_append (L M : Bks) : allF (L ++ M) = allF L ++ allF M := by unfold allF; simp
theorem bnums_zero (a : Int) : bnums a 0 = [] := by
  unfold bnums
  rw [List.filter_eq_nil_iff.2 (fun i _ => by simp)]; rfl
theorem bnums_len (a : Int) (x : Nat) : (bnums a x).length ≤ 64 := by
  unfold bnums
  rw [List.length_map]
  exact Nat.le_trans (List.length_filter_le _ _) (by simp)
theorem allF_len (L : Bks) : (allF L).length ≤ 64 * L.length := by
  induction L with
  | nil => simp [allF]
  | cons p L ih => have := bnums_len p.1 p.2; unfold allF at *; simp at *; omega
theorem bnums_step (a : Int) (x : Nat) (h0 : 0 < x) (hx : x < 18446744073709551616) : bnums a x = (a * 64 + (Lib.ctz 64 x : Nat)) :: bnums a (x &&& (x - 1)) := by
  have hc := clear_low x h0 hx
  generalize Lib.ctz 64 x = t at hc
  obtain ⟨_, h1, h2, h3⟩ := hc 0
  have h4 : ∀ i, (x &&& (x - 1)).testBit i = (x.testBit i && decide (i ≠ t)) := fun i => (hc i).1
  have e : List.range 64 = List.range t ++ t :: List.range' (t + 1) (63 - t) := by
    rw [List.range_eq_range', List.range_eq_range', ← List.range'_succ, show 63 - t + 1 = 64 - t from by omega]
    have := List.range'_append_1 (s := 0) (m := t) (n := 64 - t)
    rw [Nat.zero_add] at this
    rw [this, show t + (64 - t) = 64 from by omega]
  unfold bnums
  rw [e, List.filter_append, List.filter_append, List.filter_cons, List.filter_cons, if_pos h1]
  have z1 : (List.range t).filter x.testBit = [] := List.filter_eq_nil_iff.2 (fun i hi => by rw [h2 i (List.mem_range.1 hi)]; simp)
  have z2 : (List.range t).filter (x &&& (x - 1)).testBit = [] := List.filter_eq_nil_iff.2 (fun i hi => by rw [h4, h2 i (List.mem_range.1 hi)]; simp)
  rw [z1, z2, if_neg (by rw [h4]; simp)]
  rw [List.nil_append, List.nil_append, List.map_cons]
  congr 2
  apply List.filter_congr
  intro i hi
  have := (List.mem_range'_1.1 hi).1
  rw [h4, decide_eq_true (by omega : i ≠ t)]; simp
theorem and_lt (x : Nat) (h0 : 0 < x) : x &&& (x - 1) < x := Nat.lt_of_le_of_lt Nat.and_le_right (by omega)
theorem or_bits (a : Int) (t : Nat) (h0 : 0 ≤ a) (h1 : a < 144115188075855872) (ht : t < 64) : bits .or .i64 (a * 64) (t : Int) = a * 64 + (t : Int) := by
  obtain ⟨n, rfl⟩ : ∃ n : Nat, a = n := ⟨a.toNat, by omega⟩
  rw [show (n : Int) * 64 = ((n * 64 : Nat) : Int) from by omega]
  show IntKind.i64.wrap ((BitVec.ofInt 64 ((n * 64 : Nat) : Int) ||| BitVec.ofInt 64 (t : Int)).toNat : Int) = _
  rw [BitVec.toNat_or, ofInt_u64 _ (by omega), ofInt_u64 t (by omega), nat_join 6 (n * 64) t (by omega) (by omega), Lib.wrap_i64_small _ (by omega)]
  omega
theorem info3 : (Tryd.prog.info? 3).map (fun i => (i.zero, i.size, i.bytes)) = some (some (.int .i64 0), 1, 8) := by kernel_rfl

/-- append at a step of a region that draws, by its own equation. -/
theorem step_append_run {P : Program} (w : World) {ops : Array Oper} {o : Oper} {a : Act} {K : Act → World → Prop} {Q : Exit → Act → World → Prop} {E : Prop} (hgd : o.guard = none) (s x : Operand) (t : TypeId)
    (ho : o.op = .call { callee := .builtin .append, args := #[s, x], argTypes := #[t, t] }) (v xv : Value) (hs : a.eval s = v) (hx : a.eval x = xv) (v' : Value) (w' : World)
    (hr : (Builtin.append_ #[t, t] o.type #[v, xv]).run P w = .ok v' w') (h : K (a.put o.dst v') w') :
    if Region.wanted o (yielded ops a.tmps) = true then Oper.wp P o a w K Q else E := by
  have hw : Region.wanted o (yielded ops a.tmps) = true := by simp [Region.wanted, hgd]
  rw [if_pos hw]
  unfold Oper.wp execOp
  simp only [ho, resolve, invoke, builtin, Sem.run_bind, Sem.run_pure, Result.andThen_ok, List.map_toArray, List.map_cons, List.map_nil, hs, hx, hr]
  exact h

/-- What All leaves: a row of the call's own. -/
def AllPost (L : Bks) (w : World) (e : Ending) (w' : World) : Prop :=
  ∃ v', e = .returned v' ∧ w'.ownsRow w.heap.size 3 1 v' (allF L).length ((allF L).map (Value.int .i64)) ∧ Below w.heap.size w w'

set_option maxRecDepth 20000 in
set_option maxHeartbeats 2000000 in
theorem all_any (p : Value) (A : Option Addr) (c : Nat) (L : Bks) (w : World) (h : Rd w p A c L) (hl : L.length ≤ 1000) (hT : Tab w) :
    Calls Tryd.prog 20 #[p] w (AllPost L w) := by
  have HR := Lib.hid h
  have HT := Lib.hid hT
  have hlL := lenF_le L
  obtain ⟨i0, hi0, hz0, hz1, hz2⟩ := info_parts info3
  clear h hT
  go_enter Tryd.func20, Tryd.ntmps20
  go_wp2_with fail
  refine (len_any _ _ _ _ _ HR.out hl).mono ?_
  rintro e w1 ⟨rfl, hb1⟩
  have HB1 := Lib.hid hb1
  have HR1 := Lib.hid (HR.out.old hb1)
  have HT1 := Lib.hid (HT.out.old hb1)
  clear hb1
  generalize lenF L = ln at *
  obtain ⟨w2, hmk, hO2, hg2⟩ := run_make_own w1 w.heap.size 40 3 i0 (.int .i64 0) 1 Tryd.underlying40 hi0 hz0 hz1 .i64 .i64 ln (by rw [hz2]; omega) (by unfold maxLen; omega) HB1.out.size
  have HB2 := Lib.hid (HB1.out.grown hg2 HB1.out.size (fun k hk => by cases hk))
  have HR2 := Lib.hid (HR.out.old HB2.out)
  have HO2 := Lib.hid hO2
  clear hO2 hg2 HR1 HT1
  go_wp2_with fail
  refine (list_any _ _ _ _ _ HR2.out).mono ?_
  rintro e w3 ⟨rfl, rfl⟩
  clear HR2 HB1 hmk
  generalize Value.slice (some ⟨w1.heap.size, 0, none⟩) 0 ln = v0 at *
  clear hlL
  go_wp2_with fail
  go_loopw [3, 13] (fun v i wr => ∃ k : Nat, k ≤ L.length ∧ i = .int .i64 k ∧ Hid (wr.ownsRow w.heap.size 3 1 v (allF (L.take k)).length ((allF (L.take k)).map (Value.int .i64))) ∧ Hid (Below w.heap.size w wr)) (fun _ i _ => L.length - (intOf i).toNat)
  case atStart => exact ⟨0, Nat.zero_le _, rfl, HO2, HB2⟩
  case round =>
    obtain ⟨k, hk, rfl, hO, hB⟩ := hrel
    by_cases hlt : k < L.length
    · obtain ⟨b, o, rfl, hc⟩ := (HR.out.row.old hB.out) (by omega)
      obtain ⟨c1, c2⟩ := hc k hlt
      have Hts := Lib.hid (take_snocB L k hlt)
      have hgd := HR.out.good.2 _ (getD_mem hlt)
      have hal := allF_len (L.take k)
      have hlt0 : (L.take k).length ≤ 1000 := by rw [List.length_take]; omega
      generalize L.getD k (0, 0) = q at *
      obtain ⟨a, x⟩ := q
      unfold two64 top at hgd
      simp only at c1 c2 hgd
      have HL : Hid (allF (L.take (k + 1)) = allF (L.take k) ++ bnums a x) := by show _ = _; rw [Hts.out, allF_append]; simp [allF]
      generalize allF (L.take k) = ys at *
      have hbx := bnums_len a x
      have Hgd := Lib.hid hgd
      clear hc hgd Hts
      obtain ⟨w9, hw9⟩ : ∃ w9, w9 = wr := ⟨wr, rfl⟩
      subst hw9
      have HS9 : Hid (u3.ownBlock ≠ some w9.heap.size) := fun e => by have := hO.out.lt _ e; omega
      go_wp2_with fail
      go_loopw [3, 6] (fun u left wi => ∃ (y : Nat) (zs : List Int), left = .int .u64 y ∧ Hid (y < 18446744073709551616) ∧ Hid (zs ++ bnums a y = ys ++ bnums a x) ∧ Hid (wi.ownsRow w.heap.size 3 1 u zs.length (zs.map (Value.int .i64))) ∧ Hid (Below w.heap.size w wi) ∧ Hid (wi.heap[w9.heap.size]? = some (.cells #[.int .i64 a, .int .u64 x] 57 (0, 0))) ∧ Hid (u.ownBlock ≠ some w9.heap.size)) (fun _ left _ => (intOf left).toNat)
      case atStart => exact ⟨x, ys, rfl, Hgd.out.2.2.2, rfl, hO.out.alloc _, hB.out.alloc hB.out.size _, heap_alloc_new w9 _, HS9⟩
      case round =>
        obtain ⟨y, zs, rfl, hy, hZ, hO3, hB3, hC, hN⟩ := hrel
        by_cases hy0 : y = 0
        · subst hy0
          go_wp2
          go_roundw
          case rel =>
            rw [bnums_zero, List.append_nil] at hZ
            have hZZ := hZ.out.trans HL.out.symm
            subst hZZ
            exact ⟨k + 1, by omega, by go_num, hO3, hB3⟩
          case measure => simp [intOf]; omega
        · have hzl : zs.length ≤ 70000 := by have := congrArg List.length hZ.out; simp at this; omega
          have hcell : wr.cell? ⟨w9.heap.size, 0, none⟩ = some (.int .i64 a) := by rw [cell_of_row _ _ 0 _ _ _ hC.out]; rfl
          have HT3 := Lib.hid (HT.out.old hB3.out)
          have hct := (clear_low y (by omega) hy.out 0).2.2.2
          have HTZ : Hid (Calls Tryd.prog 34 #[.int .u64 y] wr.drew fun e w' => e = .returned (.int .i64 (Lib.ctz 64 y : Nat)) ∧ wr.drew = w') := tz_any y wr.drew HT3.out (by omega) hy.out
          have hsh : IntKind.i64.wrap (a * 64) = a * 64 := by rw [IntKind.wrap_i64]; have := Hgd.out; omega
          have HE := Lib.hid (bnums_step a y (by omega) hy.out)
          have HY' := Lib.hid (and_lt y (by omega))
          generalize Lib.ctz 64 y = t at *
          have hor := or_bits a t Hgd.out.1 Hgd.out.2.1 hct
          obtain ⟨v5, w5, hr5, hO5, hg5, _, hat5⟩ := run_append_own_at (P := Tryd.prog) ((wr.alloc (.cells #[.int .i64 (a * 64 + t)] 3)).drew) w.heap.size 40 40 3 i0 (.int .i64 0) 1 8 Tryd.underlying40 hi0 hz0 hz1 hz2 rfl (by decide) u3 zs.length (zs.map (Value.int .i64)) (hO3.out.alloc _) ⟨wr.heap.size, 0, none⟩ 1 1 [.int .i64 (a * 64 + t)] rfl (cell_one_new wr _ 3) (by intro u hu; simp at hu; subst hu; rfl) (by unfold maxLen; omega) (by omega) (by have := hB3.out.size; simp; omega)
          have HO5 := Lib.hid hO5
          have HG5 := Lib.hid hg5
          have HA5 := Lib.hid hat5
          clear hO5 hg5 hat5
          have ha0 := Hgd.out.1
          have ha1 := Hgd.out.2.1
          have hand : bits .and .u64 (y : Int) ((y : Int) - 1) = ((y &&& (y - 1) : Nat) : Int) := by
            rw [show ((y : Int) - 1) = ((y - 1 : Nat) : Int) from by omega]
            exact u64_and_nat y (y - 1) hy.out (by have := hy.out; omega)
          have HFin : Hid (∃ (y1 : Nat) (zs1 : List Int), Value.int .u64 ((y &&& (y - 1) : Nat) : Int) = .int .u64 y1 ∧ Hid (y1 < 18446744073709551616) ∧ Hid (zs1 ++ bnums a y1 = ys ++ bnums a x) ∧ Hid (w5.ownsRow w.heap.size 3 1 v5 zs1.length (zs1.map (Value.int .i64))) ∧ Hid (Below w.heap.size w w5) ∧ Hid (w5.heap[w9.heap.size]? = some (.cells #[.int .i64 a, .int .u64 x] 57 (0, 0))) ∧ Hid (v5.ownBlock ≠ some w9.heap.size)) := by
            refine ⟨y &&& (y - 1), zs ++ [a * 64 + t], rfl, Nat.lt_trans HY'.out hy.out, ?_, ?_, ?_, ?_, ?_⟩
            · show _ = _
              rw [List.append_assoc, List.singleton_append, ← HE.out]; exact hZ.out
            · show w5.ownsRow _ _ _ _ _ _
              rw [List.length_append, List.map_append]; exact HO5.out
            · exact ((hB3.out.alloc hB3.out.size _).drew).grown HG5.out (by have := hB3.out.size; simp; omega) (fun j hj => (hO3.out.lt j hj).1)
            · have h9 := heap_lt hC.out
              exact grown_blk HG5.out (show (wr.alloc (.cells #[.int .i64 (a * 64 + t)] 3)).heap[w9.heap.size]? = _ by rw [heap_alloc_old wr _ h9]; exact hC.out) hN.out
            · have h9 := heap_lt hC.out
              intro e
              rcases HA5.out with h | h
              · exact hN.out (h.symm.trans e)
              · rw [h] at e
                injection e with e
                simp at e
                omega
          have hyl := HY'.out
          generalize y &&& (y - 1) = y2 at *
          have hy1 := hy.out
          clear HE HT3 hZ hO3 hC hN HO5 HG5 HA5
          go_upto_region 8 with (fail)
          go_region_law (first | (refine step_append_run _ (by rfl) _ _ _ (by rfl) _ _ (by rfl) (by rfl) _ _ hr5 ?_) | (go_simp; go_at_call 34; refine HTZ.out.mono ?_; rintro e w' ⟨rfl, rfl⟩))
          all_goals
            go_wp2
            exact ⟨HFin.out, by simp only [intOf]; omega⟩
    · obtain rfl : k = L.length := by omega
      go_wp2
      go_ret
      rw [List.take_length] at hO
      exact ⟨_, rfl, hO.out, hB.out⟩
end Go.Proofs.YtkkkglmjipnfaaaDoor
