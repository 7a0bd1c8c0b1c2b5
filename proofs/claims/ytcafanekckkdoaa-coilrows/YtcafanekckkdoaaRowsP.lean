/-
  CoilRows: for every slice of int64 and every uint64 the law returns true and leaves its arguments as they were: a row of numbers that was written is read again, each held against its limit. Conditions: none.
-/
import Derived.Test.YtcafanekckkdoaaRows
import Derived.WalkKit
import Derived.Test.YtcafanekckkdoaaRows2
import Derived.BigQuiet
import Derived.ProofKit
import Derived.OpenShut
import Derived.ShutString
import Derived.ChangeOld
import Derived.Below
namespace Go.Proofs.Ytcafanekckkdoaa.coilRows
open Go.ChangeShapes Go.WideShapes Go.ChangeAt Go.RowKit
open Go.ChangeMaps (open_string shut_string)
set_option linter.unusedVariables false

theorem own : ownKnob Try.prog.godebug = none := by kernel_rfl
theorem laidOut : laidOutB Try.prog = true := by kernel_rfl

/-- WHAT THE WALK IS TOLD OF A SLICE OF INTEGERS THAT CAME IN: it is nil; or it leads to a row of 'cap' cells, the numbers 'zs' (the first 'len' are its elements, the rest its spare room), each fitting its kind. -/
def IsRow (k : IntKind) (w : World) (a : Option Addr) (len cap : Nat) (zs : List Int) : Prop :=
  (a = none ∧ len = 0 ∧ cap = 0 ∧ zs = []) ∨
  ∃ x, a = some x ∧ len ≤ cap ∧ cap ≤ maxLen ∧ zs.length = cap ∧ (∀ i, i < zs.length → w.cell? (x.add i) = some (.int k (zs.getD i 0))) ∧ ∀ n ∈ zs, (Lit.int k n).wf = true

theorem ints_of_row {k : IntKind} {w : World} {a : Option Addr} {len cap : Nat} {zs : List Int} (h : IsRow k w a len cap zs) :
    ∃ xs : List Int, xs.length = len ∧ Ints w k a xs ∧ ∀ x ∈ xs, (Lit.int k x).wf = true := by
  rcases h with ⟨rfl, rfl, rfl, rfl⟩ | ⟨x, rfl, h1, h2, h3, h4, h5⟩
  · exact ⟨[], rfl, fun h => by simp at h, by simp⟩
  · refine ⟨zs.take len, by simp; omega, fun hp => ?_, fun y hy => h5 y (List.mem_of_mem_take hy)⟩
    have hp' : 0 < len := by simp at hp; omega
    obtain ⟨b, off, rfl, hc⟩ := ints_at h4 (by omega)
    refine ⟨b, off, rfl, fun i hi => ?_⟩
    have hi' : i < len := by simp at hi; omega
    rw [hc i (by omega)]
    simp [List.getD, List.getElem?_take_of_lt hi']

theorem below_drewN {B : Nat} {a w : World} (h : Below B a w) (n : Nat) : Below B a (w.drewN n) := ⟨h.os, h.tape, h.output, h.size, h.block⟩

/-- What Zig makes of numbers. -/
def zigs (xs : List Int) : List Nat := xs.map fun x => (zigF x).toNat
theorem zigs_lt (xs : List Int) (h : ∀ x ∈ xs, (Lit.int .i64 x).wf = true) : ∀ a ∈ zigs xs, a < 18446744073709551616 := by
  intro a ha
  simp [zigs] at ha
  obtain ⟨x, hx, rfl⟩ := ha
  have := i64_of_wf (h x hx)
  have := zig_range x this.1 this.2
  omega
theorem take_snoc (xs : List Int) (k : Nat) (h : k < xs.length) : xs.take (k + 1) = xs.take k ++ [xs.getD k 0] := by
  rw [List.take_succ_eq_append_getElem h]; simp [h]
theorem drop_cons (xs : List Int) (k : Nat) (h : k < xs.length) : xs.drop k = xs.getD k 0 :: xs.drop (k + 1) := by
  rw [List.drop_eq_getElem_cons h]; simp [h]

set_option maxRecDepth 20000 in
set_option maxHeartbeats 2000000 in
theorem walk_near (A : Option Addr) (xs : List Int) (c : Nat) (most : Nat) (w : World) (hm : most < 18446744073709551616) (hx : Ints w .i64 A xs) (hw : ∀ x ∈ xs, (Lit.int .i64 x).wf = true) (hl : xs.length ≤ 30) :
    Calls Try.prog 9 #[.slice A xs.length c, .int .u64 most] w fun e w' => e = .returned (.bool true) ∧ Below w.heap.size w w' := by
  have X := Lib.hid hx
  have HW := Lib.hid hw
  have HM := Lib.hid hm
  have Hlt := Lib.hid (zigs_lt xs hw)
  clear hx hw hm
  go_enter Try.func9, Try.ntmps9
  go_wp2_with fail
  refine (awake_any _).mono ?_
  rintro e w1 ⟨rfl, hb⟩
  have HB1 := Lib.hid hb
  clear hb
  go_wp2_with fail
  go_loopw [5, 6] (fun v i wr => ∃ k : Nat, k ≤ xs.length ∧ i = .int .i64 k ∧ Hid (wr.ownsRow w.heap.size 5 1 v (puts (zigs (xs.take k))).length ((puts (zigs (xs.take k))).map B)) ∧ Hid (Below w.heap.size w wr)) (fun _ i _ => xs.length - (intOf i).toNat)
  case atStart => exact ⟨0, Nat.zero_le _, rfl, World.ownsRow_nil _ _ _ _, HB1⟩
  case round =>
    obtain ⟨k, hk, rfl, hO, hB⟩ := hrel
    by_cases hlt : k < xs.length
    · obtain ⟨b, off, rfl, hc⟩ := (X.out.old hB.out) (by omega)
      have hcell := hc k hlt
      clear hc
      have hwf := i64_of_wf (HW.out (xs.getD k 0) (by simp [hlt]))
      have Hts := Lib.hid (take_snoc xs k hlt)
      generalize xs.getD k 0 = x at *
      have Hwf := Lib.hid hwf
      have Hzr := Lib.hid (zig_range x hwf.1 hwf.2)
      have hbl := puts_len (zigs (xs.take k)) (fun a ha => Hlt.out a (by unfold zigs at ha ⊢; rw [List.mem_map] at ha ⊢; obtain ⟨y, hy, e⟩ := ha; exact ⟨y, List.mem_of_mem_take hy, e⟩))
      have hlen : (zigs (xs.take k)).length ≤ 30 := by simp [zigs]; omega
      clear hwf
      go_wp2_with fail
      refine (zig_any _ _ Hwf.out.1 Hwf.out.2).mono ?_
      rintro e w2 ⟨rfl, rfl⟩
      go_wp2_with fail
      refine (put_own_int _ _ _ Hzr.out.1 (by have := Hzr.out.2; omega) _ _ _ hO.out (by omega) hB.out.size).mono ?_
      rintro e w2 ⟨v2, rfl, hown, hg, hat⟩
      have HO2 : Hid (w2.ownsRow w.heap.size 5 1 v2 (puts (zigs (xs.take (k + 1)))).length ((puts (zigs (xs.take (k + 1)))).map B)) := by
        have e : zigs (xs.take (k + 1)) = zigs (xs.take k) ++ [(zigF x).toNat] := by rw [Hts.out]; simp [zigs]
        show w2.ownsRow _ _ _ _ _ _
        rw [e, puts_snoc, List.length_append, List.map_append]
        rw [List.length_map] at hown
        exact hown
      have HB2 := Lib.hid (hB.out.grown hg hB.out.size (fun j hj => (hO.out.lt j hj).1))
      clear hown hg hat
      go_wp2
      go_roundw
      case rel => exact ⟨k + 1, by omega, by go_num, HO2, HB2⟩
      case measure => simp [intOf]; omega
    · obtain rfl : k = xs.length := by omega
      have hO' : Hid (wr.ownsRow w.heap.size 5 1 u5 (puts (zigs xs)).length ((puts (zigs xs)).map B)) := by
        have := hO.out
        rw [List.take_length] at this
        exact this
      have hbl := puts_len (zigs xs) Hlt.out
      have hlen : (zigs xs).length ≤ 30 := by simp [zigs]; omega
      clear hO
      go_wp2_with fail
      refine (new_own _ _ _ _ _ hO'.out (by omega) (puts_bytes _)).mono ?_
      rintro e w2 ⟨g, rfl, hR, hb2, hg⟩
      have R2 := Lib.hid hR
      have HB2 := Lib.hid (hB.out.trans (hb2.mono hB.out.size))
      have hgw : w.heap.size ≤ g := Nat.le_trans hB.out.size hg
      clear hR hb2 hg hO' hB
      go_wp2_with fail
      go_loopw [8] (fun i w3 => ∃ k : Nat, k ≤ xs.length ∧ i = .int .i64 k ∧ Hid (Rdr w3 g (puts (zigs (xs.drop k))) 0) ∧ Hid (Below w.heap.size w w3)) (fun i _ => xs.length - (intOf i).toNat)
      case atStart => exact ⟨0, Nat.zero_le _, rfl, R2, HB2⟩
      case round =>
        obtain ⟨k, hk, rfl, hR, hB⟩ := hrel
        by_cases hlt : k < xs.length
        · obtain ⟨b, off, rfl, hc⟩ := X.out (by omega)
          have Hc := Lib.hid (hc k hlt)
          have hbw : b < w.heap.size := World.block_lt_of_cell? w ⟨b, off + k, none⟩ (hc k hlt)
          have hwf := i64_of_wf (HW.out (xs.getD k 0) (by simp [hlt]))
          have Hdc := Lib.hid (drop_cons xs k hlt)
          clear hc
          generalize xs.getD k 0 = x at *
          have Hwf := Lib.hid hwf
          have Hzr := Lib.hid (zig_range x hwf.1 hwf.2)
          have Hzz := Lib.hid (zag_zig x)
          have hR1 := hR.out
          rw [Hdc.out] at hR1
          change Rdr _ g (put (zigF x).toNat ++ puts (zigs (xs.drop (k + 1)))) 0 at hR1
          have hR' := Lib.hid hR1
          clear hwf hR hR1
          by_cases hbig : most < (zigF x).toNat
          · have Hnum := Lib.hid (num_long (zigF x).toNat (by have := Hzr.out; omega) (puts (zigs (xs.drop (k + 1)))) most hbig)
            have hgt : decide ((most : Int) < zigF x) = true := by simp; omega
            clear hbig
            go_wp2_with fail
            refine (num_any _ _ _ _ hR'.out).mono ?_
            rw [Hnum.out]
            rintro e w4 ⟨rfl, hR4, hg4⟩
            have R4 := Lib.hid hR4
            have HB4 := Lib.hid (hB.out.grown hg4 hB.out.size (fun j hj => by injection hj with hj; omega))
            have hcell := (HB4.out.cell (p := ⟨b, off + k, none⟩) hbw).trans Hc.out
            clear hR4 hg4
            go_wp2_with fail
            refine (rzig_any _ _ Hwf.out.1 Hwf.out.2).mono ?_
            rintro e w5 ⟨rfl, rfl⟩
            go_wp2_with fail
            refine (fault_any _ _ _ _ R4.out).mono ?_
            rintro e w5 ⟨rfl, rfl⟩
            go_wp2
            go_ret
            exact ⟨rfl, HB4⟩
          · have Hnum := Lib.hid (num_put (zigF x).toNat (by have := Hzr.out; omega) (puts (zigs (xs.drop (k + 1)))) most (by omega))
            have hgt : decide ((most : Int) < zigF x) = false := by simp; omega
            clear hbig
            go_wp2_with fail
            refine (num_any _ _ _ _ hR'.out).mono ?_
            rw [Hnum.out]
            rintro e w4 ⟨rfl, hR4, hg4⟩
            have R4 := Lib.hid hR4
            have HB4 := Lib.hid (hB.out.grown hg4 hB.out.size (fun j hj => by injection hj with hj; omega))
            have hcell := (HB4.out.cell (p := ⟨b, off + k, none⟩) hbw).trans Hc.out
            clear hR4 hg4
            simp only [Int.toNat_of_nonneg Hzr.out.1]
            go_wp2_with fail
            refine (rzig_any _ _ Hwf.out.1 Hwf.out.2).mono ?_
            rintro e w5 ⟨rfl, rfl⟩
            have hzne : (zagF (zigF x) != x) = false := by rw [Hzz.out]; simp
            go_wp2_with fail
            go_quiet ((go_at_call 20; exact quiet_left (zag_any _ _ Hzr.out.1 Hzr.out.2)))
            go_wp2
            go_roundw
            case rel => exact ⟨k + 1, by omega, by go_num, Lib.hid (R4.out.old (below_drewN (Below.refl _ _) _)), Lib.hid (below_drewN HB4.out _)⟩
            case measure => simp [intOf]; omega
        · have hR1 := hR.out
          rw [List.drop_of_length_le (by omega)] at hR1
          change Rdr _ g [] 0 at hR1
          have hR' := Lib.hid hR1
          clear hR hR1
          go_wp2_with fail
          refine (end_any _ _ _ _ hR'.out).mono ?_
          rintro e w5 ⟨rfl, rfl⟩
          go_wp2_with fail
          refine (left_any _ _ _ _ hR'.out).mono ?_
          rintro e w5 ⟨rfl, rfl⟩
          go_wp2
          go_ret
          exact ⟨rfl, hB⟩

set_option maxHeartbeats 400000 in
theorem walk_far (A : Option Addr) (len c : Nat) (most : Int) (w : World) (h : 30 < len) :
    Calls Try.prog 9 #[.slice A len c, .int .u64 most] w fun e w' => e = .returned (.bool true) ∧ Below w.heap.size w w' := by
  go_enter Try.func9, Try.ntmps9
  go_wp2_with fail
  refine (awake_any _).mono ?_
  rintro e w1 ⟨rfl, hb⟩
  have HB := Lib.hid hb
  clear hb
  go_wp2_with fail
  refine (awake_any _).mono ?_
  rintro e w2 ⟨rfl, hb⟩
  have HB2 := Lib.hid (HB.out.trans (hb.mono HB.out.size))
  clear hb
  go_wp2
  go_ret
  exact ⟨rfl, HB2.out⟩

theorem walk (a0 : Option Addr) (len0 cap0 : Nat) (z0 : List Int) (a1 : Int) (w : World) (w0 : IsRow .i64 w a0 len0 cap0 z0) (w1 : (Lit.int .u64 a1).wf = true) :
    Calls Try.prog 9 #[.slice a0 len0 cap0, .int .u64 a1] w fun e w' => e = .returned (.bool true) ∧ Below w.heap.size w w' := by
  obtain ⟨xs, rfl, hx, hw⟩ := ints_of_row w0
  have hb := u64_of_wf w1
  obtain ⟨n, rfl⟩ := Int.eq_ofNat_of_zero_le hb.1
  by_cases h : 30 < xs.length
  · exact walk_far _ _ _ _ _ h
  · exact walk_near _ xs _ n w (by omega) hx hw (by omega)

set_option maxRecDepth 100000 in
theorem lifted (os : Os) (started : os.Started) (H : Type) (enc : TypeId × Value → H) :
    ReturnsInHanded {} Try.checked os 9 .any (Rows.coilRowsSpec.pre6 enc Try.prog Try.f9 Rows.coilRowsRow.domain false) (Rows.coilRowsSpec.post enc Try.prog Try.f9 false true false false) := by
  refine returnsInHanded_of_change (C := Try.checked) own started (by kernel_rfl) Try.func9
    (ChangeSpec.witness6 (enc := enc) (C := Try.checked) false ⟨#[], #[.slice none 0 0, .int .u64 0], []⟩ 8 (by kernel_rfl) (by kernel_rfl) (by kernel_rfl) (by kernel_rfl)) ?_
  intro W base args ds gs before hval0 hW hcnd _
  have hval : ∀ (j : Nat) t v, Try.f9.params[j]? = some t → args[j]? = some v → Value.okWide Try.prog W .any base t v := hval0
  have hW' := hW
  obtain ⟨p, q, hA0, hV, rfl, hfz, hnd⟩ := hW
  have hA : DataW.TrodAll enc Try.prog W 0 (fun _ => true) true Try.f9.params.toList args.toList ds p := hA0
  rw [Try.params9] at hA hval
  obtain ⟨v0, vs0, d0, ds0, p0, q0, hargs, rfl, rfl, h0, r0⟩ := trodAll_cons hA
  obtain ⟨v1, vs1, d1, ds1, p1, q1, rfl, rfl, rfl, h1, r1⟩ := trodAll_cons r0
  obtain ⟨rfl, rfl, rfl⟩ := trodAll_nil r1
  obtain rfl : args = #[v0, v1] := by cases args; simp_all
  obtain ⟨rfl, rfl⟩ := trodVars_none hV
  obtain ⟨a0, len0, cap0, rfl⟩ := okWide_slice Try.underlying50 (hval 0 50 v0 rfl rfl)
  have k0 := h0
  have lt0 : ∀ x ∈ p0, x.block < W.heap.size := by obtain ⟨m, hm⟩ := k0; exact DataW.trod_lt m _ _ _ hm
  obtain ⟨z0, w0⟩ : ∃ zs, IsRow .i64 W a0 len0 cap0 zs := by
    obtain ⟨fuel, hf⟩ := h0
    rcases open_ints Try.underlying50 Try.underlying2 (by kernel_rfl) hf with ⟨hcs, _⟩ | ⟨x, l, c, zs, hcs, _, hl, hm, hz, _, hcell, hwz⟩
    · simp [Value.cells] at hcs
      obtain ⟨rfl, rfl, rfl⟩ := hcs
      exact ⟨[], .inl ⟨rfl, rfl, rfl, rfl⟩⟩
    · simp [Value.cells] at hcs
      obtain ⟨rfl, rfl, rfl⟩ := hcs
      exact ⟨zs, .inr ⟨_, rfl, hl, hm, by simpa using hz, hcell, hwz⟩⟩
  obtain ⟨a1, rfl, rfl, rfl, w1⟩ := open_int Try.underlying23 (hval 1 23 v1 rfl rfl) h1
  clear hA0 hval0
  refine (walk a0 len0 cap0 z0 a1 W w0 w1).mono fun e W' ⟨he, bel⟩ => ?_
  subst he
  exact ⟨_, rfl, _, _, _, [], _, [], hW', trodAll_mk1 (shut_bool Try.underlying4 _), (trodAll_cons_mk (Below.trod laidOut (by kernel_rfl) (of_decide_eq_true (by kernel_rfl)) k0 bel lt0) (trodAll_cons_mk (shut_int Try.underlying23 w1) trodAll_mk0)), rfl, bel.frame _, fun h => by cases h⟩

theorem over : Rows.coilRowsRow.holds Try.pinned (OpenSpec.ofChange Rows.coilRowsSpec) :=
  OpenClaim.holds_of_wide 9 Try.f9 rfl rfl rfl rfl rfl rfl rfl ⟨rfl, rfl, rfl, rfl, rfl⟩ rfl rfl rfl rfl rfl (by kernel_rfl) Try.func9 (by kernel_rfl)
    (of_decide_eq_true (by kernel_rfl)) (by unfold Func.isWrapper; first | (rw [if_pos (by decide +kernel)]; kernel_rfl) | (rw [if_neg (by decide +kernel)]; exact ⟨rfl, rfl⟩))
    (fun os started H enc _ => lifted os started H enc)

theorem proved : Rows.CoilRowsSaid := over
end Go.Proofs.Ytcafanekckkdoaa.coilRows
namespace Go.Proofs.Ytcafanekckkdoaa
theorem coilRows_holds : Rows.CoilRowsSaid := coilRows.proved
#print axioms coilRows_holds
end Go.Proofs.Ytcafanekckkdoaa
