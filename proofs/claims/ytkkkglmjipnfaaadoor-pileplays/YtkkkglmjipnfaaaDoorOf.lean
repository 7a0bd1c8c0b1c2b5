/-
  What slices.Clone and slices.Sort leave of ints, and what the set's Of leaves.
-/
import Derived.Test.YtkkkglmjipnfaaaDoorAdd
import Derived.Test.YtkkkglmjipnfaaaDoorShelf
import Derived.Sort.OwnSortedInts
namespace Go.Proofs.YtkkkglmjipnfaaaDoor
open Go.RowKit
set_option linter.unusedVariables false

/-- A slice of ints that reads so. -/
def IR (w : World) (A : Option Addr) (l : List Int) : Prop := 0 < l.length → ∃ b o, A = some ⟨b, o, none⟩ ∧ ∀ k, k < l.length → w.cell? ⟨b, o + k, none⟩ = some (.int .i64 (l.getD k 0))
theorem IR.old {w w' : World} {A : Option Addr} {l : List Int} (h : IR w A l) (hb : Below w.heap.size w w') : IR w' A l := fun hp => by
  obtain ⟨b, o, rfl, hc⟩ := h hp
  exact ⟨b, o, rfl, fun k hk => (World.cell?_of_block (hb.block b (World.block_lt_of_cell? w ⟨b, o + k, none⟩ (hc k hk)))).trans (hc k hk)⟩
theorem IR.own {w : World} {base e : Nat} {v : Value} {l : List Int} (h : w.ownsRow base e 1 v l.length (l.map (Value.int .i64))) : ∃ A c, v = .slice A l.length c ∧ IR w A l ∧ (∀ a, A = some a → base ≤ a.block) := by
  obtain ⟨_, h2⟩ := h
  rcases h2 with ⟨rfl, hn⟩ | ⟨g, cap, cur, rfl, hb, hg, _, _, _, ht⟩
  · exact ⟨none, 0, by rw [hn], fun hp => by omega, fun a h => by cases h⟩
  · refine ⟨_, _, rfl, fun _ => ⟨g, 0, rfl, fun k hk => ?_⟩, fun a h => by injection h with h; subst h; exact hb⟩
    rw [cell_of_row w g (0 + k) cur e (0, 0) hg, Nat.zero_add, ← Array.getElem?_toList]
    have h3 : (cur.toList.take (l.length * 1))[k]? = (l.map (Value.int .i64))[k]? := by rw [ht]
    rw [List.getElem?_take_of_lt (by omega)] at h3
    rw [h3]
    simp [List.getD, hk]

theorem clone_any (A : Option Addr) (c : Nat) (l : List Int) (w : World) (h : IR w A l) (hl : l.length ≤ 100000) (hn : A = none → l = []) :
    Calls Tryd.prog 32 #[.slice A l.length c] w fun e w' => ∃ v', e = .returned v' ∧ w'.ownsRow w.heap.size 3 1 v' l.length (l.map (Value.int .i64)) ∧ Below w.heap.size w w' := by
  rcases Nat.eq_zero_or_pos l.length with h0 | h0
  · have : l = [] := List.eq_nil_of_length_eq_zero h0
    subst this
    cases A with
    | none =>
      refine (Tryd.slices_Clone_int_nil 0 c w).mono ?_
      rintro e w' ⟨rfl, rfl⟩
      exact ⟨_, rfl, World.ownsRow_nil _ _ _ _, Below.refl _ _⟩
    | some a =>
      refine (Tryd.slices_Clone_int_zero a c w).mono ?_
      rintro e w' ⟨v', rfl, h1, _, h2⟩
      exact ⟨v', rfl, h1, h2⟩
  · obtain ⟨b, o, rfl, hc⟩ := h h0
    refine (Tryd.slices_Clone_int b o l.length c l w (Nat.le_refl _) (by omega) hc).mono ?_
    rintro e w' ⟨v', rfl, h1, _, h2⟩
    rw [List.take_length] at h1
    exact ⟨v', rfl, h1, h2⟩

theorem sort_any (base : Nat) (v : Value) (l : List Int) (w : World) (h : w.ownsRow base 3 1 v l.length (l.map (Value.int .i64))) (hl : l.length ≤ 100000) :
    Calls Tryd.prog 33 #[v] w fun e w' => e = .returned (.tuple #[]) ∧ ∃ ys : List Int, ys.Perm l ∧ w'.ownsRow base 3 1 v l.length (ys.map (Value.int .i64)) ∧ w.grownBy w' v.ownBlock := by
  rcases Nat.eq_zero_or_pos l.length with h0 | h0
  · have : l = [] := List.eq_nil_of_length_eq_zero h0
    subst this
    obtain ⟨A, c, rfl⟩ := owns_slice h
    refine (Tryd.slices_Sort_int_none A c w).mono ?_
    rintro e w' ⟨rfl, rfl⟩
    exact ⟨rfl, [], List.Perm.refl _, h, ⟨rfl, rfl, rfl, Nat.le_refl _, fun _ _ _ => rfl⟩⟩
  · rcases h.2 with ⟨_, hn⟩ | ⟨g, cap, cur, rfl, hb, hg, hc, hm, hs, ht⟩
    · omega
    · have ht2 : cur.toList.take l.length = l.map (Value.int .i64) := by rw [Nat.mul_one] at ht; exact ht
      refine (Tryd.slices_Sort_int g 0 cap l w (holds_of_blockI hg ht2) (heap_lt hg) (by omega)).mono ?_
      rintro e w' ⟨rfl, n, os, rfl⟩
      refine ⟨rfl, l.mergeSort (fun x y => decide (x ≤ y)), List.mergeSort_perm _ _, ?_, grownBy_sortedI _⟩
      exact ownsRow_sortedI (n := n) (os := os) (ss := l) (ts := l.mergeSort (fun x y => decide (x ≤ y))) (List.length_mergeSort _) hb hg hc hm hs

/-- A touch from a block on. -/
theorem touch_below {B : Nat} {a w w' : World} {g : Nat} {h : Option Nat} (hb : Below B a w) (ht : Touch w w' g h) (hB : B ≤ w.heap.size) (hg : B ≤ g) (hh : ∀ q, h = some q → B ≤ q) : Below B a w' :=
  ⟨ht.os.trans hb.os, ht.tape.trans hb.tape, ht.output.trans hb.output, Nat.le_trans hb.size ht.size, fun k hk => (ht.block k (Nat.lt_of_lt_of_le hk hB) (by omega) (fun e => by have := hh k e.symm; omega)).trans (hb.block k hk)⟩
theorem SetAt.row_ge {w : World} {base g : Nat} {v : Value} {L : Bks} (h : SetAt w base g v L) : ∀ q, v.ownBlock = some q → base ≤ q ∧ q < w.heap.size := by
  intro q hq
  rcases h.own.2 with ⟨hv, _⟩ | ⟨k, cap, cur, hv, h2, hk, _⟩
  · rw [hv] at hq; cases hq
  · rw [hv] at hq
    injection hq with hq
    simp at hq
    subst hq
    exact ⟨h2, heap_lt hk⟩
theorem SetAt.base_le {w : World} {base base' g : Nat} {v : Value} {L : Bks} (h : SetAt w base g v L) (hb : base' ≤ base) : SetAt w base' g v L := by
  refine ⟨Nat.le_trans hb h.hb, h.blk, ⟨h.own.1, ?_⟩, h.isNil, h.ne, h.good⟩
  rcases h.own.2 with h1 | ⟨k, cap, cur, hv, h2, rest⟩
  · exact .inl h1
  · exact .inr ⟨k, cap, cur, hv, Nat.le_trans hb h2, rest⟩

def inl (l : List Int) (m : Int) : Bool := decide (0 ≤ m) && l.contains m
theorem inl_snoc (l : List Int) (x m : Int) : inl (l ++ [x]) m = (inl l m || (decide (0 ≤ x) && decide (m = x))) := by
  unfold inl
  rw [List.contains_append]
  by_cases h : m = x
  · subst h
    have : ([m] : List Int).contains m = true := by simp
    rw [this, decide_eq_true (rfl : m = m)]
    cases decide (0 ≤ m) <;> cases l.contains m <;> rfl
  · have : ([x] : List Int).contains m = false := by simp; exact h
    rw [this, decide_eq_false h]; simp
theorem inl_perm {l k : List Int} (h : l.Perm k) (m : Int) : inl l m = inl k m := by
  unfold inl
  congr 1
  rw [Bool.eq_iff_iff]
  simp [h.mem_iff]

/-- What Of leaves: a set of the call's own. -/
def OfPost (l : List Int) (w : World) (e : Ending) (w' : World) : Prop :=
  ∃ g v L, e = .returned (.pointer (some ⟨g, 0, none⟩)) ∧ SetAt w' w.heap.size g v L ∧ (∀ m, has L m = inl l m) ∧ L.length ≤ l.length ∧ Below w.heap.size w w'

theorem take_snocI (l : List Int) (k : Nat) (h : k < l.length) : l.take (k + 1) = l.take k ++ [l.getD k 0] := by
  rw [List.take_succ_eq_append_getElem h]; simp [h]

set_option maxRecDepth 20000 in
set_option maxHeartbeats 2000000 in
theorem of_any (A : Option Addr) (c : Nat) (l : List Int) (w : World) (h : IR w A l) (hl : l.length ≤ 1000) (hn : A = none → l = []) (hx : ∀ x ∈ l, -9223372036854775808 ≤ x ∧ x ≤ 9223372036854775807) :
    Calls Tryd.prog 19 #[.slice A l.length c] w (OfPost l w) := by
  have HI := Lib.hid h
  have HX := Lib.hid hx
  clear h hx
  go_enter Tryd.func19, Tryd.ntmps19
  go_wp2_with fail
  refine (clone_any _ _ _ _ HI.out (by omega) hn).mono ?_
  rintro e w1 ⟨v1, rfl, h1, hb1⟩
  have HO1 := Lib.hid h1
  have HB1 := Lib.hid hb1
  clear h1 hb1
  go_wp2_with fail
  refine (sort_any _ _ _ _ HO1.out (by omega)).mono ?_
  rintro e w2 ⟨rfl, ys, hp, h2, hg2⟩
  have HB2 := Lib.hid (HB1.out.grown hg2 HB1.out.size (fun k hk => (HO1.out.lt k hk).1))
  have HP := Lib.hid hp
  have hyl : ys.length = l.length := hp.length_eq
  rw [← hyl] at h2
  obtain ⟨A2, c2, hv2, hir, hbl⟩ := IR.own h2
  have HIR := Lib.hid hir
  have HYX : Hid (∀ x ∈ ys, -9223372036854775808 ≤ x ∧ x ≤ 9223372036854775807) := fun x hx => HX.out x (hp.mem_iff.1 hx)
  have hys : ys.length ≤ 1000 := by omega
  have HYL := Lib.hid hyl
  clear h2 hg2 hp hyl hir HO1 HB1 HI HX hbl
  subst hv2
  have HBG : Hid (Below w.heap.size w (w2.alloc (.cells #[.slice none 0 0] 27))) := HB2.out.alloc HB2.out.size _
  have HSG : Hid (SetAt (w2.alloc (.cells #[.slice none 0 0] 27)) w2.heap.size w2.heap.size (.slice none 0 0) []) :=
    ⟨Nat.le_refl _, heap_alloc_new w2 _, World.ownsRow_nil _ _ _ _, fun _ => rfl, (fun h => by cases h), good_nil⟩
  go_wp2_with fail
  go_loopw [15] (fun i wr => ∃ k : Nat, k ≤ ys.length ∧ i = .int .i64 k ∧ Hid (Below w2.heap.size w2 wr ∧ w2.heap.size < wr.heap.size ∧ ∃ v L, SetAt wr w2.heap.size w2.heap.size v L ∧ (∀ m, has L m = inl (ys.take k) m) ∧ L.length ≤ k)) (fun i _ => ys.length - (intOf i).toNat)
  case atStart => exact ⟨0, Nat.zero_le _, rfl, (Below.refl _ _).alloc (Nat.le_refl _) _, by simp, _, [], HSG.out, fun m => by simp [has, look, inl], by simp⟩
  case round =>
    obtain ⟨k, hk, rfl, hR⟩ := hrel
    by_cases hlt : k < ys.length
    · obtain ⟨hb, hsz, v, L, hS, hH, hL⟩ := hR.out
      obtain ⟨b, o, rfl, hc⟩ := (HIR.out.old hb) (by omega)
      have hcell := hc k hlt
      have hbd := HYX.out (ys.getD k 0) (by simp [hlt])
      have Hts := Lib.hid (take_snocI ys k hlt)
      generalize ys.getD k 0 = x at *
      have HB := Lib.hid hb
      have HSt := Lib.hid hS
      have HH := Lib.hid hH
      clear hc hb hS hH hR
      by_cases hx0 : x < 0
      · go_wp2_with fail
        refine (add_neg _ _ _ (.inr hx0) (.inr ⟨_, rfl⟩)).mono ?_
        rintro e w3 ⟨rfl, rfl⟩
        go_wp2
        go_roundw
        case rel => exact ⟨k + 1, by omega, by go_num, HB.out, hsz, v, L, HSt.out, fun m => by rw [Hts.out, inl_snoc, HH.out, decide_eq_false (by omega : ¬ 0 ≤ x)]; simp, by omega⟩
        case measure => simp [intOf]; omega
      · go_wp2_with fail
        refine (add_any w2.heap.size w2.heap.size v L x _ HSt.out (by omega) (by omega) (by omega) hbd.2).mono ?_
        rintro e w3 ⟨rfl, v', L', hS', hH', hL', hT, hO⟩
        have HB' := Lib.hid (touch_below HB.out hT HB.out.size (Nat.le_refl _) (fun q hq => (HSt.out.row_ge q hq).1))
        have HS' := Lib.hid hS'
        have HH' := Lib.hid hH'
        have hsz' : w2.heap.size < w3.heap.size := Nat.lt_of_lt_of_le hsz hT.size
        clear hS' hH' hT hO
        go_wp2
        go_roundw
        case rel => exact ⟨k + 1, by omega, by go_num, HB'.out, hsz', v', L', HS'.out, fun m => by rw [Hts.out, inl_snoc, HH'.out, HH.out, decide_eq_true (by omega : 0 ≤ x)]; simp, by omega⟩
        case measure => simp [intOf]; omega
    · obtain rfl : k = ys.length := by omega
      go_wp2
      go_ret
      obtain ⟨hb, hsz, v, L, hS, hH, hL⟩ := hR.out
      exact ⟨_, v, L, rfl, hS.base_le HB2.out.size, fun m => by rw [hH, List.take_length]; exact inl_perm HP.out m, by have := HYL.out; omega, HB2.out.trans (hb.mono HB2.out.size)⟩
end Go.Proofs.YtkkkglmjipnfaaaDoor
