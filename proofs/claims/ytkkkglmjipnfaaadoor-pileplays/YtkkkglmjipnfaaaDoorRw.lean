/-
  Rows of truths beside sets; what is leaves.
-/
import Derived.Test.YtkkkglmjipnfaaaDoorFam
namespace Go.Proofs.YtkkkglmjipnfaaaDoor
open Go.RowKit
set_option linter.unusedVariables false

/-- A row of truths, a block of its own. -/
def Row (w : World) (r : Nat) (l : List Bool) : Prop := w.heap[r]? = some (.cells (l.map Value.bool).toArray 4 (0, 0))
theorem Row.lt {w : World} {r : Nat} {l : List Bool} (h : Row w r l) : r < w.heap.size := heap_lt h
theorem Row.old {w w' : World} {r : Nat} {l : List Bool} (h : Row w r l) (hb : Below w.heap.size w w') : Row w' r l := (hb.block r h.lt).trans h
theorem Row.cell {w : World} {r : Nat} {l : List Bool} (h : Row w r l) (i : Nat) (hi : i < l.length) : w.cell? ⟨r, i, none⟩ = some (.bool (l.getD i false)) := by
  rw [cell_of_row w r i _ 4 (0, 0) h]
  simp [List.getD, hi]
theorem Row.free {w : World} {r : Nat} {l : List Bool} (h : Row w r l) (i : Nat) : w.frozen? ⟨r, i, none⟩ = false := by simp [World.frozen?, show w.heap[r]? = _ from h]
theorem Row.set {w : World} {r : Nat} {l : List Bool} (h : Row w r l) (i : Nat) (b : Bool) : Row (w.setCell ⟨r, i, none⟩ (.bool b)) r (l.set i b) := by
  unfold Row at h ⊢
  simp [World.setCell, Array.getElem?_modify, h, List.map_set]
theorem Row.other {w : World} {r r2 i : Nat} {l : List Bool} {u : Value} (h : Row w r l) (hne : r ≠ r2) : Row (w.setCell ⟨r2, i, none⟩ u) r l := (setCell_other w r2 i r u hne).trans h
/-- Sets and rows of truths, all apart. -/
structure SR (w0 w : World) (fs : List SetV) (rs : List (Nat × List Bool)) : Prop where
  st : St w0 w fs
  row : ∀ r ∈ rs, Row w r.1 r.2 ∧ w0.heap.size ≤ r.1
  off : ∀ r ∈ rs, ∀ f ∈ fs, r.1 ≠ f.1 ∧ f.2.1.ownBlock ≠ some r.1
  apart : rs.Pairwise (fun a b => a.1 ≠ b.1)
theorem SR.old {w0 w w' : World} {fs : List SetV} {rs : List (Nat × List Bool)} (h : SR w0 w fs rs) (hb : Below w.heap.size w w') : SR w0 w' fs rs :=
  ⟨h.st.old hb, fun r hr => ⟨(h.row r hr).1.old hb, (h.row r hr).2⟩, h.off, h.apart⟩
theorem SR.more {w0 w w' : World} {fs : List SetV} {rs : List (Nat × List Bool)} {g : Nat} {v : Value} {L : Bks} (h : SR w0 w fs rs) (hb : Below w.heap.size w w') (hn : SetAt w' w.heap.size g v L) : SR w0 w' ((g, v, L) :: fs) rs := by
  have ho := h.old hb
  refine ⟨h.st.more hb hn, ho.row, fun r hr f hf => ?_, h.apart⟩
  rcases List.mem_cons.1 hf with rfl | hf
  · have h1 := (h.row r hr).1.lt
    have h2 := hn.hb
    refine ⟨by show r.1 ≠ g; omega, fun e => ?_⟩
    have := (hn.row_ge _ e).1
    omega
  · exact h.off r hr f hf
theorem SR.swap {w0 w : World} {a b : SetV} {fs : List SetV} {rs : List (Nat × List Bool)} (h : SR w0 w (a :: b :: fs) rs) : SR w0 w (b :: a :: fs) rs :=
  ⟨h.st.swap, h.row, fun r hr f hf => h.off r hr f (by simp at hf ⊢; rcases hf with h | h | h <;> simp [h]), h.apart⟩
theorem SR.tail {w0 w : World} {a : SetV} {fs : List SetV} {rs : List (Nat × List Bool)} (h : SR w0 w (a :: fs) rs) : SR w0 w fs rs :=
  ⟨h.st.tail, h.row, fun r hr f hf => h.off r hr f (List.mem_cons_of_mem _ hf), h.apart⟩
theorem SR.turn {w0 w w' : World} {g : Nat} {v v' : Value} {L L' : Bks} {fs : List SetV} {rs : List (Nat × List Bool)} (h : SR w0 w ((g, v, L) :: fs) rs) (hs : SetAt w' w0.heap.size g v' L') (ht : Touch w w' g v.ownBlock) (hv : v'.ownBlock = v.ownBlock ∨ ∃ k, v'.ownBlock = some k ∧ w.heap.size ≤ k) : SR w0 w' ((g, v', L') :: fs) rs := by
  refine ⟨h.st.turn hs ht hv, fun r hr => ⟨?_, (h.row r hr).2⟩, fun r hr f hf => ?_, h.apart⟩
  · have h1 := h.off r hr (g, v, L) (by simp)
    exact (ht.block r.1 (h.row r hr).1.lt h1.1 (fun e => h1.2 e.symm)).trans (h.row r hr).1
  · rcases List.mem_cons.1 hf with rfl | hf
    · have h1 := h.off r hr (g, v, L) (by simp)
      refine ⟨h1.1, fun e => ?_⟩
      rcases hv with hv | ⟨k, hv, hk⟩
      · exact h1.2 (hv ▸ e)
      · have h2 := (h.row r hr).1.lt
        rw [show (((g, v', L') : SetV).2.1).ownBlock = some k from hv] at e
        injection e with e
        omega
    · exact h.off r hr f (List.mem_cons_of_mem _ hf)
/-- A row's cell is turned. -/
theorem SR.set {w0 w : World} {fs : List SetV} {r : Nat} {l : List Bool} {rs : List (Nat × List Bool)} (h : SR w0 w fs ((r, l) :: rs)) (i : Nat) (b : Bool) : SR w0 (w.setCell ⟨r, i, none⟩ (.bool b)) fs ((r, l.set i b) :: rs) := by
  have h0 := h.row (r, l) (by simp)
  have hoff := fun f hf => h.off (r, l) (by simp) f hf
  refine ⟨⟨fun f hf => ?_, h.st.apart, h.st.below.setCell h0.2 _⟩, fun x hx => ?_, fun x hx f hf => ?_, ?_⟩
  · have hs := h.st.set f hf
    refine ⟨hs.hb, ?_, ⟨hs.own.1, ?_⟩, hs.isNil, hs.ne, hs.good⟩
    · rw [setCell_other _ _ _ _ _ (fun e => (hoff f hf).1 e.symm)]; exact hs.blk
    · rcases hs.own.2 with h1 | ⟨k, cap, cur, hv, h2, hk, rest⟩
      · exact .inl h1
      · refine .inr ⟨k, cap, cur, hv, h2, ?_, rest⟩
        rw [setCell_other _ _ _ _ _ (fun e => (hoff f hf).2 (by rw [hv, e]; rfl))]
        exact hk
  · rcases List.mem_cons.1 hx with rfl | hx
    · exact ⟨h0.1.set i b, h0.2⟩
    · have h1 := h.row x (by simp [hx])
      exact ⟨h1.1.other (fun e => (List.pairwise_cons.1 h.apart).1 x hx e.symm), h1.2⟩
  · rcases List.mem_cons.1 hx with rfl | hx
    · exact hoff f hf
    · exact h.off x (by simp [hx]) f hf
  · have h1 := List.pairwise_cons.1 h.apart
    exact List.pairwise_cons.2 ⟨h1.1, h1.2⟩
theorem SR.rswap {w0 w : World} {fs : List SetV} {a b : Nat × List Bool} {rs : List (Nat × List Bool)} (h : SR w0 w fs (a :: b :: rs)) : SR w0 w fs (b :: a :: rs) := by
  refine ⟨h.st, fun r hr => h.row r (by simp at hr ⊢; rcases hr with h | h | h <;> simp [h]), fun r hr => h.off r (by simp at hr ⊢; rcases hr with h | h | h <;> simp [h]), ?_⟩
  have h1 := List.pairwise_cons.1 h.apart
  have h2 := List.pairwise_cons.1 h1.2
  exact List.pairwise_cons.2 ⟨fun f hf => by
    rcases List.mem_cons.1 hf with rfl | hf
    · exact (h1.1 b (by simp)).symm
    · exact h2.1 f hf, List.pairwise_cons.2 ⟨fun f hf => h1.1 f (by simp [hf]), h2.2⟩⟩
theorem SR.rtail {w0 w : World} {fs : List SetV} {a : Nat × List Bool} {rs : List (Nat × List Bool)} (h : SR w0 w fs (a :: rs)) : SR w0 w fs rs :=
  ⟨h.st, fun r hr => h.row r (List.mem_cons_of_mem _ hr), fun r hr => h.off r (List.mem_cons_of_mem _ hr), (List.pairwise_cons.1 h.apart).2⟩
/-- A new row. -/
theorem SR.rnew {w0 w : World} {fs : List SetV} {rs : List (Nat × List Bool)} (h : SR w0 w fs rs) (l : List Bool) : SR w0 (w.alloc (.cells (l.map Value.bool).toArray 4)) fs ((w.heap.size, l) :: rs) := by
  have ho := h.old ((Below.refl w.heap.size w).alloc (Nat.le_refl _) (.cells (l.map Value.bool).toArray 4))
  refine ⟨ho.st, fun r hr => ?_, fun r hr f hf => ?_, List.pairwise_cons.2 ⟨fun r hr => ?_, h.apart⟩⟩
  · rcases List.mem_cons.1 hr with rfl | hr
    · exact ⟨heap_alloc_new w _, h.st.below.size⟩
    · exact ho.row r hr
  · rcases List.mem_cons.1 hr with rfl | hr
    · have hs := h.st.set f hf
      have h1 := hs.lt
      refine ⟨by show w.heap.size ≠ f.1; omega, fun e => ?_⟩
      have h2 := (hs.row_ge _ e).2
      simp only at h2
      omega
    · exact h.off r hr f hf
  · have := (h.row r hr).1.lt
    show w.heap.size ≠ r.1
    omega
theorem sr_add {w0 w : World} {fs : List SetV} {rs : List (Nat × List Bool)} {g : Nat} {v : Value} {L : Bks} (h : SR w0 w ((g, v, L) :: fs) rs) (hl : L.length ≤ 1000) (n : Int) (h1 : 0 ≤ n) (h2 : n ≤ 9223372036854775807) :
    Calls Tryd.prog 12 #[.pointer (some ⟨g, 0, none⟩), .int .i64 n] w fun e w' => e = .returned (.bool (!has L n)) ∧ ∃ v' L', SR w0 w' ((g, v', L') :: fs) rs ∧ (∀ m, has L' m = (has L m || decide (m = n))) ∧ L'.length ≤ L.length + 1 := by
  have h0 := h.st.set (g, v, L) (by simp)
  refine (add_any _ _ _ _ _ _ h0 (by show L.length ≤ _; omega) h.st.below.size h1 h2).mono ?_
  rintro e w' ⟨rfl, v', L', hs, hh, hl', ht, hv⟩
  exact ⟨rfl, v', L', h.turn hs ht hv, hh, hl'⟩
theorem sr_join {w0 w : World} {fs : List SetV} {rs : List (Nat × List Bool)} {g : Nat} {v : Value} {L : Bks} (h : SR w0 w ((g, v, L) :: fs) rs) {f : SetV} (hf : f ∈ fs) (hl : L.length ≤ 10000) (hl2 : f.2.2.length ≤ 10000) :
    Calls Tryd.prog 13 #[.pointer (some ⟨g, 0, none⟩), .pointer (some ⟨f.1, 0, none⟩)] w fun e w' => e = .returned (.bool (lackF L f.2.2)) ∧ ∃ v', SR w0 w' ((g, v', joinF L f.2.2) :: fs) rs := by
  have h0 := h.st.set (g, v, L) (by simp)
  have ha := (List.pairwise_cons.1 h.st.apart).1 f hf
  obtain ⟨A2, c2, hv2, hr2, hm2, hn2⟩ := h.st.rd (f := f) (by simp [hf]) hl2
  refine (join_any _ _ _ _ _ _ _ _ _ h0 hr2 (fun b o e => fun e2 => ha.r b e2 (by rw [hv2, e]; rfl)) hl hl2 h.st.below.size).mono ?_
  rintro e w' ⟨rfl, v', hs, ht, hv⟩
  exact ⟨rfl, v', h.turn hs ht hv⟩
/-- A set's numbers are just those of a row. -/
def Is (L : Bks) (l : List Bool) : Prop := l.length = 400 ∧ (∀ i, i < 400 → has L (i : Nat) = l.getD i false) ∧ ∀ n, has L n = true → 0 ≤ n ∧ n < 400
theorem is_all {L : Bks} {l : List Bool} (hg : Good L) (h : Is L l) : allF L = ((List.range 400).filter (fun i => l.getD i false)).map (fun i : Nat => (i : Int)) := by
  refine rise_ext (rise_allF hg) ?_ fun m => ?_
  · refine List.pairwise_map.2 ((List.pairwise_lt_range (n := 400)).sublist List.filter_sublist |>.imp ?_)
    intro a b hab; omega
  · rw [mem_allF hg, List.mem_map]
    constructor
    · intro hm
      obtain ⟨h1, h2⟩ := h.2.2 m hm
      refine ⟨m.toNat, List.mem_filter.2 ⟨List.mem_range.2 (by omega), ?_⟩, by omega⟩
      have := h.2.1 m.toNat (by omega)
      rw [show ((m.toNat : Nat) : Int) = m from by omega, hm] at this
      exact this.symm
    · rintro ⟨i, hi, rfl⟩
      obtain ⟨h1, h2⟩ := List.mem_filter.1 hi
      rw [h.2.1 i (List.mem_range.1 h1)]
      exact h2
theorem is_ext {L : Bks} {l k : List Bool} (h1 : Is L l) (h2 : Is L k) : l = k := by
  apply List.ext_getElem (by rw [h1.1, h2.1])
  intro i hi1 hi2
  have a := h1.2.1 i (by rw [← h1.1]; exact hi1)
  have b := h2.2.1 i (by rw [← h1.1]; exact hi1)
  rw [a] at b
  simpa [List.getD, hi1, hi2] using b
/-- How many numbers stand ahead of i. -/
def cntT (l : List Bool) (i : Nat) : Nat := ((List.range i).filter (fun i => l.getD i false)).length
theorem cntT_succ (l : List Bool) (i : Nat) : cntT l (i + 1) = cntT l i + (if l.getD i false then 1 else 0) := by
  unfold cntT
  rw [List.range_succ, List.filter_append, List.length_append]
  congr 1
  by_cases hb : l.getD i false = true
  · rw [if_pos hb, List.filter_cons, if_pos hb]; rfl
  · rw [if_neg hb, List.filter_cons, if_neg hb]; rfl
theorem cntT_le (l : List Bool) (i : Nat) : cntT l i ≤ i := by
  unfold cntT
  exact Nat.le_trans (List.length_filter_le _ _) (by simp)
theorem is_at {L : Bks} {l : List Bool} (hg : Good L) (h : Is L l) (i : Nat) (hi : i < 400) (ht : l.getD i false = true) : cntT l i < (allF L).length ∧ (allF L).getD (cntT l i) 0 = (i : Nat) := by
  have e : List.range 400 = List.range i ++ i :: List.range' (i + 1) (399 - i) := by
    rw [List.range_eq_range', List.range_eq_range', ← List.range'_succ, show 399 - i + 1 = 400 - i from by omega]
    have := List.range'_append_1 (s := 0) (m := i) (n := 400 - i)
    rw [Nat.zero_add] at this
    rw [this, show i + (400 - i) = 400 from by omega]
  have hl : (((List.range i).filter (fun i => l.getD i false)).map (fun i : Nat => (i : Int))).length = cntT l i := by rw [List.length_map]; rfl
  rw [is_all hg h, e, List.filter_append, List.filter_cons, if_pos ht, List.map_append, List.map_cons]
  constructor
  · rw [List.length_append, hl]; simp
  · rw [List.getD, List.getElem?_append_right (by rw [hl]; exact Nat.le_refl _), hl]
    simp
theorem is_len {L : Bks} {l : List Bool} (hg : Good L) (h : Is L l) : (allF L).length = cntT l 400 := by
  rw [is_all hg h, List.length_map]; rfl

set_option maxRecDepth 20000 in
set_option maxHeartbeats 2000000 in
theorem is_any (p : Value) (A : Option Addr) (c : Nat) (L : Bks) (r : Nat) (l : List Bool) (w : World) (hR : Rd w p A c L) (hrow : Row w r l) (hI : Is L l) (hl : L.length ≤ 1000) (hT : Tab w) :
    Calls Tryd.prog 15 #[p, .slice (some ⟨r, 0, none⟩) 400 400] w fun e w' => e = .returned (.bool true) ∧ Below w.heap.size w w' := by
  have HR := Lib.hid hR
  have HW := Lib.hid hrow
  have HI := Lib.hid hI
  have HAt := Lib.hid (fun i hi ht => is_at hR.good hI i hi ht)
  have hlen := is_len hR.good hI
  have hlF := lenF_all hR.good
  have HT := Lib.hid hT
  clear hR hrow hI hT
  go_enter Tryd.func15, Tryd.ntmps15
  go_wp2_with fail
  refine (all_any _ _ _ _ _ HR.out hl HT.out).mono ?_
  rintro e w1 hp
  obtain ⟨A3, c3, rfl, hIR, _, hb1⟩ := hp.rd
  have HB1 := Lib.hid hb1
  have HZ := Lib.hid hIR
  clear hp hIR hb1
  generalize allF L = zs at *
  have HLen := Lib.hid hlen
  have HLF := Lib.hid hlF
  have hzb : zs.length ≤ 400 := by rw [hlen]; exact cntT_le l 400
  clear hlen hlF
  go_wp2_with fail
  go_loopw [6, 7] (fun s6 s7 wr => ∃ i : Nat, i ≤ 400 ∧ s7 = .int .i64 (i : Int) ∧ s6 = .int .i64 ((cntT l i : Nat) : Int) ∧ Hid (Below w1.heap.size w1 wr)) (fun _ s7 _ => 400 - (intOf s7).toNat)
  case atStart => exact ⟨0, Nat.zero_le _, rfl, rfl, Below.refl _ _⟩
  case round =>
    obtain ⟨i, hi, rfl, rfl, hB⟩ := hrel
    have hcl := cntT_le l i
    have HBw := Lib.hid (HB1.out.trans (hB.out.mono HB1.out.size))
    by_cases hlt : i < 400
    · have hci := (HW.out.old HBw.out).cell i (by rw [HI.out.1]; exact hlt)
      have hhas := HI.out.2.1 i hlt
      have HSuc := Lib.hid (cntT_succ l i)
      have HA := Lib.hid (HAt.out i hlt)
      have hRow := (HW.out.old HBw.out)
      have hrl := hRow.lt
      have HRw := Lib.hid (HR.out.old HBw.out)
      have hii : (i : Int) < 400 := by omega
      have hcd : wr.drew.cell? ⟨r, i, none⟩ = some (.bool (l.getD i false)) := by rw [World.cell?_drew]; exact hci
      generalize l.getD i false = bi at *
      generalize hcn : cntT l i = cn at *
      clear hcn hRow
      have H21 : Hid (Calls Tryd.prog 21 #[p, .int .i64 (i : Int)] wr.drew fun e w' => e = .returned (.bool bi) ∧ w'.cell? ⟨r, i, none⟩ = some (.bool bi) ∧ Hid (Below wr.heap.size wr w')) := by
        refine (has_any _ _ _ _ _ _ (HRw.out.drew) (by omega) (by omega)).mono ?_
        rintro e w' ⟨rfl, hb⟩
        exact ⟨by rw [hhas], (World.cell?_of_block (hb.block r hrl)).trans hcd, (Below.refl _ _).drew.trans hb⟩
      have HRL := Lib.hid hrl
      clear hhas hrl
      have hbb : (bi != bi) = false := by simp
      go_upto_region 6 with (fail)
      go_region_law (first | (go_simp; go_at_call 21; refine H21.out.mono ?_; rintro e w5 ⟨rfl, hc5, hb5⟩))
      all_goals
        have HB5 := Lib.hid (hB.out.trans (hb5.out.mono hB.out.size))
        clear hb5
        cases bi
        · go_wp2
          go_roundw
          case rel => exact ⟨i + 1, by omega, by go_num, by rw [HSuc.out]; simp, HB5⟩
          case measure => simp [intOf]; omega
        · obtain ⟨h1, h2⟩ := HA.out rfl
          obtain ⟨b3, o3, rfl, hz⟩ := (HZ.out.old HB5.out) (by omega)
          have hz1 := hz cn h1
          rw [h2] at hz1
          clear hz h2
          have h1i : (cn : Int) < (zs.length : Int) := by omega
          have hng : ¬ ((zs.length : Int) ≤ (cn : Int)) := by omega
          have hbq : ((i : Int) != (i : Int)) = false := by simp
          go_wp2
          go_roundw
          case rel => exact ⟨i + 1, by omega, by go_num, by rw [HSuc.out]; simp, HB5⟩
          case measure => simp [intOf]; omega
    · obtain rfl : i = 400 := by omega
      have HRw := Lib.hid (HR.out.old HBw.out)
      rw [← HLen.out]
      go_wp2_with fail
      refine (len_any _ _ _ _ _ HRw.out hl).mono ?_
      rintro e w6 ⟨rfl, hb6⟩
      have HB6 := Lib.hid (HBw.out.trans (hb6.mono HBw.out.size))
      clear hb6
      rw [HLF.out]
      go_wp2
      go_ret
      exact ⟨rfl, HB6.out⟩
end Go.Proofs.YtkkkglmjipnfaaaDoor
