/-
  What the set's Add leaves.
-/
import Derived.Test.YtkkkglmjipnfaaaDoorZr
namespace Go.Proofs.YtkkkglmjipnfaaaDoor
open Go.RowKit
set_option linter.unusedVariables false

/-- A set of the call's own, at block g, its row in v. -/
structure SetAt (w : World) (base g : Nat) (v : Value) (L : Bks) : Prop where
  hb : base ≤ g
  blk : w.heap[g]? = some (.cells #[v] 27 (0, 0))
  own : w.ownsRow base 57 2 v L.length (flat L)
  isNil : L = [] → v = .slice none 0 0
  ne : v.ownBlock ≠ some g
  good : Good L
/-- Only a set's own blocks have turned, and there may be new ones. -/
structure Touch (w w' : World) (g : Nat) (h : Option Nat) : Prop where
  os : w'.os = w.os
  tape : w'.tape = w.tape
  output : w'.output = w.output
  size : w.heap.size ≤ w'.heap.size
  block : ∀ k, k < w.heap.size → k ≠ g → some k ≠ h → w'.heap[k]? = w.heap[k]?
theorem Touch.refl (w : World) (g : Nat) (h : Option Nat) : Touch w w g h := ⟨rfl, rfl, rfl, Nat.le_refl _, fun _ _ _ _ => rfl⟩
theorem touch_of_below {w w' : World} (g : Nat) (h : Option Nat) (hb : Below w.heap.size w w') : Touch w w' g h := ⟨hb.os, hb.tape, hb.output, hb.size, fun k hk _ _ => hb.block k hk⟩
theorem heap_lt {w : World} {g : Nat} {o : Obj} (h : w.heap[g]? = some o) : g < w.heap.size := by
  rcases Nat.lt_or_ge g w.heap.size with h1 | h1
  · exact h1
  · rw [Array.getElem?_eq_none h1] at h; cases h
theorem SetAt.lt {w : World} {base g : Nat} {v : Value} {L : Bks} (h : SetAt w base g v L) : g < w.heap.size := heap_lt h.blk
theorem SetAt.old {w w' : World} {base g : Nat} {v : Value} {L : Bks} (h : SetAt w base g v L) (hb : Below w.heap.size w w') : SetAt w' base g v L := by
  refine ⟨h.hb, (hb.block g h.lt).trans h.blk, ⟨h.own.1, ?_⟩, h.isNil, h.ne, h.good⟩
  rcases h.own.2 with h1 | ⟨k, cap, cur, hv, h2, hk, rest⟩
  · exact .inl h1
  · exact .inr ⟨k, cap, cur, hv, h2, (hb.block k (heap_lt hk)).trans hk, rest⟩
theorem SetAt.slice {w : World} {base g : Nat} {v : Value} {L : Bks} (h : SetAt w base g v L) : ∃ A c, v = .slice A L.length c ∧ BR w A L ∧ L.length ≤ c := by
  obtain ⟨_, h2⟩ := h.own
  rcases h2 with ⟨hv, hn⟩ | ⟨k, cap, cur, hv, _, hk, h3, _, _, ht⟩
  · exact ⟨none, 0, by rw [hv, hn], fun hp => by omega, by omega⟩
  · refine ⟨_, _, hv, fun hp => ⟨k, 0, rfl, fun j hj => ?_⟩, h3⟩
    have hf := flat_get L j hj
    rw [Nat.zero_add, cell_of_row w k _ cur 57 (0, 0) hk, cell_of_row w k _ cur 57 (0, 0) hk, ← Array.getElem?_toList, ← Array.getElem?_toList]
    rw [← ht, List.getElem?_take_of_lt (by omega), List.getElem?_take_of_lt (by omega)] at hf
    exact hf
theorem SetAt.rd {w : World} {base g : Nat} {v : Value} {L : Bks} (h : SetAt w base g v L) (hl : L.length ≤ 100000) : ∃ A c, v = .slice A L.length c ∧ Rd w (.pointer (some ⟨g, 0, none⟩)) A c L := by
  obtain ⟨A, c, hv, hbr, _⟩ := h.slice
  refine ⟨A, c, hv, h.good, hl, hbr, .inr ⟨g, rfl, ?_⟩⟩
  rw [cell_of_row w g 0 _ 27 (0, 0) h.blk, hv]
  rfl

theorem flat_set (L : Bks) (r : Nat) (hr : r < L.length) (p : Int × Nat) (hp : (L[r]).1 = p.1) : flat (L.set r p) = (flat L).set (r * 2 + 1) (.int .u64 (p.2 : Int)) := by
  induction L generalizing r with
  | nil => simp at hr
  | cons q L ih =>
    cases r with
    | zero =>
      simp at hp
      simp [flat, hp]
    | succ r =>
      rw [show (r + 1) * 2 + 1 = r * 2 + 1 + 1 + 1 from by omega]
      simp only [List.set_cons_succ, flat]
      rw [ih r (by simpa using hr) (by simpa using hp)]

/-- Insert, at any owned row. -/
theorem insert_any (base : Nat) (v : Value) (L : Bks) (r : Nat) (a : Int) (b gv : Nat) (w : World) (hown : w.ownsRow base 57 2 v L.length (flat L)) (hl : L.length ≤ 100000) (hB : base ≤ w.heap.size)
    (hr : r ≤ L.length) (hne : v.ownBlock ≠ some gv) (hgv : w.heap[gv]? = some (.cells #[.int .i64 a, .int .u64 (b : Int)] 57 (0, 0))) :
    Calls Tryd.prog 25 #[v, .int .i64 r, .slice (some ⟨gv, 0, none⟩) 1 1] w (InsPost base v (L.take r ++ (a, b) :: L.drop r) w) := by
  rcases Nat.lt_or_ge r L.length with hlt | hge
  · rcases hown.2 with ⟨rfl, hn⟩ | ⟨g, cap, cur, rfl, hbg, hg, hnc, hcm, hcs, htake⟩
    · omega
    · have hgg : gv ≠ g := fun e => hne (by rw [e]; rfl)
      rcases Nat.lt_or_ge cap (L.length + 1) with hc | hc
      · obtain rfl : cap = L.length := by omega
        exact insert_grow base g cur L r a b gv w hbg hgg hB hg hcs htake hl hlt hgv
      · exact insert_shift base g cap cur L r a b gv w hbg hgg hg hc hcm hcs htake hl hlt hgv
  · obtain rfl : r = L.length := by omega
    rw [List.take_length, List.drop_length]
    exact insert_end base v L a b gv w hown hl hB hgv

theorem owns_slice {w : World} {base e size n : Nat} {v : Value} {xs : List Value} (h : w.ownsRow base e size v n xs) : ∃ A c, v = .slice A n c := by
  rcases h.2 with ⟨hv, hn⟩ | ⟨k, cap, cur, hv, _⟩
  · exact ⟨none, 0, by rw [hv, hn]⟩
  · exact ⟨_, _, hv⟩
theorem setCell_other (w : World) (g i k : Nat) (u : Value) (h : k ≠ g) : (w.setCell ⟨g, i, none⟩ u).heap[k]? = w.heap[k]? := Below.heap_setCell w _ u k (fun e => h (by rw [e]))
theorem set_field {w : World} {base g n : Nat} {v0 v : Value} {xs : List Value} (hblk : w.heap[g]? = some (.cells #[v0] 27 (0, 0))) (hown : w.ownsRow base 57 2 v n xs) (hne : v.ownBlock ≠ some g) :
    (w.setCell ⟨g, 0, none⟩ v).heap[g]? = some (.cells #[v] 27 (0, 0)) ∧ (w.setCell ⟨g, 0, none⟩ v).ownsRow base 57 2 v n xs := by
  refine ⟨by simp [World.setCell, Array.getElem?_modify, hblk], hown.1, ?_⟩
  rcases hown.2 with h1 | ⟨k, cap, cur, hv, h2, hk, rest⟩
  · exact .inl h1
  · refine .inr ⟨k, cap, cur, hv, h2, ?_, rest⟩
    rw [setCell_other _ _ _ _ _ (fun e => hne (by rw [hv, e]; rfl))]
    exact hk
/-- The block g, behind a call that turns one row alone. -/
theorem grown_blk {w w' : World} {row : Option Nat} {g : Nat} {o : Obj} (h : w.grownBy w' row) (hg : w.heap[g]? = some o) (hne : row ≠ some g) : w'.heap[g]? = some o := (h.block g (heap_lt hg) (fun e => hne e.symm)).trans hg

/-- What Add leaves. -/
def AddPost (base g : Nat) (v : Value) (L : Bks) (n : Int) (w : World) (e : Ending) (w' : World) : Prop :=
  e = .returned (.bool (!has L n)) ∧ ∃ v' L', SetAt w' base g v' L' ∧ (∀ m, has L' m = (has L m || decide (m = n))) ∧ L'.length ≤ L.length + 1 ∧ Touch w w' g v.ownBlock ∧
    (v'.ownBlock = v.ownBlock ∨ ∃ k, v'.ownBlock = some k ∧ w.heap.size ≤ k)

set_option maxHeartbeats 400000 in
theorem add_neg (p : Value) (n : Int) (w : World) (hp : p = .pointer none ∨ n < 0) (hq : p = .pointer none ∨ ∃ g, p = .pointer (some ⟨g, 0, none⟩)) : Calls Tryd.prog 12 #[p, .int .i64 n] w fun e w' => e = .returned (.bool false) ∧ w = w' := by
  rcases hq with rfl | ⟨g, rfl⟩
  · go_enter Tryd.func12, Tryd.ntmps12
    go_wp2
    go_ret
    exact ⟨rfl, rfl⟩
  · have hn : n < 0 := by
      rcases hp with h | h
      · cases h
      · exact h
    go_enter Tryd.func12, Tryd.ntmps12
    go_wp2
    go_ret
    exact ⟨rfl, rfl⟩

set_option maxRecDepth 20000 in
set_option maxHeartbeats 2000000 in
theorem add_any (base g : Nat) (v : Value) (L : Bks) (n : Int) (w : World) (h : SetAt w base g v L) (hl : L.length ≤ 90000) (hB : base ≤ w.heap.size) (h1 : 0 ≤ n) (h2 : n ≤ 9223372036854775807) :
    Calls Tryd.prog 12 #[.pointer (some ⟨g, 0, none⟩), .int .i64 n] w (AddPost base g v L n w) := by
  obtain ⟨A, c, rfl, hrd⟩ := h.rd (by omega)
  have HS := Lib.hid h
  have HR := Lib.hid hrd
  have hlk := look_lt h.good (n / 64)
  have hnb := and_bit (look L (n / 64)) (n % 64).toNat hlk (by omega)
  have hhas : has L n = (look L (n / 64)).testBit (n % 64).toNat := rfl
  rw [← hhas] at hnb
  clear h hrd
  go_enter Tryd.func12, Tryd.ntmps12
  go_wp2_with fail
  refine (bitof_any n _ (by omega) h2).mono ?_
  rintro e w1 ⟨rfl, k, rfl⟩
  have HS1 := Lib.hid (HS.out.old (below_drewN (Below.refl _ _) k))
  have HR1 := Lib.hid (HR.out.old (below_drewN (Below.refl _ _) k))
  have HB1 := Lib.hid (below_drewN (Below.refl w.heap.size w) k)
  generalize w.drewN k = w1 at HS1 HR1 HB1 ⊢
  have Hbt : Hid (∃ bt : Nat, bt = 2 ^ (n % 64).toNat) := ⟨_, rfl⟩
  obtain ⟨bt, hbt⟩ := Hbt.out
  rw [← hbt] at hnb ⊢
  have HBT := Lib.hid hbt
  clear hbt Hbt hhas
  have hc1 := cell_of_row w1 g 0 _ 27 (0, 0) HS1.out.blk
  simp at hc1
  go_wp2_with fail
  refine (find_any _ _ _ _ _ HR1.out.good HR1.out.row (by omega)).mono ?_
  rintro e w2 ⟨r, rfl, hat, hb⟩
  have HAt := Lib.hid hat
  have HS2 := Lib.hid (HS1.out.old hb)
  have HB2 := Lib.hid (HB1.out.trans (hb.mono HB1.out.size))
  have hc2 := cell_of_row w2 g 0 _ 27 (0, 0) HS2.out.blk
  simp at hc2
  clear hb hat hc1 HS1 HR1 HB1 HR
  cases hh : has L n
  · rw [hh] at hnb
    have Hhh := Lib.hid hh
    have hbt64 : bt < 18446744073709551616 := by
      rw [HBT.out]
      exact Nat.lt_of_lt_of_eq (Nat.pow_lt_pow_right (by decide) (by omega)) (show (2 : Nat) ^ 64 = 18446744073709551616 by decide)
    have hbt0 : 0 < bt := by rw [HBT.out]; exact Nat.two_pow_pos _
    clear hh
    by_cases hz : look L (n / 64) = 0
    · have hne0 : ((look L (n / 64) : Int) != 0) = false := by rw [hz]; rfl
      have Hz := Lib.hid hz
      clear hz
      generalize hlo : (look L (n / 64) : Int) = lo at *
      have Hlo := Lib.hid hlo
      clear hlo
      have hgv : (w2.alloc (.cells #[.int .i64 (n / 64), .int .u64 (bt : Int)] 57)).heap[w2.heap.size]? = some (.cells #[.int .i64 (n / 64), .int .u64 (bt : Int)] 57 (0, 0)) := heap_alloc_new w2 _
      have HB3 : Hid (Below w2.heap.size w2 (w2.alloc (.cells #[.int .i64 (n / 64), .int .u64 (bt : Int)] 57))) := (Below.refl _ _).alloc (Nat.le_refl _) _
      have HS3 := Lib.hid (HS2.out.old HB3.out)
      have hins := insert_any base (.slice A L.length c) L r (n / 64) bt w2.heap.size (w2.alloc (.cells #[.int .i64 (n / 64), .int .u64 (bt : Int)] 57)) HS3.out.own (by omega) (Nat.le_trans hB (Nat.le_trans HB2.out.size HB3.out.size)) HAt.out.1 (by
        intro e
        rcases HS2.out.own.2 with ⟨hv, _⟩ | ⟨q, cap, cur, hv, _, hq, _⟩
        · rw [hv] at e; cases e
        · rw [hv] at e
          have := heap_lt hq
          injection e with e
          simp at e
          omega) hgv
      have HI := Lib.hid hins
      have HLg := Lib.hid (good_insert HS2.out.good HAt.out Hz.out (by omega) (by unfold top; omega) hbt0 hbt64)
      have HLk : Hid (∀ q, look (L.take r ++ (n / 64, bt) :: L.drop r) q = if q = n / 64 then look L (n / 64) ||| 2 ^ (n % 64).toNat else look L q) := fun q => by
        rw [look_insert HS2.out.good HAt.out Hz.out q, Hz.out, HBT.out]
        simp
      have HLl : Hid ((L.take r ++ (n / 64, bt) :: L.drop r).length = L.length + 1) := by
        have := HAt.out.1
        show _ = _
        simp
        omega
      clear hins hgv
      generalize L.take r ++ (n / 64, bt) :: L.drop r = Ln at HI HLg HLk HLl
      go_wp2_with fail
      refine HI.out.mono ?_
      rintro e w3 ⟨v3, rfl, h3, h4, h5⟩
      obtain ⟨A3, c3, hv3s⟩ := owns_slice h3
      subst hv3s
      have hb3 := grown_blk h4 HS3.out.blk HS3.out.ne
      have hv3 : (Value.slice A3 Ln.length c3).ownBlock ≠ some g := by
        rcases h5 with h5 | ⟨q, h5, h6⟩
        · rw [h5]; exact HS3.out.ne
        · rw [h5]; intro e; injection e with e; have := HS3.out.lt; omega
      have hc3 := cell_of_row w3 g 0 _ 27 (0, 0) hb3
      simp at hc3
      have hf3 : w3.frozen? ⟨g, 0, none⟩ = false := by simp [World.frozen?, hb3]
      have HSF := Lib.hid (set_field hb3 h3 hv3)
      have H4 := Lib.hid h4
      have H5 := Lib.hid h5
      have HV3 := Lib.hid hv3
      clear h3 h4 h5 hb3 hv3 hc2
      go_wp2
      go_ret
      refine ⟨by rw [Hhh.out]; rfl, _, Ln, ⟨HS3.out.hb, HSF.out.1, HSF.out.2, (fun h => absurd HLl.out (by rw [h]; simp)), HV3.out, HLg.out⟩, fun m => has_add HLk.out m, Nat.le_of_eq HLl.out, ?_, ?_⟩
      · refine ⟨H4.out.os.trans HB2.out.os, H4.out.tape.trans HB2.out.tape, H4.out.output.trans HB2.out.output, ?_, fun q hq hqg hqv => ?_⟩
        · have := H4.out.size
          have := HB2.out.size
          simp at *
          omega
        · have hq2 : q < w2.heap.size := Nat.lt_of_lt_of_le hq HB2.out.size
          rw [setCell_other _ _ _ _ _ hqg, H4.out.block q (by simp; omega) hqv, heap_alloc_old w2 _ hq2, HB2.out.block q hq]
      · rcases H5.out with h5 | ⟨q, h5, h6⟩
        · exact .inl h5
        · exact .inr ⟨q, h5, by have := HB2.out.size; simp at h6; omega⟩
    · obtain ⟨hr, hLr⟩ := HAt.out.there HS2.out.good hz
      have hne0 : ((look L (n / 64) : Int) != 0) = true := by simp; exact hz
      have hlo64 : look L (n / 64) < 18446744073709551616 := hlk
      have hor : bits .or .u64 (look L (n / 64) : Int) (bt : Int) = ((look L (n / 64) ||| bt : Nat) : Int) := u64_or_nat _ _ hlo64 hbt64
      rcases HS2.out.own.2 with ⟨hv, hn0⟩ | ⟨q, cap, cur, hv, hbq, hq, hcap, hcm, hcs, htk⟩
      · omega
      injection hv with hA _ hcc
      subst hA hcc
      have hqg : q ≠ g := fun e => HS2.out.ne (by rw [e]; rfl)
      have hfr : w2.frozen? ⟨q, r * 2 + 1, none⟩ = false := by simp [World.frozen?, hq]
      have hcq : w2.cell? ⟨q, r * 2 + 1, none⟩ = some (.int .u64 (look L (n / 64) : Int)) := by
        have hf := (flat_get L r hr).2
        rw [← htk, List.getElem?_take_of_lt (by omega), Array.getElem?_toList] at hf
        rw [cell_of_row w2 q _ cur 57 (0, 0) hq, hf]
        simp [List.getD, hr, hLr]
      have hnz : look L (n / 64) ||| bt ≠ 0 := by
        intro e
        have := Nat.or_eq_zero_iff.1 e
        omega
      have hlt64 : look L (n / 64) ||| bt < two64 := Nat.or_lt_two_pow (n := 64) hlo64 hbt64
      have HLg := Lib.hid (good_set HS2.out.good hr (by rw [hLr]) (Nat.pos_of_ne_zero hnz) hlt64)
      have HLk : Hid (∀ q, look (L.set r (n / 64, look L (n / 64) ||| bt)) q = if q = n / 64 then look L (n / 64) ||| 2 ^ (n % 64).toNat else look L q) := fun q => by
        rw [look_set HS2.out.good hr (by rw [hLr]) q, HBT.out]
      have hset : ((w2.setCell ⟨q, r * 2 + 1, none⟩ (.int .u64 ((look L (n / 64) ||| bt : Nat) : Int))).heap[q]? = some (.cells (cur.setIfInBounds (r * 2 + 1) (.int .u64 ((look L (n / 64) ||| bt : Nat) : Int))) 57 (0, 0))) := by
        simp [World.setCell, Array.getElem?_modify, hq]
      have hfs : flat (L.set r (n / 64, look L (n / 64) ||| bt)) = (flat L).set (r * 2 + 1) (.int .u64 ((look L (n / 64) ||| bt : Nat) : Int)) := flat_set L r hr _ (by rw [hLr])
      have HN : Hid (SetAt (w2.setCell ⟨q, r * 2 + 1, none⟩ (.int .u64 ((look L (n / 64) ||| bt : Nat) : Int))) base g (.slice (some ⟨q, 0, none⟩) L.length c) (L.set r (n / 64, look L (n / 64) ||| bt))) := by
        refine ⟨HS2.out.hb, ?_, ⟨by rw [flat_length], (.inr ⟨q, c, _, by rw [List.length_set], hbq, hset, by rw [List.length_set]; exact hcap, hcm, by simp [hcs], ?_⟩)⟩, ?_, HS2.out.ne, HLg.out⟩
        · rw [setCell_other _ _ _ _ _ (fun e => hqg e.symm)]; exact HS2.out.blk
        · rw [List.length_set, hfs, ← htk]
          rw [Array.toList_setIfInBounds, List.take_set]
        · intro e
          have := congrArg List.length e
          rw [List.length_set, List.length_nil] at this
          omega
      have HQ := Lib.hid hqg
      clear hLr hz hq htk hset hfs hnz hlt64 hcs hqg hlo64
      have hri : (r : Int) < (L.length : Int) := by omega
      generalize (look L (n / 64) ||| bt : Nat) = nb at *
      generalize (look L (n / 64) : Int) = lo at *
      go_wp2
      go_ret
      refine ⟨by rw [Hhh.out]; rfl, _, _, HN.out, fun m => has_add HLk.out m, by simp, ⟨HB2.out.os, HB2.out.tape, HB2.out.output, by have := HB2.out.size; simpa using this, fun k hk hkg hkv => ?_⟩, .inl rfl⟩
      rw [setCell_other _ _ _ _ _ (fun e => hkv (by rw [e]; rfl)), HB2.out.block k hk]
  · rw [hh] at hnb
    go_wp2
    go_ret
    refine ⟨by rw [hh]; rfl, _, L, HS2.out, fun m => ?_, by omega, touch_of_below _ _ HB2.out, .inl rfl⟩
    by_cases e : m = n
    · subst e; rw [hh]; rfl
    · rw [decide_eq_false e, Bool.or_false]
end Go.Proofs.YtkkkglmjipnfaaaDoor
