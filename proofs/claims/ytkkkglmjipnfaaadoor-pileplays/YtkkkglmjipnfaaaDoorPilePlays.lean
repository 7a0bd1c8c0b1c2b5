/-
  PilePlays (tied card): for any slice of acts the law returns true and leaves its argument as it was: sets that numbers come into, that take all of one another and are copied have just the numbers that lists of truths say. Conditions: the library's table math/bits.deBruijn64tab holds what the program's text lays (the card ties it).
-/
import Derived.Test.YtkkkglmjipnfaaaDoorCards
import Derived.Test.YtkkkglmjipnfaaaDoorTie
import Derived.WalkKit
import Derived.Test.YtkkkglmjipnfaaaDoorRw
import Derived.Deep.DeepCutAuto
import Derived.Deep.CutBlock
import Derived.Deep.OwnRows
import Derived.Deep.SlicePairs
import Derived.ProofKit
import Derived.OpenShut
import Derived.ShutString
import Derived.ChangeOld
import Derived.Below
import Derived.Deep.DeepHandedRow
import Derived.Lib.LaidTab
import Derived.LaidSub
namespace Go.Proofs.YtkkkglmjipnfaaaDoor.pilePlays
open Go.ChangeShapes Go.WideShapes Go.ChangeAt Go.RowKit
open Go.ChangeMaps (open_string shut_string)
set_option linter.unusedVariables false

theorem own : ownKnob Tryd.prog.godebug = none := by kernel_rfl
theorem laidOut : laidOutB Tryd.prog = true := by kernel_rfl
theorem gTab : Tryd.prog.globalNamed "math/bits.deBruijn64tab" = some 0 := by kernel_rfl
theorem gTabType : (Tryd.prog.globals[0]?).map (·.type) = some 74 := by kernel_rfl
theorem tab_of {W : World} (h : laidMetH Tryd.prog Rows.pilePlaysRow.laid W) : Tab W := fun i hi => by
  have ht : Lib.TabIs Tryd.prog W "math/bits.deBruijn64tab" .u8 (Lib.deBruijn64tab.map (fun x : Nat => (x : Int))) :=
    Lib.tabIs_of_head (rest := []) gTab gTabType Tryd.underlying74 Tryd.underlying5 (by kernel_rfl) (by kernel_rfl) (laidMetH.filter (fun x => x.1 == "math/bits.deBruijn64tab") h)
  have hl : Lib.deBruijn64tab.length = 64 := rfl
  rw [ht.cell gTab i (by rw [List.length_map, hl]; exact hi)]
  have hi2 : i < Lib.deBruijn64tab.length := hi
  simp [List.getD, hi2]
/-- Acts in a row. -/
def AR (w : World) (A : Option Addr) (l : List (Nat × Int)) : Prop := 0 < l.length → ∃ b o, A = some ⟨b, o, none⟩ ∧ ∀ i, i < l.length → w.cell? ⟨b, o + i * 2, none⟩ = some (.int .u8 ((l.getD i (0, 0)).1 : Int)) ∧ w.cell? ⟨b, o + i * 2 + 1, none⟩ = some (.int .i64 (l.getD i (0, 0)).2)
theorem AR.old {w w' : World} {A : Option Addr} {l : List (Nat × Int)} (h : AR w A l) (hb : Below w.heap.size w w') : AR w' A l := fun hp => by
  obtain ⟨b, o, rfl, hc⟩ := h hp
  refine ⟨b, o, rfl, fun k hk => ⟨?_, ?_⟩⟩
  · exact (World.cell?_of_block (hb.block b (World.block_lt_of_cell? w ⟨b, o + k * 2, none⟩ (hc k hk).1))).trans (hc k hk).1
  · exact (World.cell?_of_block (hb.block b (World.block_lt_of_cell? w ⟨b, o + k * 2, none⟩ (hc k hk).1))).trans (hc k hk).2
theorem len_all {L : Bks} (hg : Good L) : L.length ≤ (allF L).length := by
  induction L with
  | nil => simp
  | cons p L ih =>
    have h1 := ih hg.tail
    have hp := hg.2 p (by simp)
    obtain ⟨i, hi⟩ := Nat.exists_testBit_of_ne_zero (Nat.pos_iff_ne_zero.1 hp.2.2.1)
    have hi64 : i < 64 := by
      rcases Nat.lt_or_ge i 64 with h | h
      · exact h
      · have hq : two64 ≤ 2 ^ i := Nat.le_trans (show two64 ≤ 2 ^ 64 by decide) (Nat.pow_le_pow_right (by decide) h)
        rw [Nat.testBit_lt_two_pow (Nat.lt_of_lt_of_le hp.2.2.2 hq)] at hi
        cases hi
    have hm : p.1 * 64 + (i : Int) ∈ bnums p.1 p.2 := (mem_bnums _ _ _).2 ⟨by omega, by rw [show ((p.1 * 64 + (i : Int)) % 64).toNat = i from by omega]; exact hi⟩
    have h2 : 0 < (bnums p.1 p.2).length := List.length_pos_of_mem hm
    rw [show allF (p :: L) = bnums p.1 p.2 ++ allF L from by simp [allF]]
    simp
    omega
theorem is_small {L : Bks} {l : List Bool} (hg : Good L) (h : Is L l) : L.length ≤ 400 := by
  have h1 := len_all hg
  have h2 := is_len hg h
  have h3 := cntT_le l 400
  omega
theorem getD_set (l : List Bool) (n : Nat) (b : Bool) (i : Nat) (hn : n < l.length) : (l.set n b).getD i false = if i = n then b else l.getD i false := by
  simp only [List.getD, List.getElem?_set]
  by_cases e : n = i
  · subst e; simp [hn]
  · rw [if_neg e, if_neg (fun h => e h.symm)]
theorem Is.add {L L' : Bks} {l : List Bool} {n : Nat} (h : Is L l) (hn : n < 400) (hm : ∀ m, has L' m = (has L m || decide (m = (n : Int)))) : Is L' (l.set n true) := by
  refine ⟨by rw [List.length_set]; exact h.1, fun i hi => ?_, fun m hh => ?_⟩
  · rw [hm, h.2.1 i hi, getD_set l n true i (by rw [h.1]; exact hn)]
    by_cases e : i = n
    · subst e; simp
    · rw [if_neg e, decide_eq_false (by omega), Bool.or_false]
  · rw [hm] at hh
    simp only [Bool.or_eq_true, decide_eq_true_eq] at hh
    rcases hh with hh | hh
    · exact h.2.2 m hh
    · omega
/-- What the inner loop has done so far. -/
def Ored (la lb lk : List Bool) (k : Nat) : Prop := lk.length = 400 ∧ ∀ j, j < 400 → lk.getD j false = (la.getD j false || (decide (j < k) && lb.getD j false))
def moreT (la lb : List Bool) (k : Nat) : Bool := (List.range k).any fun j => lb.getD j false && !la.getD j false
theorem moreT_succ (la lb : List Bool) (k : Nat) : moreT la lb (k + 1) = (moreT la lb k || (lb.getD k false && !la.getD k false)) := by
  unfold moreT; rw [List.range_succ, List.any_append]; simp
theorem Ored.start {la lb : List Bool} (h : la.length = 400) : Ored la lb la 0 := ⟨h, fun j _ => by simp⟩
theorem Ored.step {la lb lk : List Bool} {k : Nat} (h : Ored la lb lk k) (hk : k < 400) : Ored la lb (lk.set k (la.getD k false || lb.getD k false)) (k + 1) := by
  refine ⟨by rw [List.length_set]; exact h.1, fun j hj => ?_⟩
  rw [getD_set lk k _ j (by rw [h.1]; exact hk)]
  by_cases e : j = k
  · subst e; rw [if_pos rfl, decide_eq_true (by omega), Bool.true_and]
  · rw [if_neg e, h.2 j hj]
    congr 2
    rw [decide_eq_decide]
    omega
theorem Ored.here {la lb lk : List Bool} {k : Nat} (h : Ored la lb lk k) (hk : k < 400) : lk.getD k false = la.getD k false := by rw [h.2 k hk]; simp
theorem Is.join {S T : Bks} {la lb lk : List Bool} (hS : Good S) (hT : Good T) (h1 : Is S la) (h2 : Is T lb) (h : Ored la lb lk 400) : Is (joinF S T) lk := by
  refine ⟨h.1, fun i hi => ?_, fun n hn => ?_⟩
  · rw [has_joinF hS hT, h1.2.1 i hi, h2.2.1 i hi, h.2 i hi, decide_eq_true hi, Bool.true_and]
  · rw [has_joinF hS hT] at hn
    simp only [Bool.or_eq_true] at hn
    rcases hn with hn | hn
    · exact h1.2.2 n hn
    · exact h2.2.2 n hn
theorem Is.lack {S T : Bks} {la lb : List Bool} (hS : Good S) (hT : Good T) (h1 : Is S la) (h2 : Is T lb) : lackF S T = moreT la lb 400 := by
  rw [Bool.eq_iff_iff, lackF_iff hT]
  unfold moreT
  rw [List.any_eq_true]
  constructor
  · rintro ⟨n, ha, hb⟩
    obtain ⟨n0, n1⟩ := h2.2.2 n ha
    have e1 := h2.2.1 n.toNat (by omega)
    have e2 := h1.2.1 n.toNat (by omega)
    rw [show ((n.toNat : Nat) : Int) = n from by omega] at e1 e2
    exact ⟨n.toNat, List.mem_range.2 (by omega), by rw [← e1, ← e2, ha, hb]; rfl⟩
  · rintro ⟨i, hi, hb⟩
    have hi2 := List.mem_range.1 hi
    rw [← h2.2.1 i hi2, ← h1.2.1 i hi2] at hb
    simp only [Bool.and_eq_true, Bool.not_eq_true'] at hb
    exact ⟨i, hb.1, hb.2⟩
def sameT (la lb : List Bool) (k : Nat) : Bool := (List.range k).all fun j => la.getD j false == lb.getD j false
theorem sameT_succ (la lb : List Bool) (k : Nat) : sameT la lb (k + 1) = (sameT la lb k && (la.getD k false == lb.getD k false)) := by
  unfold sameT; rw [List.range_succ, List.all_append]; simp
theorem Is.same {S T : Bks} {la lb : List Bool} (hS : Good S) (hT : Good T) (h1 : Is S la) (h2 : Is T lb) : decide (S = T) = sameT la lb 400 := by
  rw [Bool.eq_iff_iff, decide_eq_true_eq]
  unfold sameT
  rw [List.all_eq_true]
  constructor
  · intro e i hi
    subst e
    rw [← h1.2.1 i (List.mem_range.1 hi), ← h2.2.1 i (List.mem_range.1 hi)]
    simp
  · intro h
    refine has_ext hS hT fun n => ?_
    by_cases hn : 0 ≤ n ∧ n < 400
    · have e1 := h1.2.1 n.toNat (by omega)
      have e2 := h2.2.1 n.toNat (by omega)
      rw [show ((n.toNat : Nat) : Int) = n from by omega] at e1 e2
      rw [e1, e2]
      simpa using h n.toNat (List.mem_range.2 (by omega))
    · cases a : has S n <;> cases b : has T n
      · rfl
      · exact absurd (h2.2.2 n b) hn
      · exact absurd (h1.2.2 n a) hn
      · rfl
/-- What is left so far. -/
def Lefted (la lb lk : List Bool) (k : Nat) : Prop := lk.length = 400 ∧ ∀ j, j < 400 → lk.getD j false = (decide (j < k) && (la.getD j false && !lb.getD j false))
theorem Lefted.step {la lb lk : List Bool} {k : Nat} (h : Lefted la lb lk k) (hk : k < 400) : Lefted la lb (lk.set k (la.getD k false && !lb.getD k false)) (k + 1) := by
  refine ⟨by rw [List.length_set]; exact h.1, fun j hj => ?_⟩
  rw [getD_set lk k _ j (by rw [h.1]; exact hk)]
  by_cases e : j = k
  · subst e; rw [if_pos rfl, decide_eq_true (by omega), Bool.true_and]
  · rw [if_neg e, h.2 j hj]
    congr 1
    rw [decide_eq_decide]
    omega
theorem Is.less {S T : Bks} {la lb lk : List Bool} (hS : Good S) (hT : Good T) (h1 : Is S la) (h2 : Is T lb) (h : Lefted la lb lk 400) : Is (lessF T S) lk := by
  refine ⟨h.1, fun i hi => ?_, fun n hn => ?_⟩
  · rw [has_lessF hS, h1.2.1 i hi, h2.2.1 i hi, h.2 i hi, decide_eq_true hi, Bool.true_and]
  · rw [has_lessF hS] at hn
    simp only [Bool.and_eq_true] at hn
    exact h1.2.2 n hn.1
theorem rep_get (n i : Nat) : (List.replicate n false).getD i false = false := by
  by_cases h : i < n
  · simp [List.getD, h]
  · simp [List.getD, h]
def zeroT (n : Nat) : List Bool := List.replicate n false
theorem is_nil : Is [] (zeroT 400) := ⟨List.length_replicate, fun i hi => by rw [zeroT, rep_get]; simp [has, look], fun n h => by simp [has, look] at h⟩
theorem left_nil (la lb : List Bool) : Lefted la lb (zeroT 400) 0 := ⟨List.length_replicate, fun j hj => by rw [zeroT, rep_get]; simp⟩
theorem key_same {S T : Bks} (hS : Good S) (hT : Good T) : ((str (kF S)).toList == (str (kF T)).toList) = decide (S = T) := by
  rw [str_beq _ _ (kF_lt S) (kF_lt T), decide_eq_decide]
  exact ⟨fun h => kF_inj hS hT h, fun h => by rw [h]⟩

theorem made_zero (n : Nat) : madeCells #[.bool false] n = ((zeroT n).map Value.bool).toArray := by
  apply Array.ext'
  simp only [madeCells, zeroT]
  simp [Nat.mod_one, List.eq_replicate_iff]
theorem alloc_size (w : World) (o : Obj) : (w.alloc o).heap.size = w.heap.size + 1 := by simp
theorem info4 : (Tryd.prog.info? 4).map (fun i => (i.zero, i.size, i.bytes)) = some (some (.bool false), 1, 1) := by kernel_rfl
theorem make_row (w : World) : (Instr.makeSlice 28 (.int .i64 400) (.int .i64 400)).run Tryd.prog w = .ok (.slice (some ⟨w.heap.size, 0, none⟩) 400 400) (w.alloc (.cells ((zeroT 400).map Value.bool).toArray 4)) := by
  rw [← made_zero]
  exact run_make_row' 28 4 (.bool false) 1 Tryd.underlying28 info4 rfl .i64 .i64 400 (by omega) (by omega) w

set_option maxRecDepth 20000 in
set_option maxHeartbeats 4000000 in
theorem walkP (A : Option Addr) (c : Nat) (l : List (Nat × Int)) (w : World) (hT : Tab w) (h1 : AR w A l) (x1 : ∀ x ∈ l, x.1 < 256 ∧ -9223372036854775808 ≤ x.2 ∧ x.2 ≤ 9223372036854775807) (hl1 : l.length ≤ 50) :
    Calls Tryd.prog 3 #[.slice A l.length c] w fun e w' => e = .returned (.bool true) ∧ Below w.heap.size w w' := by
  have HT := Lib.hid hT
  have HU := Lib.hid h1
  have HX := Lib.hid x1
  have hmk := make_row
  clear hT h1 x1
  go_enter Tryd.func3, Tryd.ntmps3
  go_wp2_with fail
  refine (awake_any _ HT.out).mono ?_
  rintro e w1 ⟨rfl, hb1⟩
  have s2 := ((St.zero hb1).fresh).fresh.swap
  rw [show (w1.alloc (.cells #[.slice none 0 0] 27)).heap.size = w1.heap.size + 1 from by simp] at s2
  have s3 : SR w _ _ [] := ⟨s2, by simp, by simp, List.Pairwise.nil⟩
  have s4 := ((s3.rnew (zeroT 400)).rnew (zeroT 400)).rswap
  simp only [alloc_size] at s4
  have S4 := Lib.hid s4
  clear hb1 s2 s3 s4
  go_wp2_with fail
  obtain ⟨g1, hg1⟩ : ∃ g, g = w1.heap.size := ⟨_, rfl⟩
  obtain ⟨g2, hg2⟩ : ∃ g, g = w1.heap.size + 1 := ⟨_, rfl⟩
  obtain ⟨ra, hra⟩ : ∃ g, g = w1.heap.size + 1 + 1 := ⟨_, rfl⟩
  obtain ⟨rb, hrb⟩ : ∃ g, g = w1.heap.size + 1 + 1 + 1 := ⟨_, rfl⟩
  rw [← hrb, ← hra, ← hg2, ← hg1] at S4
  rw [← hrb, ← hra, ← hg2, ← hg1]
  generalize (((w1.alloc (.cells #[.slice none 0 0] 27)).alloc (.cells #[.slice none 0 0] 27)).alloc (.cells ((zeroT 400).map Value.bool).toArray 4)).alloc (.cells ((zeroT 400).map Value.bool).toArray 4) = w2 at S4 ⊢
  clear hg1 hg2 hra hrb
  go_loopw [3, 7] (fun s3 i wr => ∃ k : Nat, k ≤ l.length ∧ i = .int .i64 (k : Int) ∧ ∃ g, s3 = .pointer (some ⟨g, 0, none⟩) ∧ Hid (∃ vs S vt T la lb, SR w wr [(g, vs, S), (g2, vt, T)] [(ra, la), (rb, lb)] ∧ Is S la ∧ Is T lb)) (fun _ i _ => l.length - (intOf i).toNat)
  case atStart => exact ⟨0, Nat.zero_le _, rfl, g1, rfl, _, [], _, [], _, _, S4.out, is_nil, is_nil⟩
  case round =>
    obtain ⟨k, hk, rfl, g, rfl, hR⟩ := hrel
    obtain ⟨vs, S, vt, T, la, lb, sr, hIa, hIb⟩ := hR.out
    have SR0 := Lib.hid sr
    have IA := Lib.hid hIa
    have IB := Lib.hid hIb
    have GS : Hid (Good S) := (sr.st.set (g, vs, S) (by simp)).good
    have GT : Hid (Good T) := (sr.st.set (g2, vt, T) (by simp)).good
    have hSl := is_small GS.out hIa
    have hTl := is_small GT.out hIb
    clear sr hIa hIb hR S4
    by_cases hlt : k < l.length
    · obtain ⟨b, o, rfl, hc⟩ := (HU.out.old SR0.out.st.below) (by omega)
      obtain ⟨c1, c2⟩ := hc k hlt
      have hmem : l.getD k (0, 0) ∈ l := by simp [hlt]
      have hxk := HX.out _ hmem
      generalize l.getD k (0, 0) = q at *
      obtain ⟨kk, N⟩ := q
      simp only at c1 c2 hxk
      clear hc hmem
      have hk256 := hxk.1
      have HXK := Lib.hid hxk.2
      clear hxk
      have hk9 : ((kk : Int).tmod 9) = ((kk % 9 : Nat) : Int) := by rw [Int.tmod_eq_emod_of_nonneg (by omega)]; omega
      have hm9 : kk % 9 < 9 := Nat.mod_lt _ (by decide)
      generalize kk % 9 = m at *
      have hki : (k : Int) < (l.length : Int) := by omega
      go_wp2_with fail
      refine (near_any N _ HXK.out.1 HXK.out.2).mono ?_
      rintro e w' ⟨rfl, rfl⟩
      have hnf := nearF_lt N
      generalize nearF N = n at *
      go_upto_block 2 with (fail)
      go_cut [3] (fun s3 wx => ∃ g', s3 = .pointer (some ⟨g', 0, none⟩) ∧ Hid (∃ vs S vt T la lb, SR w wx [(g', vs, S), (g2, vt, T)] [(ra, la), (rb, lb)] ∧ Is S la ∧ Is T lb))
      case first =>
        have hcdA : ∀ x, x < 400 → wr.drew.cell? ⟨ra, x, none⟩ = some (.bool (la.getD x false)) := fun x hx => by rw [World.cell?_drew]; exact (SR0.out.row (ra, la) (by simp)).1.cell x (by rw [IA.out.1]; exact hx)
        have hcdB : ∀ x, x < 400 → wr.drew.cell? ⟨rb, x, none⟩ = some (.bool (lb.getD x false)) := fun x hx => by rw [World.cell?_drew]; exact (SR0.out.row (rb, lb) (by simp)).1.cell x (by rw [IB.out.1]; exact hx)
        have hni : (n : Int) < 400 := by omega
        by_cases h45 : m = 4 ∨ m = 5
        · have hc := hcdB n hnf
          have hhas := IB.out.2.1 n hnf
          have H12 : Hid (Calls Tryd.prog 12 #[.pointer (some ⟨g2, 0, none⟩), .int .i64 (n : Int)] wr.drew fun e w' => e = .returned (.bool (!lb.getD n false)) ∧ w'.cell? ⟨rb, n, none⟩ = some (.bool (lb.getD n false)) ∧ w'.frozen? ⟨rb, n, none⟩ = false ∧ Hid (∃ vs S vt T la lb, SR w (w'.setCell ⟨rb, n, none⟩ (.bool true)) [(g, vs, S), (g2, vt, T)] [(ra, la), (rb, lb)] ∧ Is S la ∧ Is T lb)) := by
            refine (sr_add (SR0.out.old (Below.refl _ _).drew).swap (by omega) n (by omega) (by omega)).mono ?_
            rintro e w' ⟨rfl, v', L', s', hm', _⟩
            have hrow := (s'.row (rb, lb) (by simp)).1
            exact ⟨by rw [hhas], hrow.cell n (by rw [IB.out.1]; exact hnf), hrow.free n, vs, S, v', L', la, _, ((s'.rswap.set n true).rswap).swap, IA.out, Is.add IB.out hnf hm'⟩
          clear hhas hcdA hcdB
          generalize lb.getD n false = x at *
          have hbb : ((!x) == x) = false := by cases x <;> rfl
          have h4b : ((m : Int) == 4) = decide (m = 4) := by by_cases h : m = 4 <;> simp [h] <;> omega
          rcases h45 with rfl | rfl
          · as_aux_lemma =>
              go_upto_region 17 with (fail)
              go_region_law (first | (go_simp; go_at_call 12; refine H12.out.mono ?_; rintro e w5 ⟨rfl, hc5, hf5, hs5⟩))
              all_goals
                go_wp2_with fail
                go_meet
                case rel => exact ⟨g, rfl, hs5⟩
          · as_aux_lemma =>
              go_upto_region 17 with (fail)
              go_region_law (first | (go_simp; go_at_call 12; refine H12.out.mono ?_; rintro e w5 ⟨rfl, hc5, hf5, hs5⟩))
              all_goals
                go_wp2_with fail
                go_meet
                case rel => exact ⟨g, rfl, hs5⟩
        · by_cases h8 : m = 8
          · as_aux_lemma =>
              subst h8
              clear hcdA hcdB
              obtain ⟨Ar, cr, _, hr, _, hnn⟩ := SR0.out.st.rd (f := (g, vs, S)) (by simp) (by simp only; omega)
              have HR := Lib.hid hr
              have HNN := Lib.hid hnn
              clear hr hnn
              go_wp2_with fail
              refine (copy_any _ _ _ _ _ HR.out HNN.out).mono ?_
              rintro e w5 ⟨g5, v5, rfl, hs5, hb5⟩
              have H5 := Lib.hid ((SR0.out.more hb5 hs5).swap.tail)
              clear hs5 hb5
              go_wp2_with fail
              go_meet
              case rel => exact ⟨g5, rfl, _, _, _, _, _, _, H5.out, IA.out, IB.out⟩
          · by_cases h6 : m = 6
            · as_aux_lemma =>
                subst h6
                clear hcdA hcdB h45 h8
                have s0 := SR0.out
                have SX := Lib.hid s0
                clear s0
                go_wp2_with fail
                go_loopw [13, 14] (fun s13 s14 wi => ∃ j : Nat, j ≤ 400 ∧ s14 = .int .i64 (j : Int) ∧ s13 = .bool (moreT la lb j) ∧ Hid (∃ lk, SR w wi [(g, vs, S), (g2, vt, T)] [(ra, lk), (rb, lb)] ∧ Ored la lb lk j)) (fun _ s14 _ => 400 - (intOf s14).toNat)
                case atStart => exact ⟨0, by omega, rfl, rfl, la, SX.out, Ored.start IA.out.1⟩
                case round =>
                  obtain ⟨j, hj, rfl, rfl, hR⟩ := hrel
                  obtain ⟨lk, srj, hO⟩ := hR.out
                  have SJ := Lib.hid srj
                  have OJ := Lib.hid hO
                  clear srj hO hR
                  by_cases hj4 : j < 400
                  · have cx := (SJ.out.row (ra, lk) (by simp)).1.cell j (by rw [OJ.out.1]; exact hj4)
                    have fx := (SJ.out.row (ra, lk) (by simp)).1.free j
                    have cy := (SJ.out.row (rb, lb) (by simp)).1.cell j (by rw [IB.out.1]; exact hj4)
                    simp only at cx fx cy
                    rw [OJ.out.here hj4] at cx
                    have SN : ∀ ob, ob = (la.getD j false || lb.getD j false) → Hid (∃ lk, SR w (wr.setCell ⟨ra, j, none⟩ (.bool ob)) [(g, vs, S), (g2, vt, T)] [(ra, lk), (rb, lb)] ∧ Ored la lb lk (j + 1)) := fun ob e => by
                      subst e
                      exact ⟨_, SJ.out.set j _, OJ.out.step hj4⟩
                    have HM := Lib.hid (moreT_succ la lb j)
                    generalize moreT la lb j = mo at *
                    generalize la.getD j false = xa at *
                    generalize lb.getD j false = yb at *
                    have hji : (j : Int) < 400 := by omega
                    cases mo <;> cases xa <;> cases yb
                    all_goals
                      go_wp2
                      go_roundw
                      case rel => exact ⟨j + 1, by omega, by go_num, by rw [HM.out]; rfl, SN _ rfl⟩
                      case measure => simp [intOf]; omega
                  · obtain rfl : j = 400 := by omega
                    have hlk := Is.lack GS.out GT.out IA.out IB.out
                    have HJI := Lib.hid (Is.join GS.out GT.out IA.out IB.out OJ.out)
                    rw [← hlk]
                    clear hlk
                    go_wp2_with fail
                    refine (sr_join SJ.out (f := (g2, vt, T)) (by simp) (by omega) (by simp only; omega)).mono ?_
                    rintro e w5 ⟨rfl, v5, s5⟩
                    simp only at s5
                    have S5 := Lib.hid s5
                    clear s5
                    simp only
                    generalize lackF S T = lf
                    have hbb : (lf != lf) = false := by simp
                    go_wp2_with fail
                    go_meet
                    case rel => exact ⟨g, rfl, _, _, _, _, _, _, S5.out, HJI.out, IB.out⟩
            · by_cases h7 : m = 7
              · as_aux_lemma =>
                  subst h7
                  clear h6
                  clear hcdA hcdB h45 h8
                  have s0 := SR0.out.swap.rswap
                  have SX := Lib.hid s0
                  clear s0
                  go_wp2_with fail
                  go_loopw [13, 14] (fun s13 s14 wi => ∃ j : Nat, j ≤ 400 ∧ s14 = .int .i64 (j : Int) ∧ s13 = .bool (moreT lb la j) ∧ Hid (∃ lk, SR w wi [(g2, vt, T), (g, vs, S)] [(rb, lk), (ra, la)] ∧ Ored lb la lk j)) (fun _ s14 _ => 400 - (intOf s14).toNat)
                  case atStart => exact ⟨0, by omega, rfl, rfl, lb, SX.out, Ored.start IB.out.1⟩
                  case round =>
                    obtain ⟨j, hj, rfl, rfl, hR⟩ := hrel
                    obtain ⟨lk, srj, hO⟩ := hR.out
                    have SJ := Lib.hid srj
                    have OJ := Lib.hid hO
                    clear srj hO hR
                    by_cases hj4 : j < 400
                    · have cx := (SJ.out.row (rb, lk) (by simp)).1.cell j (by rw [OJ.out.1]; exact hj4)
                      have fx := (SJ.out.row (rb, lk) (by simp)).1.free j
                      have cy := (SJ.out.row (ra, la) (by simp)).1.cell j (by rw [IA.out.1]; exact hj4)
                      simp only at cx fx cy
                      rw [OJ.out.here hj4] at cx
                      have SN : ∀ ob, ob = (lb.getD j false || la.getD j false) → Hid (∃ lk, SR w (wr.setCell ⟨rb, j, none⟩ (.bool ob)) [(g2, vt, T), (g, vs, S)] [(rb, lk), (ra, la)] ∧ Ored lb la lk (j + 1)) := fun ob e => by
                        subst e
                        exact ⟨_, SJ.out.set j _, OJ.out.step hj4⟩
                      have HM := Lib.hid (moreT_succ lb la j)
                      generalize moreT lb la j = mo at *
                      generalize lb.getD j false = xa at *
                      generalize la.getD j false = yb at *
                      have hji : (j : Int) < 400 := by omega
                      cases mo <;> cases xa <;> cases yb
                      all_goals
                        go_wp2
                        go_roundw
                        case rel => exact ⟨j + 1, by omega, by go_num, by rw [HM.out]; rfl, SN _ rfl⟩
                        case measure => simp [intOf]; omega
                    · obtain rfl : j = 400 := by omega
                      have hlk := Is.lack GT.out GS.out IB.out IA.out
                      have HJI := Lib.hid (Is.join GT.out GS.out IB.out IA.out OJ.out)
                      rw [← hlk]
                      clear hlk
                      go_wp2_with fail
                      refine (sr_join SJ.out (f := (g, vs, S)) (by simp) (by omega) (by simp only; omega)).mono ?_
                      rintro e w5 ⟨rfl, v5, s5⟩
                      simp only at s5
                      have S5 := Lib.hid s5
                      clear s5
                      simp only
                      generalize lackF T S = lf
                      have hbb : (lf != lf) = false := by simp
                      go_wp2_with fail
                      go_meet
                      case rel => exact ⟨g, rfl, _, _, _, _, _, _, S5.out.swap.rswap, IA.out, HJI.out⟩
              · as_aux_lemma =>
                  have e4 : ((m : Int) == 4) = false := by simp; omega
                  have e5 : ((m : Int) == 5) = false := by simp; omega
                  have e6 : ((m : Int) == 6) = false := by simp; omega
                  have e7 : ((m : Int) == 7) = false := by simp; omega
                  have e8 : ((m : Int) == 8) = false := by simp; omega
                  have hc := hcdA n hnf
                  have hhas := IA.out.2.1 n hnf
                  have H12 : Hid (Calls Tryd.prog 12 #[.pointer (some ⟨g, 0, none⟩), .int .i64 (n : Int)] wr.drew fun e w' => e = .returned (.bool (!la.getD n false)) ∧ w'.cell? ⟨ra, n, none⟩ = some (.bool (la.getD n false)) ∧ w'.frozen? ⟨ra, n, none⟩ = false ∧ Hid (∃ vs S vt T la lb, SR w (w'.setCell ⟨ra, n, none⟩ (.bool true)) [(g, vs, S), (g2, vt, T)] [(ra, la), (rb, lb)] ∧ Is S la ∧ Is T lb)) := by
                    refine (sr_add (SR0.out.old (Below.refl _ _).drew) (by omega) n (by omega) (by omega)).mono ?_
                    rintro e w' ⟨rfl, v', L', s', hm', _⟩
                    have hrow := (s'.row (ra, la) (by simp)).1
                    exact ⟨by rw [hhas], hrow.cell n (by rw [IA.out.1]; exact hnf), hrow.free n, v', L', vt, T, _, lb, s'.set n true, Is.add IA.out hnf hm', IB.out⟩
                  clear hhas hcdA hcdB h45 h8 h6 h7
                  generalize la.getD n false = x at *
                  have hbb : ((!x) == x) = false := by cases x <;> rfl
                  go_upto_region 12 with (fail)
                  go_region_law (first | (go_simp; go_at_call 12; refine H12.out.mono ?_; rintro e w5 ⟨rfl, hc5, hf5, hs5⟩))
                  all_goals
                    go_wp2_with fail
                    go_meet
                    case rel => exact ⟨g, rfl, hs5⟩
      case rest =>
        as_aux_lemma =>
          clear SR0 IA IB GS GT hSl hTl
          obtain ⟨g', rfl, hR⟩ := hcut
          obtain ⟨vs', S', vt', T', la', lb', sr, hIa, hIb⟩ := hR.out
          have SR0 := Lib.hid sr
          have IA := Lib.hid hIa
          have IB := Lib.hid hIb
          have GS : Hid (Good S') := (sr.st.set (g', vs', S') (by simp)).good
          have GT : Hid (Good T') := (sr.st.set (g2, vt', T') (by simp)).good
          have hSl := is_small GS.out hIa
          have hTl := is_small GT.out hIb
          have hll := lessF_len T' S'
          clear sr hIa hIb hR
          obtain ⟨Ar, cr, _, hr, _, _⟩ := SR0.out.st.rd (f := (g', vs', S')) (by simp) (by simp only; omega)
          have HR := Lib.hid hr
          clear hr
          go_wp2_with fail
          refine (is_any _ _ _ _ ra la' _ HR.out (SR0.out.row (ra, la') (by simp)).1 IA.out (by omega) (HT.out.old SR0.out.st.below)).mono ?_
          rintro e w5 ⟨rfl, hb5⟩
          have S5 := Lib.hid (SR0.out.old hb5)
          clear hb5 HR
          obtain ⟨Ar, cr, _, hr, _, _⟩ := S5.out.st.rd (f := (g2, vt', T')) (by simp) (by simp only; omega)
          have HR := Lib.hid hr
          clear hr
          go_wp2_with fail
          refine (is_any _ _ _ _ rb lb' _ HR.out (S5.out.row (rb, lb') (by simp)).1 IB.out (by omega) (HT.out.old S5.out.st.below)).mono ?_
          rintro e w6 ⟨rfl, hb6⟩
          have S6 := Lib.hid (S5.out.old hb6)
          clear hb6 HR S5 SR0
          have S7 := Lib.hid (S6.out.rnew (zeroT 400))
          go_wp2_with fail
          obtain ⟨rl, hrl⟩ : ∃ r, r = w6.heap.size := ⟨_, rfl⟩
          rw [← hrl] at S7
          rw [← hrl]
          generalize w6.alloc (.cells ((zeroT 400).map Value.bool).toArray 4) = w7 at S7 ⊢
          clear hrl S6
          go_loopw [15, 17] (fun s15 s17 wi => ∃ j : Nat, j ≤ 400 ∧ s17 = .int .i64 (j : Int) ∧ s15 = .bool (sameT la' lb' j) ∧ Hid (∃ lk, SR w wi [(g', vs', S'), (g2, vt', T')] [(rl, lk), (ra, la'), (rb, lb')] ∧ Lefted la' lb' lk j)) (fun _ s17 _ => 400 - (intOf s17).toNat)
          case atStart => exact ⟨0, by omega, rfl, rfl, _, S7.out, left_nil _ _⟩
          case round =>
            obtain ⟨j, hj, rfl, rfl, hR⟩ := hrel
            obtain ⟨lk, srj, hO⟩ := hR.out
            have SJ := Lib.hid srj
            have OJ := Lib.hid hO
            clear srj hO hR S7
            by_cases hj4 : j < 400
            · have cl := (SJ.out.row (rl, lk) (by simp)).1.cell j (by rw [OJ.out.1]; exact hj4)
              have fl := (SJ.out.row (rl, lk) (by simp)).1.free j
              have cx := (SJ.out.row (ra, la') (by simp)).1.cell j (by rw [IA.out.1]; exact hj4)
              have cy := (SJ.out.row (rb, lb') (by simp)).1.cell j (by rw [IB.out.1]; exact hj4)
              simp only at cx fl cy cl
              have SN : ∀ N ob, ob = (la'.getD j false && !lb'.getD j false) → Hid (∃ lk, SR w ((wr.drewN N).setCell ⟨rl, j, none⟩ (.bool ob)) [(g', vs', S'), (g2, vt', T')] [(rl, lk), (ra, la'), (rb, lb')] ∧ Lefted la' lb' lk (j + 1)) := fun N ob e => by
                subst e
                exact ⟨_, (SJ.out.old (below_drewN (Below.refl _ _) N)).set j _, OJ.out.step hj4⟩
              have HM := Lib.hid (sameT_succ la' lb' j)
              generalize sameT la' lb' j = sm at *
              generalize la'.getD j false = xa at *
              generalize lb'.getD j false = yb at *
              generalize lk.getD j false = zb at *
              have hji : (j : Int) < 400 := by omega
              cases sm <;> cases xa <;> cases yb
              all_goals
                go_upto_region 48 with (fail)
                go_quiet (fail)
                go_wp2
                go_roundw
                case rel => exact ⟨j + 1, by omega, by go_num, by rw [HM.out]; rfl, SN _ _ rfl⟩
                case measure => simp [intOf]; omega
            · obtain rfl : j = 400 := by omega
              have hsm := Is.same GS.out GT.out IA.out IB.out
              have hks := key_same GS.out GT.out
              have HLI := Lib.hid (Is.less GS.out GT.out IA.out IB.out OJ.out)
              rw [← hsm]
              clear hsm
              go_wp2_with fail
              obtain ⟨A1, d1, _, r1, _, _⟩ := SJ.out.st.rd (f := (g', vs', S')) (by simp) (by simp only; omega)
              obtain ⟨A2, d2, _, r2, _, _⟩ := SJ.out.st.rd (f := (g2, vt', T')) (by simp) (by simp only; omega)
              refine (same_any _ _ _ _ _ _ _ _ _ r1 r2).mono ?_
              rintro e w8 ⟨rfl, hb8⟩
              have S8 := Lib.hid (SJ.out.old hb8)
              clear hb8 r1 r2
              simp only
              generalize decide (S' = T') = sm at *
              have hbb : (sm != sm) = false := by simp
              go_wp2_with fail
              obtain ⟨A1, d1, _, r1, _, _⟩ := S8.out.st.rd (f := (g', vs', S')) (by simp) (by simp only; omega)
              refine (key_any _ _ _ _ _ r1 (by simp only; omega)).mono ?_
              rintro e w9 ⟨rfl, hb9⟩
              have S9 := Lib.hid (S8.out.old hb9)
              clear hb9 r1
              go_wp2_with fail
              obtain ⟨A1, d1, _, r1, _, _⟩ := S9.out.st.rd (f := (g2, vt', T')) (by simp) (by simp only; omega)
              refine (key_any _ _ _ _ _ r1 (by simp only; omega)).mono ?_
              rintro e w10 ⟨rfl, hb10⟩
              have S10 := Lib.hid (S9.out.old hb10)
              clear hb10 r1
              simp only
              generalize str (kF S') = k1 at *
              generalize str (kF T') = k2 at *
              go_wp2_with fail
              obtain ⟨A1, d1, _, r1, _, _⟩ := S10.out.st.rd (f := (g', vs', S')) (by simp) (by simp only; omega)
              obtain ⟨A2, d2, _, r2, m2, _⟩ := S10.out.st.rd (f := (g2, vt', T')) (by simp) (by simp only; omega)
              refine (less_any _ _ _ _ _ _ _ _ _ r1 r2 (by simp only; omega) (by simp only; omega) m2).mono ?_
              rintro e w11 ⟨g11, v11, rfl, hs11, hb11⟩
              have S11 := Lib.hid (S10.out.more hb11 hs11)
              clear hs11 hb11 r1 r2 m2
              simp only at S11
              go_wp2_with fail
              obtain ⟨A1, d1, _, r1, _, _⟩ := S11.out.st.rd (f := (g11, v11, lessF T' S')) (by simp) (by simp only; omega)
              refine (is_any _ _ _ _ rl lk _ r1 (S11.out.row (rl, lk) (by simp)).1 HLI.out (by simp only; omega) (HT.out.old S11.out.st.below)).mono ?_
              rintro e w12 ⟨rfl, hb12⟩
              have S12 := Lib.hid ((S11.out.old hb12).tail.rtail)
              clear hb12 r1
              go_wp2
              go_roundw
              case rel => exact ⟨k + 1, by omega, by go_num, g', rfl, _, _, _, _, _, _, S12.out, IA.out, IB.out⟩
              case measure => simp [intOf]; omega
    · obtain rfl : k = l.length := by omega
      go_wp2
      go_ret
      exact ⟨rfl, SR0.out.st.below⟩

set_option maxRecDepth 20000 in
set_option maxHeartbeats 1000000 in
theorem walk (a0 : Option Addr) (l : List (Nat × Int)) (cap0 : Nat) (w : World) (w0 : AR w a0 l) (x1 : ∀ x ∈ l, x.1 < 256 ∧ -9223372036854775808 ≤ x.2 ∧ x.2 ≤ 9223372036854775807) (m1 : l.length ≤ 9223372036854775807) (hT : Tab w) :
    Calls Tryd.prog 3 #[.slice a0 l.length cap0] w fun e w' => e = .returned (.bool true) ∧ Below w.heap.size w w' := by
  by_cases hl : l.length ≤ 50
  · exact walkP a0 cap0 l w hT w0 x1 hl
  · have HT := Lib.hid hT
    clear w0 x1 hT
    obtain ⟨n1, hn1⟩ : ∃ n, n = l.length := ⟨_, rfl⟩
    rw [← hn1] at hl m1 ⊢
    clear hn1
    have h2 : 50 < n1 := by omega
    go_enter Tryd.func3, Tryd.ntmps3
    go_wp2_with fail
    refine (awake_any _ HT.out).mono ?_
    rintro e w1 ⟨rfl, hb1⟩
    have HB1 := Lib.hid hb1
    have HT1 := Lib.hid (HT.out.old hb1)
    clear hb1 HT
    go_wp2_with fail
    refine (awake_any _ HT1.out).mono ?_
    rintro e w2 ⟨rfl, hb2⟩
    have HB2 := Lib.hid (HB1.out.trans (hb2.mono HB1.out.size))
    clear hb2
    go_wp2
    go_ret
    exact ⟨rfl, HB2.out⟩

theorem contract (H : Type) (enc : TypeId × Value → H) (W : World) (base : Nat) (args : Array Value) (ds gs : List (DataW H)) (before : List MemPlace)
    (hval : ∀ (j : Nat) t v, Tryd.f3.params[j]? = some t → args[j]? = some v → Value.okWide Tryd.prog W .any base t v)
    (hW : DataW.Whole enc Tryd.prog Tryd.f3.params.toList Rows.pilePlaysSpec.vars false W args.toList ds gs before) (hL : laidMetH Tryd.prog Rows.pilePlaysRow.laid W) :
    Calls Tryd.prog 3 args W fun e W' => ∃ v, e = .returned v ∧ Rows.pilePlaysSpec.post enc Tryd.prog Tryd.f3 false true false false W args v W' := by
  have hW' := hW
  obtain ⟨p, q, hA0, hV, rfl, hfz, hnd⟩ := hW
  have hA : DataW.TrodAll enc Tryd.prog W 0 (fun _ => true) true Tryd.f3.params.toList args.toList ds p := hA0
  rw [Tryd.params3] at hA hval
  obtain ⟨v0, vs0, d0, ds0, p0, q0, hargs, rfl, rfl, h0, r0⟩ := trodAll_cons hA
  obtain ⟨rfl, rfl, rfl⟩ := trodAll_nil r0
  obtain rfl : args = #[v0] := by cases args; simp_all
  obtain ⟨rfl, rfl⟩ := trodVars_none hV
  obtain ⟨a0, len0, cap0, rfl⟩ := okWide_slice Tryd.underlying22 (hval 0 22 v0 rfl rfl)
  have k0 := h0
  have lt0 : ∀ x ∈ p0, x.block < W.heap.size := by obtain ⟨m, hm⟩ := k0; exact DataW.trod_lt m _ _ _ hm
  obtain ⟨l, hll, w0, wx, wm⟩ : ∃ l : List (Nat × Int), l.length = len0 ∧ AR W a0 l ∧ (∀ x ∈ l, x.1 < 256 ∧ -9223372036854775808 ≤ x.2 ∧ x.2 ≤ 9223372036854775807) ∧ len0 ≤ 9223372036854775807 := by
    obtain ⟨fuel, hf⟩ := h0
    rcases Go.Deep.open_slice_pairs Tryd.underlying22 Tryd.underlying31 (by kernel_rfl) rfl rfl (by kernel_rfl) (by kernel_rfl) hf with ⟨hcs, _⟩ | ⟨x, len, cap, m, k, V0, V1, D0, D1, P0, P1, hcs, _, hl, hm, hmm, _, hall⟩
    · simp [Value.cells] at hcs
      obtain ⟨rfl, rfl, rfl⟩ := hcs
      exact ⟨[], rfl, fun h => by simp at h, by simp, by omega⟩
    · simp [Value.cells] at hcs
      obtain ⟨rfl, rfl, rfl⟩ := hcs
      have hlm : len0 ≤ m := by rw [hmm]; split <;> omega
      have each : ∀ i, i < len0 → ∃ q : Nat × Int, V0 i = .int .u8 (q.1 : Int) ∧ V1 i = .int .i64 q.2 ∧ q.1 < 256 ∧ -9223372036854775808 ≤ q.2 ∧ q.2 ≤ 9223372036854775807 := fun i hi => by
        obtain ⟨_, _, t0, t1⟩ := hall i (by omega)
        obtain ⟨y0, hy0, _, wy0⟩ := DataW.trod_int Tryd.underlying5 t0
        obtain ⟨y1, hy1, _, wy1⟩ := DataW.trod_int Tryd.underlying3 t1
        injection hy0 with hy0
        injection hy1 with hy1
        have b0 : 0 ≤ y0 ∧ y0 ≤ 255 := by simpa [Lit.wf, IntKind.min, IntKind.max, IntKind.bits, IntKind.signed] using wy0
        have b1 := i64_of_wf wy1
        refine ⟨(y0.toNat, y1), ?_, hy1, by show y0.toNat < 256; omega, b1⟩
        rw [hy0]
        congr 1
        show y0 = ((y0.toNat : Nat) : Int)
        omega
      obtain ⟨q, hq⟩ := Go.Deep.choose_lt each
      refine ⟨(List.range len0).map q, by simp, fun hp => ?_, fun y hy => ?_, by unfold maxLen at hm; omega⟩
      · have hp' : 0 < len0 := by simpa using hp
        obtain ⟨b, off, spot⟩ := x
        have hspot : spot = none := by simpa [Addr.add] using World.cell?_spot (hall 0 (by omega)).1
        subst hspot
        refine ⟨b, off, rfl, fun i hi => ?_⟩
        have hi' : i < len0 := by simpa using hi
        obtain ⟨e0, e1, _, _⟩ := hall i (by omega)
        rw [Go.WideShapes.add_plain] at e0 e1
        have hg : ((List.range len0).map q).getD i (0, 0) = q i := by simp [List.getD, hi']
        rw [hg, ← (hq i hi').1, ← (hq i hi').2.1]
        exact ⟨e0, by rw [← e1, Nat.add_assoc]⟩
      · obtain ⟨i, hi, rfl⟩ := List.mem_map.1 hy
        exact (hq i (List.mem_range.1 hi)).2.2
  clear hA0
  subst hll
  refine (walk a0 l cap0 W w0 wx wm (tab_of hL)).mono fun e W' ⟨he, bel⟩ => ?_
  subst he
  exact ⟨_, rfl, _, _, _, [], _, [], hW', trodAll_mk1 (shut_bool Tryd.underlying4 _), (trodAll_cons_mk (Below.trod laidOut (by kernel_rfl) (of_decide_eq_true (by kernel_rfl)) k0 bel lt0) trodAll_mk0), rfl, bel.frame _, fun h => by cases h⟩


noncomputable def laidWorld (os : Os) : World :=
  { World.holding Tryd.prog os ⟨#[], #[], []⟩ with heap := ((World.holding Tryd.prog os ⟨#[], #[], []⟩).heap.modify 0 (fun o => match o with | .cells _ t frozen => .cells #[.int .u8 0, .int .u8 1, .int .u8 56, .int .u8 2, .int .u8 57, .int .u8 49, .int .u8 28, .int .u8 3, .int .u8 61, .int .u8 58, .int .u8 42, .int .u8 50, .int .u8 38, .int .u8 29, .int .u8 17, .int .u8 4, .int .u8 62, .int .u8 47, .int .u8 59, .int .u8 36, .int .u8 45, .int .u8 43, .int .u8 51, .int .u8 22, .int .u8 53, .int .u8 39, .int .u8 33, .int .u8 30, .int .u8 24, .int .u8 18, .int .u8 12, .int .u8 5, .int .u8 63, .int .u8 55, .int .u8 48, .int .u8 27, .int .u8 60, .int .u8 41, .int .u8 37, .int .u8 16, .int .u8 46, .int .u8 35, .int .u8 44, .int .u8 21, .int .u8 52, .int .u8 32, .int .u8 23, .int .u8 11, .int .u8 54, .int .u8 26, .int .u8 40, .int .u8 15, .int .u8 34, .int .u8 20, .int .u8 31, .int .u8 10, .int .u8 25, .int .u8 14, .int .u8 19, .int .u8 9, .int .u8 13, .int .u8 8, .int .u8 7, .int .u8 6] t frozen | o => o)) }
theorem laid_met (os : Os) : laidMet Tryd.prog Rows.pilePlaysRow.laid ((laidWorld os).forCall (fun _ _ => 0) ⟨#[], #[.slice none 0 0], []⟩).memory :=
  laidMet_of_run' 8 (by kernel_rfl) (by kernel_rfl)
theorem reads (os : Os) {H : Type} (enc : TypeId × Value → H) : ∃ places, DataW.whole enc Tryd.prog ((laidWorld os).forCall (fun _ _ => 0) ⟨#[], #[.slice none 0 0], []⟩).memory Tryd.f3.params.toList Rows.pilePlaysSpec.vars false (#[.slice none 0 0] : Array Value).toList 8 = some ([.nil], [], places) :=
  ⟨[], by kernel_rfl⟩

set_option maxRecDepth 100000 in
theorem lifted (os : Os) (started : os.Started) (H : Type) (enc : TypeId × Value → H) (F : Stop.Interp) :
    ReturnsInHanded {} Tryd.checked os 3 .any ((OpenSpec.ofChange Rows.pilePlaysSpec).preRow enc Tryd.prog Tryd.f3 Rows.pilePlaysRow.domain false Rows.pilePlaysRow.laid) (((OpenSpec.ofChange Rows.pilePlaysSpec).at F).post enc Tryd.prog Tryd.f3 false true false false) := by
  obtain ⟨places, hx⟩ := reads os enc
  refine returnsInHanded_of_row (C := Tryd.checked) (s := OpenSpec.ofChange Rows.pilePlaysSpec) own started (by kernel_rfl) Tryd.func3
    (witness_row_at (enc := enc) (C := Tryd.checked) false (laidWorld os) #[.slice none 0 0] rfl (by kernel_rfl) (by kernel_rfl) (by kernel_rfl)
      (OpenSpec.preRow_of_cond 8 hx (by kernel_rfl) (fun k hk => by cases hk) (by kernel_rfl) (laid_met os))) ?_
  intro W base args ds gs before hval hW _ _ _ hL _ _
  exact contract H enc W base args ds gs before hval hW hL

theorem said : Rows.PilePlaysSaid :=
  OpenClaim.holds_of_cond 3 Tryd.f3 rfl rfl rfl rfl rfl rfl rfl ⟨rfl, rfl, rfl, rfl, rfl⟩ rfl rfl rfl rfl rfl (by kernel_rfl) Tryd.func3 (by kernel_rfl)
    (of_decide_eq_true (by kernel_rfl)) (by unfold Func.isWrapper; first | (rw [if_pos (by decide +kernel)]; kernel_rfl) | (rw [if_neg (by decide +kernel)]; exact ⟨rfl, rfl⟩))
    (fun os started H enc _ F => by rw [OpenClaim.pre_eq_preRow]; exact lifted os started H enc F)

theorem plain (f : FuncId) (fn : Func) (hf : Tryd.pinned.checked.prog.funcNamed "weathervane/weathervanelaw03.PilePlays" = some f) (hfn : Tryd.pinned.checked.prog.funcs[f]? = some fn) :
    false = Tryd.pinned.checked.prog.looks [] ∧ ∀ (j : Nat) t, fn.params[j]? = some t → Tryd.pinned.checked.prog.wantsStandIn t = false := by
  obtain rfl : f = 3 := Option.some.inj ((show Tryd.prog.funcNamed "weathervane/weathervanelaw03.PilePlays" = some 3 by kernel_rfl).symm.trans hf) |>.symm
  obtain rfl : fn = Tryd.f3 := (Option.some.inj (Tryd.func3.symm.trans hfn)).symm
  refine ⟨by kernel_rfl, fun j t ht => ?_⟩
  rw [Tryd.params3] at ht
  have ht2 : t = 22 := by simpa using Array.mem_of_getElem? ht
  subst ht2
  exact (show Tryd.prog.wantsStandIn 22 = false by kernel_rfl)
end Go.Proofs.YtkkkglmjipnfaaaDoor.pilePlays
namespace Go.Proofs.YtkkkglmjipnfaaaDoor
theorem pilePlays_holds : Rows.PilePlaysCardSaid :=
  Claim7.holds_tied_plain_at .later [] _ _ _ _ pilePlays.said (fun _ h => by cases h) (by kernel_rfl) (fun _ h => by cases h) pilePlays_row_tie rfl ⟨rfl, rfl⟩ (by kernel_rfl) rfl pilePlays.plain (by kernel_rfl)
#print axioms pilePlays_holds
end Go.Proofs.YtkkkglmjipnfaaaDoor
