/-
  CoilTexts: for every slice of strings and every uint8 the law returns true and leaves its arguments as they were: strings that were written in a row are read again, and refused where they are longer than allowed. Conditions: none.
-/
import Derived.Test.YtcafanekckkdoaaRows
import Derived.WalkKit
import Derived.Test.YtcafanekckkdoaaStr
import Derived.Deep.CutRange
import Derived.Deep.RegionHeld3
import Derived.SliceStrings
import Derived.ProofKit
import Derived.OpenShut
import Derived.ShutString
import Derived.ChangeOld
import Derived.Below
namespace Go.Proofs.Ytcafanekckkdoaa.coilTexts
open Go.ChangeShapes Go.WideShapes Go.ChangeAt Go.RowKit
open Go.ChangeMaps (open_string shut_string)
set_option linter.unusedVariables false

theorem own : ownKnob Try.prog.godebug = none := by kernel_rfl
theorem laidOut : laidOutB Try.prog = true := by kernel_rfl

/-- WHAT THE WALK IS TOLD OF A SLICE OF STRINGS THAT CAME IN: where there is an element it leads to a row of their cells. -/
def Strs (w : World) (a : Option Addr) (ss : List ByteArray) : Prop :=
  0 < ss.length → ∃ b off, a = some ⟨b, off, none⟩ ∧ ∀ i, i < ss.length → w.cell? ⟨b, off + i, none⟩ = some (.string (ss.getD i ByteArray.empty))

theorem Strs.old {w w' : World} {a : Option Addr} {xs : List ByteArray} (h : Strs w a xs) (hb : Below w.heap.size w w') : Strs w' a xs := fun hp => by
  obtain ⟨b, off, e, hc⟩ := h hp
  exact ⟨b, off, e, fun i hi => (World.cell?_of_block (hb.block b (World.block_lt_of_cell? w ⟨b, off + i, none⟩ (hc i hi)))).trans (hc i hi)⟩

/-- Texts, one behind the other, each behind how many bytes it has. -/
def texts : List ByteArray → List Nat
  | [] => []
  | s :: l => put s.size ++ byts s ++ texts l
theorem texts_append (x y : List ByteArray) : texts (x ++ y) = texts x ++ texts y := by
  induction x with
  | nil => rfl
  | cons a x ih => simp [texts, ih]
theorem texts_snoc (x : List ByteArray) (s : ByteArray) : texts (x ++ [s]) = texts x ++ (put s.size ++ byts s) := by rw [texts_append]; simp [texts]
theorem texts_len (x : List ByteArray) (h : ∀ s ∈ x, s.size ≤ 200) : (texts x).length ≤ 210 * x.length := by
  induction x with
  | nil => simp [texts]
  | cons a x ih =>
    have h1 := ih (fun b hb => h b (by simp [hb]))
    have h3 := h a (by simp)
    have h2 := (put_len a.size (by omega)).2
    simp [texts, byts_len]; omega
theorem texts_bytes (x : List ByteArray) : ∀ c ∈ texts x, c < 256 := by
  induction x with
  | nil => simp [texts]
  | cons a x ih =>
    intro c hc
    simp only [texts, List.mem_append] at hc
    rcases hc with (hc | hc) | hc
    · exact put_bytes _ c hc
    · exact byts_lt _ c hc
    · exact ih c hc
theorem stake_snoc (xs : List ByteArray) (k : Nat) (h : k < xs.length) : xs.take (k + 1) = xs.take k ++ [xs.getD k ByteArray.empty] := by
  rw [List.take_succ_eq_append_getElem h]; simp [h]
theorem sdrop_cons (xs : List ByteArray) (k : Nat) (h : k < xs.length) : xs.drop k = xs.getD k ByteArray.empty :: xs.drop (k + 1) := by
  rw [List.drop_eq_getElem_cons h]; simp [h]
theorem bytes_text (s : ByteArray) (hs : s.size ≤ 200) (q : List Nat) (most : Nat) (h : s.size ≤ most) : bytesF (put s.size ++ byts s ++ q) most = (byts s, q, 0) := by
  unfold bytesF
  rw [List.append_assoc, num_put s.size (by omega) _ most h]
  have hl := byts_len s
  simp only [if_true]
  rw [if_neg (by simp; omega), List.take_append_of_le_length (by omega), List.take_of_length_le (by omega), List.drop_append_of_le_length (by omega), List.drop_of_length_le (by omega)]
  simp
theorem bytes_long (s : ByteArray) (hs : s.size ≤ 200) (q : List Nat) (most : Nat) (h : most < s.size) : bytesF (put s.size ++ byts s ++ q) most = ([], [], 5) := by
  unfold bytesF
  rw [List.append_assoc, num_long s.size (by omega) _ most h]
  simp

/-- Two slices of the call's own that share no block. -/
def Sep (u v : Value) : Prop := u.ownBlock = none ∨ u.ownBlock ≠ v.ownBlock
theorem Sep.added {u v v' : Value} {w : World} {base n : Nat} {xs : List Value} (h : Sep u v) (hu : w.ownsRow base 5 1 u n xs) (ha : v'.ownBlock = v.ownBlock ∨ ∃ g, v'.ownBlock = some g ∧ w.heap.size ≤ g) : Sep u v' := by
  rcases h with h | h
  · exact .inl h
  · rcases ha with e | ⟨g, e, hg⟩
    · exact .inr (by rw [e]; exact h)
    · refine .inr (fun e2 => ?_)
      rw [e] at e2
      have := (hu.lt g e2).2
      omega
theorem Sep.symm {u v : Value} (h : Sep u v) : Sep v u := by
  by_cases hv : v.ownBlock = none
  · exact .inl hv
  · rcases h with h | h
    · exact .inr (by rw [h]; exact hv)
    · exact .inr (fun e => h e.symm)

set_option maxRecDepth 20000 in
set_option maxHeartbeats 4000000 in
theorem walk_near (A : Option Addr) (ss : List ByteArray) (c : Nat) (most : Nat) (w : World) (hm : most < 256) (hx : Strs w A ss) (hl : ss.length ≤ 10) :
    Calls Try.prog 5 #[.slice A ss.length c, .int .u8 most] w fun e w' => e = .returned (.bool true) ∧ Below w.heap.size w w' := by
  obtain ⟨i0, hi0, hi1, hi2, hi3⟩ := info_parts info5
  have X := Lib.hid hx
  clear hx
  go_enter Try.func5, Try.ntmps5
  go_wp2_with fail
  refine (awake_any _).mono ?_
  rintro e w1 ⟨rfl, hb⟩
  have HB1 := Lib.hid hb
  clear hb
  go_wp2_with fail
  go_loopw [5, 6, 7] (fun p q i wr => ∃ k : Nat, k ≤ ss.length ∧ i = .int .i64 k ∧ Hid (∀ s ∈ ss.take k, s.size ≤ 200) ∧ Hid (wr.ownsRow w.heap.size 5 1 p (texts (ss.take k)).length ((texts (ss.take k)).map B)) ∧
      Hid (wr.ownsRow w.heap.size 5 1 q (texts (ss.take k)).length ((texts (ss.take k)).map B)) ∧ Hid (Sep p q) ∧ Hid (Below w.heap.size w wr)) (fun _ _ i _ => ss.length - (intOf i).toNat)
  case atStart => exact ⟨0, Nat.zero_le _, rfl, Lib.hid (by simp), World.ownsRow_nil _ _ _ _, World.ownsRow_nil _ _ _ _, Lib.hid (.inl rfl), HB1⟩
  case round =>
    obtain ⟨k, hk, rfl, hS, hP, hQ, hE, hB⟩ := hrel
    by_cases hlt : k < ss.length
    · obtain ⟨b, off, rfl, hc⟩ := X.out (by omega)
      have Hc := Lib.hid (hc k hlt)
      have hbw : b < w.heap.size := World.block_lt_of_cell? w ⟨b, off + k, none⟩ (hc k hlt)
      have Hts := Lib.hid (stake_snoc ss k hlt)
      clear hc
      generalize ss.getD k ByteArray.empty = s at *
      have hcell := (hB.out.cell (p := ⟨b, off + k, none⟩) hbw).trans Hc.out
      have hbl := texts_len (ss.take k) hS.out
      have hlen : (ss.take k).length ≤ 10 := by simp; omega
      by_cases hbig : 200 < s.size
      · go_wp2
        go_ret
        exact ⟨rfl, hB⟩
      · have hsz := put_len s.size (by omega)
        go_wp2_with fail
        refine (text_own _ _ _ (by omega) _ _ _ hP.out (by omega) hB.out.size).mono ?_
        rintro e w2 ⟨p2, rfl, hown2, hg2, hat2⟩
        have P2 : Hid (w2.ownsRow w.heap.size 5 1 p2 (texts (ss.take (k + 1))).length ((texts (ss.take (k + 1))).map B)) := by
          show w2.ownsRow _ _ _ _ _ _
          rw [Hts.out, texts_snoc, List.length_append, List.map_append]
          rw [List.length_map] at hown2
          exact hown2
        have HB2 := Lib.hid (hB.out.grown hg2 hB.out.size (fun j hj => (hP.out.lt j hj).1))
        have Q2 := Lib.hid (hQ.out.kept hg2 hE.out.symm)
        have E2 := Lib.hid (hE.out.symm.added hQ.out hat2)
        have hcell2 := (HB2.out.cell (p := ⟨b, off + k, none⟩) hbw).trans Hc.out
        clear hown2 hg2 hat2 hcell
        have hd2 : w2.drew.cell? ⟨b, off + k, none⟩ = some (.string s) := hcell2
        have Q2d : Hid (w2.drew.ownsRow w.heap.size 5 1 u6 (texts (ss.take k)).length ((texts (ss.take k)).map B)) := Q2.out
        have P2d : Hid (w2.drew.ownsRow w.heap.size 5 1 p2 (texts (ss.take (k + 1))).length ((texts (ss.take (k + 1))).map B)) := P2.out
        have HB2d : Hid (Below w.heap.size w w2.drew) := Lib.hid HB2.out.drew
        go_upto_region 10 with (fail)
        have hwr : IntKind.u64.wrap (s.size : Int) = (s.size : Int) := by rw [IntKind.wrap_u64]; omega
        go_region_held3 (fun W => W.cell? ⟨b, off + k, none⟩ = some (.string s))
          (first | exact hd2 | exact hd3 | exact hd4 | exact hd5)
          (first
          | (go_at_call 14; with_reducible refine (rput_shape _ _ (show s.size < 18446744073709551616 by omega)).mono ?_; rintro e w3 ⟨A3, c3, rfl, hown3, hb3⟩; have HB3 := Lib.hid (HB2d.out.trans (hb3.mono HB2d.out.size)); have Q3 := Lib.hid (own_old Q2d.out hb3); have P3 := Lib.hid (own_old P2d.out hb3); have S3 := Lib.hid (Reads.of_own hown3); have hd3 := (HB3.out.cell (p := ⟨b, off + k, none⟩) hbw).trans Hc.out; clear hown3 hb3)
          | (refine step_append_any _ rfl (.tmp 37) (.tmp 44) 22 rfl w.heap.size 5 i0 (.int .u8 0) 1 1 Try.underlying22 hi0 hi1 hi2 hi3 rfl (by decide) u6 _ _ rfl Q3.out w3.heap.size A3 (put s.size).length c3 ((put s.size).map B) rfl S3.out (B_one _) (by unfold maxLen; omega) (by omega) HB3.out.size ?_; intro q4 w4 hown4 hg4 hat4; have HB4 := Lib.hid (HB3.out.grown hg4 HB3.out.size (fun j hj => (Q3.out.lt j hj).1)); have P4 := Lib.hid (P3.out.kept hg4 E2.out.symm); have A4 := Lib.hid hat4; have Q4 := Lib.hid hown4; have G4 := Lib.hid hg4; have hd4 := (HB4.out.cell (p := ⟨b, off + k, none⟩) hbw).trans Hc.out; clear hown4 hg4 hat4)
          | (refine step_append_string _ rfl (.tmp 45) (.tmp 49) 22 9 rfl w.heap.size 5 i0 Try.underlying22 Try.underlying9 hi0 hi1 hi2 hi3 q4 _ _ rfl Q4.out s rfl (by unfold maxLen; omega) (by omega) HB4.out.size ?_; intro q5 w5 hown5 hg5 hat5; have HB5 := Lib.hid (HB4.out.grown hg5 HB4.out.size (fun j hj => (Q4.out.lt j hj).1)); have A5 := Lib.hid hat5; have Q5 := Lib.hid hown5; have G5 := Lib.hid hg5; have hd5 := (HB5.out.cell (p := ⟨b, off + k, none⟩) hbw).trans Hc.out; clear hown5 hg5 hat5))
        have E4 := E2.out.symm.added P3.out (A4.out.imp id fun h => ⟨_, h, Nat.le_refl _⟩)
        have P5 := P4.out.kept G5.out E4
        have E5 := E4.added P4.out (A5.out.imp id fun h => ⟨_, h, Nat.le_refl _⟩)
        have hS5 : ∀ t ∈ ss.take (k + 1), t.size ≤ 200 := by
          intro t ht
          rw [Hts.out, List.mem_append, List.mem_singleton] at ht
          rcases ht with ht | rfl
          · exact hS.out t ht
          · omega
        have Q5' : w5.ownsRow w.heap.size 5 1 q5 (texts (ss.take (k + 1))).length ((texts (ss.take (k + 1))).map B) := by
          have := Q5.out
          rw [byts_cells] at this
          rw [Hts.out, texts_snoc, List.length_append, List.length_append, byts_len, ← Nat.add_assoc, List.map_append, List.map_append, ← List.append_assoc]
          exact this
        have P5' := Lib.hid P5
        have E5' := Lib.hid E5
        have S5' := Lib.hid hS5
        have QQ5 := Lib.hid Q5'
        clear P5 E5 E4 hS5 Q5'
        go_wp2
        go_roundw
        case rel => exact ⟨k + 1, by omega, by go_num, S5', P5', QQ5, E5', HB5⟩
        case measure => simp [intOf]; omega
    · obtain rfl : k = ss.length := by omega
      have hP1 := hP.out
      have hQ1 := hQ.out
      have hS1 := hS.out
      rw [List.take_length] at hP1 hQ1 hS1
      have P1 := Lib.hid hP1
      have Q1 := Lib.hid hQ1
      have S1 := Lib.hid hS1
      have hbl := texts_len ss hS1
      clear hP hQ hS hP1 hQ1 hS1 hE
      go_wp2_with fail
      refine (new_own _ _ _ _ _ P1.out (by omega) (texts_bytes _)).mono ?_
      rintro e w2 ⟨g, rfl, hR, hb2, hg⟩
      have R2 := Lib.hid hR
      have HB2 := Lib.hid hb2
      have hgw := hg
      clear hR hb2 hg
      have hsame : ((str (texts ss)).toList == (str (texts ss)).toList) = true := by simp
      go_wp2_with fail
      go_loopw [9] (fun i w3 => ∃ k : Nat, k ≤ ss.length ∧ i = .int .i64 k ∧ Hid (Rdr w3 g (texts (ss.drop k)) 0) ∧ Hid (Below wr.heap.size wr w3)) (fun i _ => ss.length - (intOf i).toNat)
      case atStart => exact ⟨0, Nat.zero_le _, rfl, R2, HB2⟩
      case round =>
        obtain ⟨k, hk, rfl, hR, hD⟩ := hrel
        by_cases hlt : k < ss.length
        · obtain ⟨b, off, rfl, hc⟩ := X.out (by omega)
          have Hc := Lib.hid (hc k hlt)
          have hbw : b < w.heap.size := World.block_lt_of_cell? w ⟨b, off + k, none⟩ (hc k hlt)
          have Hdc := Lib.hid (sdrop_cons ss k hlt)
          have hsz := S1.out (ss.getD k ByteArray.empty) (by simp [hlt])
          clear hc
          generalize ss.getD k ByteArray.empty = s at *
          have hR1 := hR.out
          rw [Hdc.out] at hR1
          change Rdr _ g (put s.size ++ byts s ++ texts (ss.drop (k + 1))) 0 at hR1
          have hR' := Lib.hid hR1
          clear hR hR1
          by_cases hbig : most < s.size
          · have Hby := Lib.hid (bytes_long s hsz (texts (ss.drop (k + 1))) most hbig)
            go_wp2_with fail
            refine (bytes_any _ _ _ _ hR'.out (by omega)).mono ?_
            rw [Hby.out]
            rintro e w4 ⟨rfl, hR4, hg4⟩
            have R4 := Lib.hid hR4
            have HD4 := Lib.hid (hD.out.grown hg4 hD.out.size (fun j hj => by injection hj with hj; omega))
            have HB4 := Lib.hid (hB.out.trans (HD4.out.mono hB.out.size))
            have hcell := (HB4.out.cell (p := ⟨b, off + k, none⟩) hbw).trans Hc.out
            have hcp := conv_own (own_old P1.out HD4.out)
            have hcq := conv_own (own_old Q1.out HD4.out)
            clear hR4 hg4
            have hse : (str []).toList.isEmpty = true := by rw [str_toList]; rfl
            go_wp2_with fail
            refine (fault_any _ _ _ _ R4.out).mono ?_
            rintro e w5 ⟨rfl, rfl⟩
            go_wp2
            go_ret
            exact ⟨rfl, HB4⟩
          · have Hby := Lib.hid (bytes_text s hsz (texts (ss.drop (k + 1))) most (by omega))
            have hne : (s.toList != s.toList) = false := by simp
            go_wp2_with fail
            refine (bytes_any _ _ _ _ hR'.out (by omega)).mono ?_
            rw [Hby.out]
            rintro e w4 ⟨rfl, hR4, hg4⟩
            have R4 := Lib.hid hR4
            have HD4 := Lib.hid (hD.out.grown hg4 hD.out.size (fun j hj => by injection hj with hj; omega))
            have HB4 := Lib.hid (hB.out.trans (HD4.out.mono hB.out.size))
            have hcell := (HB4.out.cell (p := ⟨b, off + k, none⟩) hbw).trans Hc.out
            clear hR4 hg4
            simp only [str_byts]
            go_wp2
            go_roundw
            case rel => exact ⟨k + 1, by omega, by go_num, R4, HD4⟩
            case measure => simp [intOf]; omega
        · have hR1 := hR.out
          rw [List.drop_of_length_le (by omega)] at hR1
          change Rdr _ g [] 0 at hR1
          have hR' := Lib.hid hR1
          have hcp := conv_own (own_old P1.out hD.out)
          have hcq := conv_own (own_old Q1.out hD.out)
          have HB4 := Lib.hid (hB.out.trans (hD.out.mono hB.out.size))
          clear hR hR1
          go_wp2_with fail
          refine (end_any _ _ _ _ hR'.out).mono ?_
          rintro e w5 ⟨rfl, rfl⟩
          go_wp2
          go_ret
          exact ⟨rfl, HB4⟩

set_option maxHeartbeats 400000 in
theorem walk_far (A : Option Addr) (len c : Nat) (a1 : Int) (w : World) (h : 10 < len) :
    Calls Try.prog 5 #[.slice A len c, .int .u8 a1] w fun e w' => e = .returned (.bool true) ∧ Below w.heap.size w w' := by
  go_enter Try.func5, Try.ntmps5
  go_wp2_with fail
  refine (awake_any _).mono ?_
  rintro e w1 ⟨rfl, hb⟩
  have HB := Lib.hid hb
  clear hb
  go_wp2_with fail
  refine (awake_any _).mono ?_
  rintro e w2 ⟨rfl, hb⟩
  have HB2 := Lib.hid (HB.out.trans (hb.mono HB.out.size))
  clear hb
  go_wp2
  go_ret
  exact ⟨rfl, HB2.out⟩

theorem walk (a0 : Option Addr) (ss : List ByteArray) (cap0 : Nat) (a1 : Int) (w : World) (w0 : Strs w a0 ss) (w1 : (Lit.int .u8 a1).wf = true) :
    Calls Try.prog 5 #[.slice a0 ss.length cap0, .int .u8 a1] w fun e w' => e = .returned (.bool true) ∧ Below w.heap.size w w' := by
  have hb := bounds_u8 w1
  obtain ⟨n, rfl⟩ := Int.eq_ofNat_of_zero_le hb.1
  by_cases h : 10 < ss.length
  · exact walk_far _ _ _ _ _ h
  · exact walk_near _ ss _ n w (by omega) w0 (by omega)

set_option maxRecDepth 100000 in
theorem lifted (os : Os) (started : os.Started) (H : Type) (enc : TypeId × Value → H) :
    ReturnsInHanded {} Try.checked os 5 .any (Rows.coilTextsSpec.pre6 enc Try.prog Try.f5 Rows.coilTextsRow.domain false) (Rows.coilTextsSpec.post enc Try.prog Try.f5 false true false false) := by
  refine returnsInHanded_of_change (C := Try.checked) own started (by kernel_rfl) Try.func5
    (ChangeSpec.witness6 (enc := enc) (C := Try.checked) false ⟨#[], #[.slice none 0 0, .int .u8 0], []⟩ 8 (by kernel_rfl) (by kernel_rfl) (by kernel_rfl) (by kernel_rfl)) ?_
  intro W base args ds gs before hval0 hW hcnd _
  have hval : ∀ (j : Nat) t v, Try.f5.params[j]? = some t → args[j]? = some v → Value.okWide Try.prog W .any base t v := hval0
  have hW' := hW
  obtain ⟨p, q, hA0, hV, rfl, hfz, hnd⟩ := hW
  have hA : DataW.TrodAll enc Try.prog W 0 (fun _ => true) true Try.f5.params.toList args.toList ds p := hA0
  rw [Try.params5] at hA hval
  obtain ⟨v0, vs0, d0, ds0, p0, q0, hargs, rfl, rfl, h0, r0⟩ := trodAll_cons hA
  obtain ⟨v1, vs1, d1, ds1, p1, q1, rfl, rfl, rfl, h1, r1⟩ := trodAll_cons r0
  obtain ⟨rfl, rfl, rfl⟩ := trodAll_nil r1
  obtain rfl : args = #[v0, v1] := by cases args; simp_all
  obtain ⟨rfl, rfl⟩ := trodVars_none hV
  obtain ⟨a0, len0, cap0, rfl⟩ := okWide_slice Try.underlying38 (hval 0 38 v0 rfl rfl)
  have k0 := h0
  have lt0 : ∀ x ∈ p0, x.block < W.heap.size := by obtain ⟨m, hm⟩ := k0; exact DataW.trod_lt m _ _ _ hm
  obtain ⟨ss, hss, w0⟩ : ∃ ss : List ByteArray, ss.length = len0 ∧ Strs W a0 ss := by
    obtain ⟨fuel, hf⟩ := h0
    rcases open_strings Try.underlying38 Try.underlying9 (by kernel_rfl) hf with ⟨hcs, _⟩ | ⟨x, l, c, zs, hcs, _, hl, hm, hz, _, hcell, hwz⟩
    · simp [Value.cells] at hcs
      obtain ⟨rfl, rfl, rfl⟩ := hcs
      exact ⟨[], rfl, fun h => by simp at h⟩
    · simp [Value.cells] at hcs
      obtain ⟨rfl, rfl, rfl⟩ := hcs
      have hz' : zs.length = cap0 := by simpa using hz
      refine ⟨zs.take len0, by simp; omega, fun hp => ?_⟩
      have hp' : 0 < len0 := by simp at hp; omega
      obtain ⟨b, off, spot⟩ := x
      have hspot : spot = none := by simpa [Addr.add] using World.cell?_spot (hcell 0 (by omega))
      subst hspot
      refine ⟨b, off, rfl, fun i hi => ?_⟩
      have hi' : i < len0 := by simp at hi; omega
      rw [← Go.WideShapes.add_plain, hcell i (by omega)]
      simp [List.getD, List.getElem?_take_of_lt hi']
  obtain ⟨a1, rfl, rfl, rfl, w1⟩ := open_int Try.underlying5 (hval 1 5 v1 rfl rfl) h1
  clear hA0 hval0
  subst hss
  refine (walk a0 ss cap0 a1 W w0 w1).mono fun e W' ⟨he, bel⟩ => ?_
  subst he
  exact ⟨_, rfl, _, _, _, [], _, [], hW', trodAll_mk1 (shut_bool Try.underlying4 _), (trodAll_cons_mk (Below.trod laidOut (by kernel_rfl) (of_decide_eq_true (by kernel_rfl)) k0 bel lt0) (trodAll_cons_mk (shut_int Try.underlying5 w1) trodAll_mk0)), rfl, bel.frame _, fun h => by cases h⟩

theorem over : Rows.coilTextsRow.holds Try.pinned (OpenSpec.ofChange Rows.coilTextsSpec) :=
  OpenClaim.holds_of_wide 5 Try.f5 rfl rfl rfl rfl rfl rfl rfl ⟨rfl, rfl, rfl, rfl, rfl⟩ rfl rfl rfl rfl rfl (by kernel_rfl) Try.func5 (by kernel_rfl)
    (of_decide_eq_true (by kernel_rfl)) (by unfold Func.isWrapper; first | (rw [if_pos (by decide +kernel)]; kernel_rfl) | (rw [if_neg (by decide +kernel)]; exact ⟨rfl, rfl⟩))
    (fun os started H enc _ => lifted os started H enc)

theorem proved : Rows.CoilTextsSaid := over
end Go.Proofs.Ytcafanekckkdoaa.coilTexts
namespace Go.Proofs.Ytcafanekckkdoaa
theorem coilTexts_holds : Rows.CoilTextsSaid := coilTexts.proved
#print axioms coilTexts_holds
end Go.Proofs.Ytcafanekckkdoaa
