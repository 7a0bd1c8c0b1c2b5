/-
  What Key leaves: the blocks' bytes, as a string.
-/
import Derived.Test.YtkkkglmjipnfaaaDoorSame
import Derived.Laws.BytesArg
namespace Go.Proofs.YtkkkglmjipnfaaaDoor
open Go.RowKit
set_option linter.unusedVariables false

def B (x : Nat) : Value := .int .u8 (x : Int)
theorem info5 : (Tryd.prog.info? 5).map (fun i => (i.zero, i.size, i.bytes)) = some (some (.int .u8 0), 1, 1) := by kernel_rfl
/-- A word's eight bytes, the highest first. -/
def word (x : Nat) : List Nat := [x / 72057594037927936 % 256, x / 281474976710656 % 256, x / 1099511627776 % 256, x / 4294967296 % 256, x / 16777216 % 256, x / 65536 % 256, x / 256 % 256, x % 256]
theorem word_len (x : Nat) : (word x).length = 8 := rfl
theorem word_lt (x : Nat) : ∀ c ∈ word x, c < 256 := by
  intro c hc
  unfold word at hc
  simp at hc
  omega
theorem word_inj {x y : Nat} (hx : x < 18446744073709551616) (hy : y < 18446744073709551616) (h : word x = word y) : x = y := by
  unfold word at h
  simp at h
  omega
theorem grown_step {w w1 w2 : World} {r r2 : Option Nat} (h1 : w.grownBy w1 r) (h2 : w1.grownBy w2 r2) (hr : r2 = r ∨ ∀ q, r2 = some q → w.heap.size ≤ q) : w.grownBy w2 r :=
  ⟨h2.os.trans h1.os, h2.tape.trans h1.tape, h2.output.trans h1.output, Nat.le_trans h1.size h2.size, fun k hk hne => (h2.block k (Nat.lt_of_lt_of_le hk h1.size) (by
    rcases hr with rfl | hr
    · exact hne
    · intro e; have := hr k e.symm; omega)).trans (h1.block k hk hne)⟩

theorem cell_one_B (w : World) (z : Int) (bt : Nat) (h : z = bt) : ∀ j u, [B bt][j]? = some u → (w.alloc (.cells #[.int .u8 z] 5)).cell? ((⟨w.heap.size, 0, none⟩ : Addr).add j) = some u := by
  subst h
  exact cell_one_new w _ 5

/-- What putWord leaves: the row, and eight bytes more. -/
def PutPost (base n : Nat) (v : Value) (xs : List Nat) (x : Nat) (w : World) (e : Ending) (w' : World) : Prop :=
  ∃ v', e = .returned v' ∧ w'.ownsRow base 5 1 v' (n + 8) ((xs ++ word x).map B) ∧ w.grownBy w' v.ownBlock ∧ (v'.ownBlock = v.ownBlock ∨ ∃ q, v'.ownBlock = some q ∧ w.heap.size ≤ q)

set_option maxRecDepth 20000 in
set_option maxHeartbeats 4000000 in
theorem put_any (base n : Nat) (v : Value) (xs : List Nat) (x : Nat) (w : World) (hx : x < 18446744073709551616) (hown : w.ownsRow base 5 1 v n (xs.map B)) (hn : n ≤ 1000000) (hB : base ≤ w.heap.size) :
    Calls Tryd.prog 31 #[v, .int .u64 x] w (PutPost base n v xs x w) := by
  have HO := Lib.hid hown
  obtain ⟨i0, hi0, hz0, hz1, hz2⟩ := info_parts info5
  have HW : Hid (∀ j, j < 8 → (word x).take (j + 1) = (word x).take j ++ [(word x).getD j 0]) := fun j hj => by
    have hj' : j < (word x).length := hj
    rw [List.take_succ_eq_append_getElem hj']; simp [hj']
  clear hown
  go_enter Tryd.func31, Tryd.ntmps31
  go_wp2_with fail
  go_loopw [0, 5] (fun u i wr => ∃ j : Nat, j ≤ 8 ∧ i = .int .i64 (56 - 8 * (j : Int)) ∧ Hid (wr.ownsRow base 5 1 u (n + j) ((xs ++ (word x).take j).map B)) ∧ Hid (w.grownBy wr v.ownBlock) ∧ Hid (u.ownBlock = v.ownBlock ∨ ∃ q, u.ownBlock = some q ∧ w.heap.size ≤ q)) (fun _ i _ => (intOf i + 8).toNat)
  case atStart => exact ⟨0, by omega, rfl, (by show w.ownsRow _ _ _ _ _ _; simpa using HO.out), World.grownBy.refl w _, .inl rfl⟩
  case round =>
    obtain ⟨j, hj, rfl, hO, hG, hU⟩ := hrel
    by_cases hlt : j < 8
    · have HS := Lib.hid (HW.out j hlt)
      have hgs := hG.out.size
      obtain ⟨N, hN⟩ : ∃ N, N = n + j := ⟨_, rfl⟩
      obtain ⟨ys, hys⟩ : ∃ ys, ys = (xs ++ (word x).take j).map B := ⟨_, rfl⟩
      obtain ⟨bt, hbt⟩ : ∃ bt, bt = (word x).getD j 0 := ⟨_, rfl⟩
      rw [← hN, ← hys] at hO
      have HF : Hid (∀ (v2 : Value) (w1 w2 : World), w2.ownsRow base 5 1 v2 (N + 1) (ys ++ [B bt]) → w2.ownsRow base 5 1 v2 (n + (j + 1)) ((xs ++ (word x).take (j + 1)).map B)) := fun v2 w1 w2 h => by
        rw [HS.out, ← hbt, ← List.append_assoc, List.map_append, ← hys]
        rw [show n + (j + 1) = N + 1 from by omega]
        exact h
      have HBT := Lib.hid hbt
      have hN2 : N ≤ 1000008 := by omega
      clear hN hys hbt HS
      rcases (by omega : j = 0 ∨ j = 1 ∨ j = 2 ∨ j = 3 ∨ j = 4 ∨ j = 5 ∨ j = 6 ∨ j = 7) with rfl | rfl | rfl | rfl | rfl | rfl | rfl | rfl
      · go_wp2_with (at_builtin; refine wpList_append_own_at _ rfl _ _ 65 rfl base 5 i0 (.int .u8 0) 1 1 Tryd.underlying65 hi0 hz0 hz1 hz2 rfl (by decide) u0 _ _ rfl (hO.out.alloc _) ⟨wr.heap.size, 0, none⟩ 1 1 [B bt] rfl rfl ?c2 ?c3 ?c4 ?c5 ?c6 ?_)
        case c2 => exact cell_one_B wr _ _ (by rw [HBT.out]; simp only [word, List.getD_cons_zero]; omega)
        case c3 => intro u hu; simp at hu; subst hu; rfl
        case c4 => unfold maxLen; omega
        case c5 => omega
        case c6 => simp; omega
        intro v2 w2 hown hg _ hat
        have HO2 := Lib.hid (HF.out v2 w2 w2 hown)
        have HG2 := Lib.hid (grown_step (grown_step hG.out (World.grownBy_alloc wr _ none) (.inr (fun q h => by cases h))) hg (by
          rcases hU.out with h | ⟨q, h, h2⟩
          · exact .inl h
          · exact .inr (fun q2 h3 => by rw [h] at h3; injection h3 with h3; omega)))
        have HU2 : Hid (v2.ownBlock = v.ownBlock ∨ ∃ q, v2.ownBlock = some q ∧ w.heap.size ≤ q) := by
          rcases hat with h | h
          · rcases hU.out with h1 | ⟨q, h1, h2⟩
            · exact .inl (h.trans h1)
            · exact .inr ⟨q, h.trans h1, h2⟩
          · exact .inr ⟨_, h, by omega⟩
        clear hown hg hat
        go_wp2
        go_roundw
        case rel => exact ⟨1, by omega, by go_num, HO2, HG2, HU2⟩
        case measure => simp only [intOf]; omega
      · go_wp2_with (at_builtin; refine wpList_append_own_at _ rfl _ _ 65 rfl base 5 i0 (.int .u8 0) 1 1 Tryd.underlying65 hi0 hz0 hz1 hz2 rfl (by decide) u0 _ _ rfl (hO.out.alloc _) ⟨wr.heap.size, 0, none⟩ 1 1 [B bt] rfl rfl ?c2 ?c3 ?c4 ?c5 ?c6 ?_)
        case c2 => exact cell_one_B wr _ _ (by rw [HBT.out]; simp only [word, List.getD_cons_zero, List.getD_cons_succ]; omega)
        case c3 => intro u hu; simp at hu; subst hu; rfl
        case c4 => unfold maxLen; omega
        case c5 => omega
        case c6 => simp; omega
        intro v2 w2 hown hg _ hat
        have HO2 := Lib.hid (HF.out v2 w2 w2 hown)
        have HG2 := Lib.hid (grown_step (grown_step hG.out (World.grownBy_alloc wr _ none) (.inr (fun q h => by cases h))) hg (by
          rcases hU.out with h | ⟨q, h, h2⟩
          · exact .inl h
          · exact .inr (fun q2 h3 => by rw [h] at h3; injection h3 with h3; omega)))
        have HU2 : Hid (v2.ownBlock = v.ownBlock ∨ ∃ q, v2.ownBlock = some q ∧ w.heap.size ≤ q) := by
          rcases hat with h | h
          · rcases hU.out with h1 | ⟨q, h1, h2⟩
            · exact .inl (h.trans h1)
            · exact .inr ⟨q, h.trans h1, h2⟩
          · exact .inr ⟨_, h, by omega⟩
        clear hown hg hat
        go_wp2
        go_roundw
        case rel => exact ⟨2, by omega, by go_num, HO2, HG2, HU2⟩
        case measure => simp only [intOf]; omega
      · go_wp2_with (at_builtin; refine wpList_append_own_at _ rfl _ _ 65 rfl base 5 i0 (.int .u8 0) 1 1 Tryd.underlying65 hi0 hz0 hz1 hz2 rfl (by decide) u0 _ _ rfl (hO.out.alloc _) ⟨wr.heap.size, 0, none⟩ 1 1 [B bt] rfl rfl ?c2 ?c3 ?c4 ?c5 ?c6 ?_)
        case c2 => exact cell_one_B wr _ _ (by rw [HBT.out]; simp only [word, List.getD_cons_zero, List.getD_cons_succ]; omega)
        case c3 => intro u hu; simp at hu; subst hu; rfl
        case c4 => unfold maxLen; omega
        case c5 => omega
        case c6 => simp; omega
        intro v2 w2 hown hg _ hat
        have HO2 := Lib.hid (HF.out v2 w2 w2 hown)
        have HG2 := Lib.hid (grown_step (grown_step hG.out (World.grownBy_alloc wr _ none) (.inr (fun q h => by cases h))) hg (by
          rcases hU.out with h | ⟨q, h, h2⟩
          · exact .inl h
          · exact .inr (fun q2 h3 => by rw [h] at h3; injection h3 with h3; omega)))
        have HU2 : Hid (v2.ownBlock = v.ownBlock ∨ ∃ q, v2.ownBlock = some q ∧ w.heap.size ≤ q) := by
          rcases hat with h | h
          · rcases hU.out with h1 | ⟨q, h1, h2⟩
            · exact .inl (h.trans h1)
            · exact .inr ⟨q, h.trans h1, h2⟩
          · exact .inr ⟨_, h, by omega⟩
        clear hown hg hat
        go_wp2
        go_roundw
        case rel => exact ⟨3, by omega, by go_num, HO2, HG2, HU2⟩
        case measure => simp only [intOf]; omega
      · go_wp2_with (at_builtin; refine wpList_append_own_at _ rfl _ _ 65 rfl base 5 i0 (.int .u8 0) 1 1 Tryd.underlying65 hi0 hz0 hz1 hz2 rfl (by decide) u0 _ _ rfl (hO.out.alloc _) ⟨wr.heap.size, 0, none⟩ 1 1 [B bt] rfl rfl ?c2 ?c3 ?c4 ?c5 ?c6 ?_)
        case c2 => exact cell_one_B wr _ _ (by rw [HBT.out]; simp only [word, List.getD_cons_zero, List.getD_cons_succ]; omega)
        case c3 => intro u hu; simp at hu; subst hu; rfl
        case c4 => unfold maxLen; omega
        case c5 => omega
        case c6 => simp; omega
        intro v2 w2 hown hg _ hat
        have HO2 := Lib.hid (HF.out v2 w2 w2 hown)
        have HG2 := Lib.hid (grown_step (grown_step hG.out (World.grownBy_alloc wr _ none) (.inr (fun q h => by cases h))) hg (by
          rcases hU.out with h | ⟨q, h, h2⟩
          · exact .inl h
          · exact .inr (fun q2 h3 => by rw [h] at h3; injection h3 with h3; omega)))
        have HU2 : Hid (v2.ownBlock = v.ownBlock ∨ ∃ q, v2.ownBlock = some q ∧ w.heap.size ≤ q) := by
          rcases hat with h | h
          · rcases hU.out with h1 | ⟨q, h1, h2⟩
            · exact .inl (h.trans h1)
            · exact .inr ⟨q, h.trans h1, h2⟩
          · exact .inr ⟨_, h, by omega⟩
        clear hown hg hat
        go_wp2
        go_roundw
        case rel => exact ⟨4, by omega, by go_num, HO2, HG2, HU2⟩
        case measure => simp only [intOf]; omega
      · go_wp2_with (at_builtin; refine wpList_append_own_at _ rfl _ _ 65 rfl base 5 i0 (.int .u8 0) 1 1 Tryd.underlying65 hi0 hz0 hz1 hz2 rfl (by decide) u0 _ _ rfl (hO.out.alloc _) ⟨wr.heap.size, 0, none⟩ 1 1 [B bt] rfl rfl ?c2 ?c3 ?c4 ?c5 ?c6 ?_)
        case c2 => exact cell_one_B wr _ _ (by rw [HBT.out]; simp only [word, List.getD_cons_zero, List.getD_cons_succ]; omega)
        case c3 => intro u hu; simp at hu; subst hu; rfl
        case c4 => unfold maxLen; omega
        case c5 => omega
        case c6 => simp; omega
        intro v2 w2 hown hg _ hat
        have HO2 := Lib.hid (HF.out v2 w2 w2 hown)
        have HG2 := Lib.hid (grown_step (grown_step hG.out (World.grownBy_alloc wr _ none) (.inr (fun q h => by cases h))) hg (by
          rcases hU.out with h | ⟨q, h, h2⟩
          · exact .inl h
          · exact .inr (fun q2 h3 => by rw [h] at h3; injection h3 with h3; omega)))
        have HU2 : Hid (v2.ownBlock = v.ownBlock ∨ ∃ q, v2.ownBlock = some q ∧ w.heap.size ≤ q) := by
          rcases hat with h | h
          · rcases hU.out with h1 | ⟨q, h1, h2⟩
            · exact .inl (h.trans h1)
            · exact .inr ⟨q, h.trans h1, h2⟩
          · exact .inr ⟨_, h, by omega⟩
        clear hown hg hat
        go_wp2
        go_roundw
        case rel => exact ⟨5, by omega, by go_num, HO2, HG2, HU2⟩
        case measure => simp only [intOf]; omega
      · go_wp2_with (at_builtin; refine wpList_append_own_at _ rfl _ _ 65 rfl base 5 i0 (.int .u8 0) 1 1 Tryd.underlying65 hi0 hz0 hz1 hz2 rfl (by decide) u0 _ _ rfl (hO.out.alloc _) ⟨wr.heap.size, 0, none⟩ 1 1 [B bt] rfl rfl ?c2 ?c3 ?c4 ?c5 ?c6 ?_)
        case c2 => exact cell_one_B wr _ _ (by rw [HBT.out]; simp only [word, List.getD_cons_zero, List.getD_cons_succ]; omega)
        case c3 => intro u hu; simp at hu; subst hu; rfl
        case c4 => unfold maxLen; omega
        case c5 => omega
        case c6 => simp; omega
        intro v2 w2 hown hg _ hat
        have HO2 := Lib.hid (HF.out v2 w2 w2 hown)
        have HG2 := Lib.hid (grown_step (grown_step hG.out (World.grownBy_alloc wr _ none) (.inr (fun q h => by cases h))) hg (by
          rcases hU.out with h | ⟨q, h, h2⟩
          · exact .inl h
          · exact .inr (fun q2 h3 => by rw [h] at h3; injection h3 with h3; omega)))
        have HU2 : Hid (v2.ownBlock = v.ownBlock ∨ ∃ q, v2.ownBlock = some q ∧ w.heap.size ≤ q) := by
          rcases hat with h | h
          · rcases hU.out with h1 | ⟨q, h1, h2⟩
            · exact .inl (h.trans h1)
            · exact .inr ⟨q, h.trans h1, h2⟩
          · exact .inr ⟨_, h, by omega⟩
        clear hown hg hat
        go_wp2
        go_roundw
        case rel => exact ⟨6, by omega, by go_num, HO2, HG2, HU2⟩
        case measure => simp only [intOf]; omega
      · go_wp2_with (at_builtin; refine wpList_append_own_at _ rfl _ _ 65 rfl base 5 i0 (.int .u8 0) 1 1 Tryd.underlying65 hi0 hz0 hz1 hz2 rfl (by decide) u0 _ _ rfl (hO.out.alloc _) ⟨wr.heap.size, 0, none⟩ 1 1 [B bt] rfl rfl ?c2 ?c3 ?c4 ?c5 ?c6 ?_)
        case c2 => exact cell_one_B wr _ _ (by rw [HBT.out]; simp only [word, List.getD_cons_zero, List.getD_cons_succ]; omega)
        case c3 => intro u hu; simp at hu; subst hu; rfl
        case c4 => unfold maxLen; omega
        case c5 => omega
        case c6 => simp; omega
        intro v2 w2 hown hg _ hat
        have HO2 := Lib.hid (HF.out v2 w2 w2 hown)
        have HG2 := Lib.hid (grown_step (grown_step hG.out (World.grownBy_alloc wr _ none) (.inr (fun q h => by cases h))) hg (by
          rcases hU.out with h | ⟨q, h, h2⟩
          · exact .inl h
          · exact .inr (fun q2 h3 => by rw [h] at h3; injection h3 with h3; omega)))
        have HU2 : Hid (v2.ownBlock = v.ownBlock ∨ ∃ q, v2.ownBlock = some q ∧ w.heap.size ≤ q) := by
          rcases hat with h | h
          · rcases hU.out with h1 | ⟨q, h1, h2⟩
            · exact .inl (h.trans h1)
            · exact .inr ⟨q, h.trans h1, h2⟩
          · exact .inr ⟨_, h, by omega⟩
        clear hown hg hat
        go_wp2
        go_roundw
        case rel => exact ⟨7, by omega, by go_num, HO2, HG2, HU2⟩
        case measure => simp only [intOf]; omega
      · go_wp2_with (at_builtin; refine wpList_append_own_at _ rfl _ _ 65 rfl base 5 i0 (.int .u8 0) 1 1 Tryd.underlying65 hi0 hz0 hz1 hz2 rfl (by decide) u0 _ _ rfl (hO.out.alloc _) ⟨wr.heap.size, 0, none⟩ 1 1 [B bt] rfl rfl ?c2 ?c3 ?c4 ?c5 ?c6 ?_)
        case c2 => exact cell_one_B wr _ _ (by rw [HBT.out]; simp only [word, List.getD_cons_zero, List.getD_cons_succ]; omega)
        case c3 => intro u hu; simp at hu; subst hu; rfl
        case c4 => unfold maxLen; omega
        case c5 => omega
        case c6 => simp; omega
        intro v2 w2 hown hg _ hat
        have HO2 := Lib.hid (HF.out v2 w2 w2 hown)
        have HG2 := Lib.hid (grown_step (grown_step hG.out (World.grownBy_alloc wr _ none) (.inr (fun q h => by cases h))) hg (by
          rcases hU.out with h | ⟨q, h, h2⟩
          · exact .inl h
          · exact .inr (fun q2 h3 => by rw [h] at h3; injection h3 with h3; omega)))
        have HU2 : Hid (v2.ownBlock = v.ownBlock ∨ ∃ q, v2.ownBlock = some q ∧ w.heap.size ≤ q) := by
          rcases hat with h | h
          · rcases hU.out with h1 | ⟨q, h1, h2⟩
            · exact .inl (h.trans h1)
            · exact .inr ⟨q, h.trans h1, h2⟩
          · exact .inr ⟨_, h, by omega⟩
        clear hown hg hat
        go_wp2
        go_roundw
        case rel => exact ⟨8, by omega, by go_num, HO2, HG2, HU2⟩
        case measure => simp only [intOf]; omega
    · obtain rfl : j = 8 := by omega
      go_wp2
      go_ret
      exact ⟨_, rfl, hO.out, hG.out, hU.out⟩

/-- Bytes as a string. -/
def str (l : List Nat) : ByteArray := ⟨(l.map UInt8.ofNat).toArray⟩
theorem str_eq (l : List Nat) : strOfNums (l.map (fun x : Nat => (x : Int))) = str l := by
  apply ByteArray.ext
  apply Array.toList_inj.1
  rw [strOfNums_data]
  simp [str]
theorem conv_own {w : World} {base k : Nat} {v : Value} {l : List Nat} (h : w.ownsRow base 5 1 v k (l.map B)) : (convert 65 9 v).run Tryd.prog w = .ok (.string (str l)) w := by
  have hl : l.length = k := by simpa using h.1
  rcases h.2 with ⟨rfl, rfl⟩ | ⟨g, cap, cur, rfl, _, hh, hc, _, hs, ht⟩
  · have : l = [] := List.eq_nil_of_length_eq_zero hl
    subst this
    exact run_convert_bytes_nil w 65 5 Tryd.underlying65 Tryd.underlying5 0 0 9 Tryd.underlying9
  · rw [← str_eq]
    refine run_convert_bytes_arg w 65 5 Tryd.underlying65 Tryd.underlying5 g 0 k cap _ (by simpa using hl) (fun i hi => ?_) 9 Tryd.underlying9
    have hc := h.cells (g := g) rfl i (B (l.getD i 0)) (by simp [List.getD, show i < l.length by omega])
    have hp : (⟨g, 0, none⟩ : Addr).add i = ⟨g, 0 + i, none⟩ := by unfold Addr.add; split <;> simp_all
    rw [hp] at hc
    rw [hc]
    simp [B, List.getD, show i < l.length by omega]
theorem str_toList (l : List Nat) : (str l).toList = l.map UInt8.ofNat := by
  rw [ByteArray.toList_eq]; rfl
theorem str_beq (x y : List Nat) (hx : ∀ c ∈ x, c < 256) (hy : ∀ c ∈ y, c < 256) : ((str x).toList == (str y).toList) = decide (x = y) := by
  rw [str_toList, str_toList, Bool.eq_iff_iff]
  simp only [beq_iff_eq, decide_eq_true_eq]
  constructor
  · intro h
    have h2 := congrArg (List.map UInt8.toNat) h
    simp only [List.map_map] at h2
    have e : ∀ l : List Nat, (∀ c ∈ l, c < 256) → l.map (UInt8.toNat ∘ UInt8.ofNat) = l := by
      intro l hl
      conv => rhs; rw [← List.map_id l]
      apply List.map_congr_left
      intro c hc
      have := hl c hc
      simp; omega
    rw [e x hx, e y hy] at h2
    exact h2
  · rintro rfl; rfl

/-- A set's bytes. -/
def kF (L : Bks) : List Nat := L.flatMap fun p => word p.1.toNat ++ word p.2
theorem kF_append (L M : Bks) : kF (L ++ M) = kF L ++ kF M := by unfold kF; simp
theorem kF_len (L : Bks) : (kF L).length = 16 * L.length := by
  induction L with
  | nil => rfl
  | cons p L ih => unfold kF at *; rw [List.flatMap_cons, List.length_append, List.length_append, word_len, word_len, ih, List.length_cons]; omega
theorem kF_lt (L : Bks) : ∀ c ∈ kF L, c < 256 := by
  intro c hc
  unfold kF at hc
  obtain ⟨p, _, h⟩ := List.mem_flatMap.1 hc
  rcases List.mem_append.1 h with h | h
  · exact word_lt _ c h
  · exact word_lt _ c h
theorem kF_inj {L M : Bks} (hL : Good L) (hM : Good M) (h : kF L = kF M) : L = M := by
  induction L generalizing M with
  | nil =>
    have := congrArg List.length h
    rw [kF_len, kF_len] at this
    exact (List.eq_nil_of_length_eq_zero (by simp at this; omega)).symm
  | cons p L ih =>
    cases M with
    | nil =>
      have := congrArg List.length h
      rw [kF_len, kF_len] at this
      simp at this
    | cons q M =>
      have e1 : kF (p :: L) = word p.1.toNat ++ (word p.2 ++ kF L) := by unfold kF; rw [List.flatMap_cons, List.append_assoc]
      have e2 : kF (q :: M) = word q.1.toNat ++ (word q.2 ++ kF M) := by unfold kF; rw [List.flatMap_cons, List.append_assoc]
      rw [e1, e2] at h
      obtain ⟨h1, h2⟩ := List.append_inj h rfl
      obtain ⟨h3, h4⟩ := List.append_inj h2 rfl
      have gp := hL.2 p (by simp)
      have gq := hM.2 q (by simp)
      unfold top two64 at gp gq
      have k1 := word_inj (by omega) (by omega) h1
      have k2 := word_inj (by omega) (by omega) h3
      rw [ih hL.tail hM.tail h4]
      congr 1
      exact Prod.ext (by omega) k2

set_option maxRecDepth 20000 in
set_option maxHeartbeats 2000000 in
theorem key_any (p : Value) (A : Option Addr) (c : Nat) (L : Bks) (w : World) (h : Rd w p A c L) (hl : L.length ≤ 1000) :
    Calls Tryd.prog 17 #[p] w fun e w' => e = .returned (.string (str (kF L))) ∧ Below w.heap.size w w' := by
  have HR := Lib.hid h
  obtain ⟨i0, hi0, hz0, hz1, hz2⟩ := info_parts info5
  clear h
  obtain ⟨w2, hmk, hO2, hg2⟩ := run_make_own w w.heap.size 65 5 i0 (.int .u8 0) 1 Tryd.underlying65 hi0 hz0 hz1 .i64 .i64 (16 * L.length) (by rw [hz2]; omega) (by unfold maxLen; omega) (Nat.le_refl _)
  rw [show ((16 * L.length : Nat) : Int) = 16 * (L.length : Int) from by omega] at hmk
  have HB2 := Lib.hid ((Below.refl w.heap.size w).grown hg2 (Nat.le_refl _) (fun k hk => by cases hk))
  have HR2 := Lib.hid (HR.out.old HB2.out)
  have HO2 := Lib.hid hO2
  clear hO2 hg2
  go_enter Tryd.func17, Tryd.ntmps17
  go_wp2_with fail
  refine (list_any _ _ _ _ _ HR.out).mono ?_
  rintro e w3 ⟨rfl, rfl⟩
  go_wp2_with fail
  refine (list_any _ _ _ _ _ HR2.out).mono ?_
  rintro e w3 ⟨rfl, rfl⟩
  clear hmk
  generalize Value.slice (some ⟨w.heap.size, 0, none⟩) 0 (16 * L.length) = v0 at *
  go_wp2_with fail
  go_loopw [3, 14] (fun v i wr => ∃ k : Nat, k ≤ L.length ∧ i = .int .i64 k ∧ Hid (wr.ownsRow w.heap.size 5 1 v (16 * k) ((kF (L.take k)).map B)) ∧ Hid (Below w.heap.size w wr)) (fun _ i _ => L.length - (intOf i).toNat)
  case atStart => exact ⟨0, Nat.zero_le _, rfl, HO2, HB2⟩
  case round =>
    obtain ⟨k, hk, rfl, hO, hB⟩ := hrel
    by_cases hlt : k < L.length
    · obtain ⟨b, o, rfl, hc⟩ := (HR.out.row.old hB.out) (by omega)
      obtain ⟨c1, c2⟩ := hc k hlt
      have Hts := Lib.hid (take_snocB L k hlt)
      have hgd := HR.out.good.2 _ (getD_mem hlt)
      generalize L.getD k (0, 0) = q at *
      obtain ⟨a, x⟩ := q
      unfold two64 top at hgd
      simp only at c1 c2 hgd
      obtain ⟨a, rfl⟩ : ∃ n : Nat, a = n := ⟨a.toNat, by omega⟩
      have HL : Hid (kF (L.take (k + 1)) = (kF (L.take k) ++ word a) ++ word x) := by show _ = _; rw [Hts.out, kF_append]; simp [kF]
      generalize kF (L.take k) = ys at *
      have Hgd := Lib.hid hgd
      have ha : (a : Int) < 144115188075855872 := hgd.2.1
      clear hc hgd Hts
      have hbs := hB.out.size
      have HS9 : Hid (u3.ownBlock ≠ some wr.heap.size) := fun e => by have := hO.out.lt _ e; omega
      have HB9 := Lib.hid (hB.out.alloc hbs (.cells #[.int .i64 (a : Int), .int .u64 (x : Int)] 57))
      have HO9 := Lib.hid (hO.out.alloc (.cells #[.int .i64 (a : Int), .int .u64 (x : Int)] 57))
      have HC9 := Lib.hid (heap_alloc_new wr (.cells #[.int .i64 (a : Int), .int .u64 (x : Int)] 57))
      obtain ⟨g9, hg9⟩ : ∃ g9, g9 = wr.heap.size := ⟨_, rfl⟩
      go_wp2_with fail
      refine (put_any w.heap.size (16 * k) u3 ys a _ (by omega) HO9.out (by omega) HB9.out.size).mono ?_
      rintro e w4 ⟨v4, rfl, hO4, hG4, hU4⟩
      rw [← hg9] at HS9 HC9 ⊢
      have hC4 := grown_blk hG4 HC9.out HS9.out
      have hcell4 : w4.cell? ⟨g9, 1, none⟩ = some (.int .u64 (x : Int)) := by rw [cell_of_row _ _ 1 _ _ _ hC4]; rfl
      have HB4 := Lib.hid (HB9.out.grown hG4 HB9.out.size (fun j hj => (hO.out.lt j hj).1))
      have HO4 := Lib.hid hO4
      clear hO4 hG4 hU4 HO9 HC9 hC4 hg9 c1 c2 HB9 HS9
      go_wp2_with fail
      refine (put_any w.heap.size (16 * k + 8) v4 (ys ++ word a) x _ Hgd.out.2.2.2 HO4.out (by omega) HB4.out.size).mono ?_
      rintro e w5 ⟨v5, rfl, hO5, hG5, hU5⟩
      have HO5 : Hid (w5.ownsRow w.heap.size 5 1 v5 (16 * (k + 1)) ((kF (L.take (k + 1))).map B)) := by
        show w5.ownsRow _ _ _ _ _ _
        rw [HL.out, show 16 * (k + 1) = 16 * k + 8 + 8 from by omega]; exact hO5
      have HB5 := Lib.hid (HB4.out.grown hG5 HB4.out.size (fun j hj => (HO4.out.lt j hj).1))
      clear hO5 hG5 hU5 hcell4
      go_wp2
      go_roundw
      case rel => exact ⟨k + 1, by omega, by go_num, HO5, HB5⟩
      case measure => simp [intOf]; omega
    · obtain rfl : k = L.length := by omega
      rw [List.take_length] at hO
      have hcv := conv_own hO.out
      go_wp2
      go_ret
      exact ⟨rfl, hB.out⟩
end Go.Proofs.YtkkkglmjipnfaaaDoor
