/-
  Lex: Place and Syntax.
-/
import Derived.Test.YtgaedkaohjphaaaLi
namespace Go.Proofs.Ytgaedkaohjphaaa
open Go.RowKit
set_option linter.unusedVariables false
set_option linter.unusedSimpArgs false
set_option maxRecDepth 20000

/-- The last place ahead of k at which x stands; -1: none. -/
def lastK (p : List UInt8) (x : UInt8) : Nat → Int
  | 0 => -1
  | k + 1 => if p.getD k 0 = x then (k : Int) else lastK p x k
theorem lastK_lt (p : List UInt8) (x : UInt8) : ∀ k, -1 ≤ lastK p x k ∧ lastK p x k < (k : Int)
  | 0 => by simp [lastK]
  | k + 1 => by
    have := lastK_lt p x k
    unfold lastK
    split <;> omega
theorem placeF_snoc : ∀ (xs : List Int) (x l c : Int), placeF (xs ++ [x]) l c = if x = 10 then ((placeF xs l c).1 + 1, 1) else ((placeF xs l c).1, (placeF xs l c).2 + 1)
  | [], x, l, c => by simp [placeF]
  | y :: xs, x, l, c => by
    simp only [List.cons_append, placeF]
    split
    · exact placeF_snoc xs x (l + 1) 1
    · exact placeF_snoc xs x l (c + 1)
theorem place_eq (p : List UInt8) : ∀ k, k ≤ p.length → placeF ((nums p).take k) 1 1 = (1 + ((p.take k).count 10 : Int), (k : Int) - lastK p 10 k)
  | 0, _ => by simp [placeF, lastK]
  | k + 1, h => by
    have ih := place_eq p k (by omega)
    have hk : k < p.length := by omega
    have hkn : k < (nums p).length := by rw [nums_len]; exact hk
    have hg : (nums p)[k] = (p[k].toNat : Int) := by simp [nums]
    have hd : p.getD k 0 = p[k] := by rw [List.getD_eq_getElem?_getD, List.getElem?_eq_getElem hk]; rfl
    rw [List.take_succ_eq_append_getElem hkn, placeF_snoc, ih, hg, List.take_succ_eq_append_getElem hk, List.count_append, lastK, hd]
    by_cases h10 : p[k] = 10
    · rw [h10]
      simp
      omega
    · have h1 : ¬ ((p[k].toNat : Int) = 10) := fun e => h10 (UInt8.toNat_inj.1 (by show p[k].toNat = 10; omega))
      rw [if_neg h1, if_neg h10]
      have h2 : [p[k]].count 10 = 0 := by simp [List.count_cons, h10]
      rw [h2]
      simp
      omega
set_option maxHeartbeats 1000000 in
theorem last_any (A : Option Addr) (n c : Nat) (p : List UInt8) (x : UInt8) (w : World) (h : Src w A n p) (hn : n ≤ 1000000000) :
    Calls Try.prog 44 #[.slice A n c, .int .u8 (x.toNat : Int)] w fun e w' => e = .returned (.int .i64 (lastK p x n)) ∧ w = w' := by
  obtain ⟨v, hv⟩ : ∃ v, v = lastK p x n := ⟨_, rfl⟩
  rw [← hv]
  have HV0 : Hid (v = lastK p x n) := hv
  have H := Lib.hid h
  clear hv h
  go_enter Try.func44, Try.ntmps44
  go_wp2_with fail
  go_loopw [5] (fun s5 wr => ∃ k : Nat, k ≤ n ∧ s5 = .int .i64 ((k : Int) - 1) ∧ w = wr ∧ Hid (v = lastK p x k)) (fun s5 _ => (intOf s5 + 1).toNat)
  case atStart => exact ⟨n, Nat.le_refl _, rfl, rfl, HV0⟩
  case round =>
    clear HV0
    obtain ⟨k, hk, rfl, rfl, hE⟩ := hrel
    cases k with
    | zero =>
      obtain rfl : v = -1 := hE.out
      have h0 : ¬ (0 : Int) ≤ ((0 : Nat) : Int) - 1 := by omega
      go_wp2
      go_ret
      exact ⟨rfl, rfl⟩
    | succ k =>
      have hkl : k < p.length := by rw [H.out.1]; omega
      have h1 : (k : Int) < (n : Int) := by omega
      obtain ⟨b, o, rfl, hc⟩ := H.out.2 (by omega)
      have e0 := hc k hkl
      have hE2 := hE.out
      have hd : p.getD k 0 = p[k] := by rw [List.getD_eq_getElem?_getD, List.getElem?_eq_getElem hkl]; rfl
      rw [lastK, hd] at hE2
      have hs : ((k + 1 : Nat) : Int) - 1 = (k : Int) := by omega
      rw [hs]
      have hbb : ((p[k].toNat : Int) == (x.toNat : Int)) = decide (p[k] = x) := by
        by_cases he : p[k] = x
        · rw [he]; simp
        · have : ¬ ((p[k].toNat : Int) = (x.toNat : Int)) := fun e => he (UInt8.toNat_inj.1 (by omega))
          simp [he, this]
      generalize p[k] = y at *
      clear hE hc hs hd
      by_cases he : y = x
      · rw [if_pos he] at hE2
        subst hE2
        rw [decide_eq_true he] at hbb
        clear he
        go_wp2
        go_ret
        exact ⟨rfl, rfl⟩
      · rw [if_neg he] at hE2
        rw [decide_eq_false he] at hbb
        have HE2 := Lib.hid hE2
        clear he hE2
        go_wp2
        go_roundw
        case rel => exact ⟨k, by omega, by go_num, by first | rfl | trivial, HE2⟩
        case measure => simp [intOf]
theorem last30_any (A : Option Addr) (n c : Nat) (p : List UInt8) (w : World) (h : Src w A n p) (hn : n ≤ 1000000000) :
    Calls Try.prog 30 #[.slice A n c, .int .u8 10] w fun e w' => e = .returned (.int .i64 (lastK p 10 n)) ∧ w = w' := by
  have hL := last_any A n c p 10 w h hn
  rw [show ((10 : UInt8).toNat : Int) = 10 from rfl] at hL
  go_enter Try.func30, Try.ntmps30
  go_wp2_with fail
  refine hL.mono ?_
  rintro e w2 ⟨rfl, rfl⟩
  go_wp2
  go_ret
  exact ⟨rfl, rfl⟩
/-- Line and column of a place that is no number beyond the text. -/
def colF (p : List UInt8) (k : Nat) : Int × Int := (1 + ((p.take k).count 10 : Int), (k : Int) - lastK p 10 k)
theorem lastK_take (p : List UInt8) (x : UInt8) (n : Nat) : ∀ k, k ≤ n → lastK (p.take n) x k = lastK p x k
  | 0, _ => rfl
  | k + 1, h => by
    rw [lastK, lastK, lastK_take p x n k (by omega)]
    have : (p.take n).getD k 0 = p.getD k 0 := by
      rw [List.getD_eq_getElem?_getD, List.getD_eq_getElem?_getD, List.getElem?_take_of_lt (by omega)]
    rw [this]
set_option maxHeartbeats 2000000 in
theorem place_any (A : Option Addr) (n c : Nat) (at_ : Int) (k : Nat) (p : List UInt8) (w : World) (h : Src w A n p) (hc : n ≤ c) (hn : n ≤ 1000000000) (hk : min (max at_ 0) (n : Int) = (k : Int)) (hA : A = none → c = 0) :
    Calls Try.prog 18 #[.slice A n c, .int .i64 at_] w fun e w' => e = .returned (.tuple #[.int .i64 (colF p k).1, .int .i64 (colF p k).2]) ∧ Below w.heap.size w w' := by
  have hkn : k ≤ n := by omega
  have hcl := lastK_lt p 10 k
  have hcount : (p.take k).count 10 ≤ k := by
    have h1 := List.count_le_length (a := (10 : UInt8)) (l := p.take k)
    rw [List.length_take] at h1; omega
  have hbA : Below w.heap.size w (w.alloc (.cells #[.int .u8 10] 5)) := (Below.refl _ _).alloc (Nat.le_refl _) _
  have hS := (h.take k hkn).old hbA
  have hCt : Calls Try.prog 29 #[.slice A k c, .slice (some ⟨w.heap.size, 0, none⟩) 1 1] (w.alloc (.cells #[.int .u8 10] 5)) fun e w' => e = .returned (.int .i64 ((p.take k).count 10 : Nat)) ∧ w' = (w.alloc (.cells #[.int .u8 10] 5)) := by
    have h10 : (w.alloc (.cells #[.int .u8 10] 5)).cell? ⟨w.heap.size, 0, none⟩ = some (.int .u8 10) := by
      rw [cell_of_row _ w.heap.size _ _ 5 (0, 0) (heap_alloc_new w _)]; rfl
    cases A with
    | none =>
      have hk0 : k = 0 := by
        rcases Nat.eq_zero_or_pos k with h0 | h0
        · exact h0
        · obtain ⟨b, o, hA', _⟩ := hS.2 h0; cases hA'
      subst hk0
      rw [hA rfl]
      refine (Try.bytes_Count_one_nil w.heap.size 0 1 10 _ h10).mono ?_
      rintro e w' ⟨rfl, rfl⟩
      exact ⟨by simp, rfl⟩
    | some a =>
      refine (Try.bytes_Count_one_at a k c w.heap.size 0 1 (nums (p.take k)) 10 _ (by rw [nums_len]; exact hS.1) (fun i hi => ?_) h10).mono ?_
      · obtain ⟨b, o, hA', hcc⟩ := hS.ints (by omega)
        injection hA' with hA'
        subst hA'
        rw [Go.WideShapes.add_plain]
        exact hcc i hi
      · rintro e w' ⟨rfl, rfl⟩
        rw [bytesOf_nums]
        exact ⟨rfl, rfl⟩
  have hLs := last30_any A k c (p.take k) (w.alloc (.cells #[.int .u8 10] 5)) hS (by omega)
  rw [lastK_take p 10 k k (Nat.le_refl _)] at hLs
  unfold colF
  generalize lastK p 10 k = m at *
  generalize (p.take k).count 10 = q at *
  have HCt := Lib.hid hCt
  have HLs := Lib.hid hLs
  have HK := Lib.hid hk
  have HB := Lib.hid hbA
  clear hCt hLs hk hS h hbA
  go_enter Try.func18, Try.ntmps18
  go_wp2_with fail
  simp only [HK.out, Int.toNat_natCast]
  refine HCt.out.mono ?_
  rintro e w2 ⟨rfl, rfl⟩
  go_wp2_with fail
  refine HLs.out.mono ?_
  rintro e w2 ⟨rfl, rfl⟩
  clear HCt HLs
  go_wp2
  go_ret2
  have h1 : (1 + (k : Int) - (m + 1)) = (k : Int) - m := by omega
  rw [h1]
  exact ⟨rfl, HB.out⟩
/-- A fault's cells. -/
def synV (a l c : Int) : Value := .agg #[.int .i64 7, .int .i64 a, .int .i64 l, .int .i64 c, .int .i64 0, .int .i64 (-1), .int .i64 (-1)]
theorem set7B {B q : Nat} {a w : World} (h : Below B a w) (hq : B ≤ q) (v0 v1 v2 v3 v4 v5 v6 : Value) : Below B a (((((((w.setCell ⟨q, 0, none⟩ v0).setCell ⟨q, 1, none⟩ v1).setCell ⟨q, 2, none⟩ v2).setCell ⟨q, 3, none⟩ v3).setCell ⟨q, 4, none⟩ v4).setCell ⟨q, 5, none⟩ v5).setCell ⟨q, 6, none⟩ v6) :=
  (((((((h.setCell (p := ⟨q, 0, none⟩) hq _).setCell (p := ⟨q, 1, none⟩) hq _).setCell (p := ⟨q, 2, none⟩) hq _).setCell (p := ⟨q, 3, none⟩) hq _).setCell (p := ⟨q, 4, none⟩) hq _).setCell (p := ⟨q, 5, none⟩) hq _).setCell (p := ⟨q, 6, none⟩) hq _)
set_option maxHeartbeats 4000000 in
theorem syntax_any (A : Option Addr) (n c : Nat) (at_ : Int) (k : Nat) (p : List UInt8) (w : World) (h : Src w A n p) (hc : n ≤ c) (hn : n ≤ 1000000000) (hk : min (max at_ 0) (n : Int) = (k : Int)) (hA : A = none → c = 0) :
    Calls Try.prog 20 #[.slice A n c, .int .i64 at_] w fun e w' => e = .returned (synV at_ (colF p k).1 (colF p k).2) ∧ Below w.heap.size w w' := by
  obtain ⟨w1, hw1⟩ : ∃ w1, w1 = w.alloc (.cells #[.int .i64 0, .int .i64 0, .int .i64 0, .int .i64 0, .int .i64 0, .int .i64 0, .int .i64 0] 42) := ⟨_, rfl⟩
  have HB1 : Hid (Below w.heap.size w w1) := by rw [hw1]; exact (Below.refl _ _).alloc (Nat.le_refl _) _
  have K1 : Hid (Blk w1 w.heap.size 42 #[.int .i64 0, .int .i64 0, .int .i64 0, .int .i64 0, .int .i64 0, .int .i64 0, .int .i64 0]) := by rw [hw1]; exact Blk.new w 42 _
  have hP := place_any A n c at_ k p w1 (h.old HB1.out) hc hn hk hA
  generalize (colF p k).1 = l1 at hP ⊢
  generalize (colF p k).2 = l2 at hP ⊢
  have HP := Lib.hid hP
  clear hP
  clear h hk
  go_enter Try.func20, Try.ntmps20
  go_upto_region 1 with (fail)
  rw [← hw1]
  clear hw1
  go_wp2_with fail
  refine HP.out.mono ?_
  rintro e w2 ⟨rfl, hb2⟩
  have HB2 := Lib.hid (HB1.out.trans (hb2.mono HB1.out.size))
  have K2 := Lib.hid (K1.out.old hb2)
  clear HP hb2
  obtain ⟨r0, r1, r2, r3, r4, r5, r6⟩ := K2.out.c7
  have f0 := K2.out.frozen 0
  have f1 := K2.out.frozen 1
  have f2 := K2.out.frozen 2
  have f3 := K2.out.frozen 3
  have f4 := K2.out.frozen 4
  have f5 := K2.out.frozen 5
  have f6 := K2.out.frozen 6
  have z9 : w.heap.size < w2.heap.size := K2.out.lt
  dsimp only
  go_wp2
  have hbf := set7B HB2.out (Nat.le_refl _) (.int .i64 7) (.int .i64 at_) (.int .i64 l1) (.int .i64 l2) (.int .i64 0) (.int .i64 (-1)) (.int .i64 (-1))
  have hK7 : Blk _ w.heap.size 42 #[.int .i64 7, .int .i64 at_, .int .i64 l1, .int .i64 l2, .int .i64 0, .int .i64 (-1), .int .i64 (-1)] := ((((((K2.out.set_ 0 (.int .i64 7)).set_ 1 (.int .i64 at_)).set_ 2 (.int .i64 l1)).set_ 3 (.int .i64 l2)).set_ 4 (.int .i64 0)).set_ 5 (.int .i64 (-1))).set_ 6 (.int .i64 (-1))
  obtain ⟨q0, q1, q2, q3, q4, q5, q6⟩ := hK7.c7
  refine bodyPost_ret (v := synV at_ l1 l2) (by simp [results, Try.results20, go_sem, q0, q1, q2, q3, q4, q5, q6, synV]) rfl ?_
  exact ⟨rfl, hbf⟩
end Go.Proofs.Ytgaedkaohjphaaa
