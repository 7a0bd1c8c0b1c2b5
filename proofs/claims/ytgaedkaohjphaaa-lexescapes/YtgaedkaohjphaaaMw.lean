/-
  The walk of LexComments.
-/
import Derived.Test.YtgaedkaohjphaaaMc
import Derived.Test.YtgaedkaohjphaaaLl
namespace Go.Proofs.Ytgaedkaohjphaaa
open Go.RowKit
set_option linter.unusedVariables false
set_option linter.unusedSimpArgs false
set_option maxRecDepth 20000

/-- A slice as a string, whatever its address where it is empty. -/
theorem conv_any (w : World) (A : Option Addr) (n c : Nat) (p : List UInt8) (h : Src w A n p) : (convert 22 9 (.slice A n c)).run Try.prog w = .ok (.string (bs p)) w := by
  rcases Nat.eq_zero_or_pos n with h0 | h0
  · subst h0
    have hp : p = [] := List.eq_nil_of_length_eq_zero h.1
    subst hp
    cases A with
    | none => rw [run_convert_bytes_nil (P := Try.prog) w 22 5 Try.underlying22 Try.underlying5 0 c 9 Try.underlying9]; rfl
    | some a =>
      rw [run_convert_bytes_string w 22 9 5 (some a) 0 c Try.underlying22 Try.underlying5 Try.underlying9, run_bytesToString w a 0 c [] (by simpa using run_loadCells_list (P := Try.prog) w a [] (fun j v hj => by simp at hj))]
      rfl
  · obtain ⟨b, o, rfl, _⟩ := h.2 h0
    exact conv_back w b o n c p h
theorem bs_app (a b : List UInt8) : bs a ++ bs b = bs (a ++ b) := by
  apply ByteArray.ext
  simp [bs]
set_option maxHeartbeats 8000000 in
theorem comments_walk (A : Option Addr) (n c : Nat) (line : Bool) (p : List UInt8) (w : World) (h : Src w A n p) (hg : G0 w) :
    Calls Try.prog 8 #[.slice A n c, .bool line] w fun e w' => e = .returned (.bool true) ∧ Below w.heap.size w w' := by
  have HS := Lib.hid h
  have HG := Lib.hid hg
  have HAw := fun wx (hx : Below w.heap.size w wx) => awake_any wx (HG.out.old hx)
  clear h hg
  go_enter Try.func8, Try.ntmps8
  go_wp2_with fail
  refine (HAw w (Below.refl _ _)).mono ?_
  rintro e w1 ⟨rfl, hb1⟩
  have HB1 := Lib.hid hb1
  clear hb1
  by_cases h100 : 100 < n
  · have h3i : (100 : Int) < (n : Int) := by omega
    go_wp2_with fail
    refine (HAw w1 HB1.out).mono ?_
    rintro e w2 ⟨rfl, hb2⟩
    go_wp2
    go_ret
    exact ⟨rfl, HB1.out.trans (hb2.mono HB1.out.size)⟩
  have h3i : ¬ (100 : Int) < (n : Int) := by omega
  have hn : n ≤ 100 := by omega
  clear HAw
  go_wp2_with fail
  clear h3i h100
  go_loopw [5, 6] (fun s5 s6 wr => ∃ (i : Nat) (b : Bool), i ≤ n ∧ s6 = .int .i64 (i : Int) ∧ s5 = .bool b ∧ w1 = wr ∧ Hid (b = endsK line p i)) (fun _ s6 _ => n - (intOf s6).toNat)
  case atStart => exact ⟨0, false, Nat.zero_le _, rfl, rfl, rfl, rfl⟩
  case round =>
    obtain ⟨i, b, hi, rfl, rfl, rfl, hE⟩ := hrel
    by_cases hlt : i < n
    · have hli : (i : Int) < (n : Int) := by omega
      obtain ⟨q, o, rfl, hcc⟩ := (HS.out.old HB1.out).2 (by omega)
      have hil : i < p.length := by rw [HS.out.1]; exact hlt
      have e0 := hcc i hil
      have hd : p.getD i 0 = p[i] := by rw [List.getD_eq_getElem?_getD, List.getElem?_eq_getElem hil]; rfl
      have hS1 : endsK line p (i + 1) = (b || hitF line p i) := by rw [endsK, ← hE.out]
      have hin : ∀ x y : UInt8, (((x.toNat : Int)) == (y.toNat : Int)) = (x == y) := fun x y => by
        by_cases hxy : x = y
        · rw [hxy, beq_self_eq_true, beq_self_eq_true]
        · have h1 : ((x.toNat : Int)) ≠ (y.toNat : Int) := fun e => hxy (UInt8.toNat_inj.1 (by omega))
          rw [beq_eq_false_iff_ne.2 h1, beq_eq_false_iff_ne.2 hxy]
      have k10 : ((p[i].toNat : Int) == 10) = (p[i] == 10) := hin p[i] 10
      have k42 : ((p[i].toNat : Int) == 42) = (p[i] == 42) := hin p[i] 42
      cases line with
      | true =>
        have hh : hitF true p i = (p[i] == 10) := by simp only [hitF, if_true, hd]
        rw [hh] at hS1
        generalize (p[i] == 10) = h1 at *
        generalize (p[i].toNat : Int) = x at *
        clear k42 hin hh hd hcc hE
        cases h1 with
        | true =>
          have HS1 : Hid (true = endsK true p (i + 1)) := by show _ = _; rw [hS1]; simp
          clear hS1
          go_wp2
          go_roundw
          case rel => exact ⟨i + 1, true, by omega, by go_num, rfl, by first | rfl | trivial, HS1⟩
          case measure => simp [intOf]; omega
        | false =>
          have HS1 : Hid (b = endsK true p (i + 1)) := by show _ = _; rw [hS1]; simp
          clear hS1
          go_wp2
          go_roundw
          case rel => exact ⟨i + 1, b, by omega, by go_num, rfl, by first | rfl | trivial, HS1⟩
          case measure => simp [intOf]; omega
      | false =>
        have hh : hitF false p i = (p[i] == 42 && (decide (i + 1 < n) && p.getD (i + 1) 0 == 47)) := by simp only [hitF, Bool.false_eq_true, if_false, hd, HS.out.1]
        rw [hh] at hS1
        by_cases hlt2 : i + 1 < n
        · have hli2 : (i : Int) + 1 < (n : Int) := by omega
          have hil2 : i + 1 < p.length := by rw [HS.out.1]; exact hlt2
          have e1 := hcc (i + 1) hil2
          have hd1 : p.getD (i + 1) 0 = p[i + 1] := by rw [List.getD_eq_getElem?_getD, List.getElem?_eq_getElem hil2]; rfl
          have k47 : ((p[i + 1].toNat : Int) == 47) = (p[i + 1] == 47) := hin p[i + 1] 47
          rw [hd1, decide_eq_true hlt2, Bool.true_and] at hS1
          generalize (p[i + 1] == 47) = h2 at *
          generalize (p[i + 1].toNat : Int) = y at *
          generalize (p[i] == 42) = h1 at *
          generalize (p[i].toNat : Int) = x at *
          clear k10 hin hh hd hd1 hcc hE
          cases h1 with
          | false =>
            have HS1 : Hid (b = endsK false p (i + 1)) := by show _ = _; rw [hS1]; simp
            clear hS1
            go_wp2
            go_roundw
            case rel => exact ⟨i + 1, b, by omega, by go_num, rfl, by first | rfl | trivial, HS1⟩
            case measure => simp [intOf]; omega
          | true =>
            cases h2 with
            | false =>
              have HS1 : Hid (b = endsK false p (i + 1)) := by show _ = _; rw [hS1]; simp
              clear hS1
              go_wp2
              go_roundw
              case rel => exact ⟨i + 1, b, by omega, by go_num, rfl, by first | rfl | trivial, HS1⟩
              case measure => simp [intOf]; omega
            | true =>
              have HS1 : Hid (true = endsK false p (i + 1)) := by show _ = _; rw [hS1]; simp
              clear hS1
              go_wp2
              go_roundw
              case rel => exact ⟨i + 1, true, by omega, by go_num, rfl, by first | rfl | trivial, HS1⟩
              case measure => simp [intOf]; omega
        · have hli2 : ¬ (i : Int) + 1 < (n : Int) := by omega
          have HS1 : Hid (b = endsK false p (i + 1)) := by show _ = _; rw [hS1, decide_eq_false hlt2]; simp
          generalize (p[i] == 42) = h1 at *
          generalize (p[i].toNat : Int) = x at *
          clear k10 hin hh hd hcc hE hS1
          cases h1
          all_goals
            go_wp2
            go_roundw
            case rel => exact ⟨i + 1, b, by omega, by go_num, rfl, by first | rfl | trivial, HS1⟩
            case measure => simp [intOf]; omega
    · obtain rfl : i = n := by omega
      cases b with
      | true =>
        go_wp2
        go_ret
        exact ⟨rfl, HB1.out⟩
      | false =>
        have hno := endsK_no line p i hE.out.symm
        rw [← HS.out.1] at hno
        have hcv := conv_any w1 A i c p (HS.out.old HB1.out)
        have hz : (bs p).size = i := by rw [← HS.out.1]; simp [bs, ByteArray.size]
        have hz1 : ((⟨#[32, 32, 47, 47]⟩ : ByteArray) ++ bs p).size = i + 4 := by rw [show (⟨#[32, 32, 47, 47]⟩ : ByteArray) = bs [32, 32, 47, 47] from rfl, bs_app, ← HS.out.1]; simp [bs, ByteArray.size]
        clear hE
        clear hz1
        have hpl : p.length = i := HS.out.1
        cases line with
        | true =>
          have hz1 : ((⟨#[32, 32, 47, 47]⟩ : ByteArray) ++ bs p).size = i + 4 := by rw [show (⟨#[32, 32, 47, 47]⟩ : ByteArray) = bs [32, 32, 47, 47] from rfl, bs_app, ← HS.out.1]; simp [bs, ByteArray.size]
          obtain ⟨cc1, wa1, hr1, hSa1, hBa1, _⟩ := conv_str w1 ([32, 32, 47, 47] ++ p ++ [10, 59])
          have hNw1 := new_any (some ⟨w1.heap.size, 0, none⟩) ([32, 32, 47, 47] ++ p ++ [10, 59]).length cc1 ([32, 32, 47, 47] ++ p ++ [10, 59]) wa1 hSa1 (by simp; omega) ((HG.out.old HB1.out).old hBa1)
          have hlen1 : ([32, 32, 47, 47] ++ p ++ [10, 59]).length = i + 6 := by simp; omega
          rw [hlen1] at hr1 hNw1
          rw [show bs ([32, 32, 47, 47] ++ p ++ [10, 59]) = (⟨#[32, 32, 47, 47]⟩ : ByteArray) ++ bs p ++ (⟨#[10, 59]⟩ : ByteArray) from by rw [← bs_app, ← bs_app]; rfl] at hr1
          have HNw1 := Lib.hid hNw1
          have HBa1 := Lib.hid (HB1.out.trans (hBa1.mono HB1.out.size))
          have hnx1 : nextF ([32, 32, 47, 47] ++ p ++ [10, 59]) 0 = (⟨3, 0, [59], p.length + 5⟩, 0, 0, p.length + 6) := next_line p (no10_of p hno)
          have HNx1 := Lib.hid hnx1
          generalize [32, 32, 47, 47] ++ p ++ [10, 59] = Q1 at *
          clear hSa1 hBa1 hNw1 hlen1 hnx1
          go_wp2_with fail
          refine HNw1.out.mono ?_
          rintro e wb1 ⟨q1, A1, c1, rfl, hq1, hL1, hb1⟩
          have hN1 := next_any wa1.heap.size q1 A1 _ c1 0 Q1 wb1 hL1 hq1
          rw [HNx1.out] at hN1
          have HN1 := Lib.hid hN1
          have HBb1 := Lib.hid (HBa1.out.trans (hb1.mono HBa1.out.size))
          have zb1 := HBa1.out.size
          clear hL1 hb1 hN1 HNw1 hr1
          go_wp2_with fail
          refine HN1.out.mono ?_
          rintro e wd1 ⟨rfl, hd1, _, _⟩
          have HBd1 := Lib.hid (HBb1.out.trans (hd1.mono zb1))
          clear HN1 hd1 zb1
          simp only [Tok.cells, hpl, show bs [59] = ⟨#[59]⟩ from rfl]
          go_wp2
          go_ret
          exact ⟨rfl, HBd1.out.alloc HBd1.out.size _⟩
        | false =>
          obtain ⟨cc2, wa2, hr2, hSa2, hBa2, _⟩ := conv_str w1 ([10, 32, 47, 42] ++ p)
          have hNw2 := new_any (some ⟨w1.heap.size, 0, none⟩) ([10, 32, 47, 42] ++ p).length cc2 ([10, 32, 47, 42] ++ p) wa2 hSa2 (by simp; omega) ((HG.out.old HB1.out).old hBa2)
          have hlen2 : ([10, 32, 47, 42] ++ p).length = i + 4 := by simp; omega
          rw [hlen2] at hr2 hNw2
          rw [show bs ([10, 32, 47, 42] ++ p) = (⟨#[10, 32, 47, 42]⟩ : ByteArray) ++ bs p from by rw [← bs_app]; rfl] at hr2
          have HNw2 := Lib.hid hNw2
          have HBa2 := Lib.hid (HB1.out.trans (hBa2.mono HB1.out.size))
          have hnx2 : nextF ([10, 32, 47, 42] ++ p) 0 = (tok0, 2, 7, 0) := next_open p (noSE_of p hno)
          have HNx2 := Lib.hid hnx2
          generalize [10, 32, 47, 42] ++ p = Q2 at *
          clear hSa2 hBa2 hNw2 hlen2 hnx2
          go_wp2_with fail
          refine HNw2.out.mono ?_
          rintro e wb2 ⟨q2, A2, c2, rfl, hq2, hL2, hb2⟩
          have hN2 := next_any wa2.heap.size q2 A2 _ c2 0 Q2 wb2 hL2 hq2
          rw [HNx2.out] at hN2
          have HN2 := Lib.hid hN2
          have HBb2 := Lib.hid (HBa2.out.trans (hb2.mono HBa2.out.size))
          have zb2 := HBa2.out.size
          clear hL2 hb2 hN2 HNw2 hr2
          go_wp2_with fail
          refine HN2.out.mono ?_
          rintro e wd2 ⟨rfl, hd2, _, _⟩
          have HBd2 := Lib.hid (HBb2.out.trans (hd2.mono zb2))
          clear HN2 hd2 zb2
          simp only [Tok.cells, tok0, show bs [] = ⟨#[]⟩ from rfl]
          clear HNx2 hcv hq2 HBb2 HBa2
          obtain ⟨W3, hW3⟩ : ∃ W3, W3 = wd2.alloc (.cells #[.int .u8 0, .int .u8 0, .string ⟨#[]⟩, .int .i64 0] 30) := ⟨_, rfl⟩
          have HB3 : Hid (Below w.heap.size w W3) := by rw [hW3]; exact HBd2.out.alloc HBd2.out.size _
          go_upto_region 15 with (fail)
          rw [← hW3]
          clear hW3 HBd2
          rcases Nat.eq_zero_or_pos i with h0 | h0
          · subst h0
            have h0i : ¬ (0 : Int) < ((0 : Nat) : Int) := by omega
            have hcv3 := conv_any W3 _ 0 c p (HS.out.old HB3.out)
            have hz3 : ((⟨#[47, 42]⟩ : ByteArray) ++ bs p).size = 0 + 2 := by rw [show (⟨#[47, 42]⟩ : ByteArray) = bs [47, 42] from rfl, bs_app, ← HS.out.1]; simp [bs, ByteArray.size]
            obtain ⟨cc3, wa3, hr3, hSa3, hBa3, _⟩ := conv_str W3 ([47, 42] ++ p ++ [42, 47, 32, 119, 111, 114, 100])
            have hNw3 := new_any (some ⟨W3.heap.size, 0, none⟩) ([47, 42] ++ p ++ [42, 47, 32, 119, 111, 114, 100]).length cc3 ([47, 42] ++ p ++ [42, 47, 32, 119, 111, 114, 100]) wa3 hSa3 (by simp [hpl]; try omega) ((HG.out.old HB3.out).old hBa3)
            have hlen3 : ([47, 42] ++ p ++ [42, 47, 32, 119, 111, 114, 100]).length = 0 + 9 := by simp [hpl]
            rw [hlen3] at hr3 hNw3
            rw [show bs ([47, 42] ++ p ++ [42, 47, 32, 119, 111, 114, 100]) = (⟨#[47, 42]⟩ : ByteArray) ++ bs p ++ (⟨#[42, 47, 32, 119, 111, 114, 100]⟩ : ByteArray) from by rw [← bs_app, ← bs_app]; rfl] at hr3
            have HNw3 := Lib.hid hNw3
            have HBa3 := Lib.hid (HB3.out.trans (hBa3.mono HB3.out.size))
            have hnx3 : nextF ([47, 42] ++ p ++ [42, 47, 32, 119, 111, 114, 100]) 0 = (⟨1, 0, [119, 111, 114, 100], p.length + 5⟩, 0, 0, p.length + 9) := next_block p (noSE_of p hno)
            have HNx3 := Lib.hid hnx3
            generalize [47, 42] ++ p ++ [42, 47, 32, 119, 111, 114, 100] = Q3 at *
            clear hSa3 hBa3 hNw3 hlen3 hnx3
            go_wp2_with fail
            refine HNw3.out.mono ?_
            rintro e wb3 ⟨q3, A3, c3, rfl, hq3, hL3, hb3⟩
            have hN3 := next_any wa3.heap.size q3 A3 _ c3 0 Q3 wb3 hL3 hq3
            rw [HNx3.out] at hN3
            have HN3 := Lib.hid hN3
            have HBb3 := Lib.hid (HBa3.out.trans (hb3.mono HBa3.out.size))
            have zb3 := HBa3.out.size
            clear hL3 hb3 hN3 HNw3 hr3
            go_wp2_with fail
            refine HN3.out.mono ?_
            rintro e wd3 ⟨rfl, hd3, _, _⟩
            have HBd3 := Lib.hid (HBb3.out.trans (hd3.mono zb3))
            clear HN3 hd3 zb3
            simp only [Tok.cells, hpl, show bs [119, 111, 114, 100] = ⟨#[119, 111, 114, 100]⟩ from rfl]
            go_wp2
            go_ret
            exact ⟨rfl, HBd3.out.alloc HBd3.out.size _⟩
          · obtain ⟨j, rfl⟩ : ∃ j, i = j + 1 := ⟨i - 1, by omega⟩
            have h0i : (0 : Int) < ((j + 1 : Nat) : Int) := by omega
            obtain ⟨bb, oo, rfl, hcc⟩ := (HS.out.old HB3.out).2 h0
            have hjl : j < p.length := by rw [HS.out.1]; omega
            have e0 := hcc j hjl
            have k42 : ((p[j].toNat : Int) == 42) = (p[j] == 42) := by
              by_cases hxy : p[j] = 42
              · rw [hxy]; rfl
              · have h1 : ((p[j].toNat : Int)) ≠ 42 := fun e => hxy (UInt8.toNat_inj.1 (by show p[j].toNat = 42; omega))
                rw [beq_eq_false_iff_ne.2 h1, beq_eq_false_iff_ne.2 hxy]
            have hji : ((j + 1 : Nat) : Int) - 1 = (j : Int) := by omega
            have hjlt : (j : Int) < ((j + 1 : Nat) : Int) := by omega
            generalize (p[j] == 42) = hh at *
            generalize (p[j].toNat : Int) = x at *
            clear hcc
            cases hh with
            | true =>
              go_wp2
              go_ret
              exact ⟨rfl, HB3.out⟩
            | false =>
              have hcv3 := conv_any W3 _ (j + 1) c p (HS.out.old HB3.out)
              have hz3 : ((⟨#[47, 42]⟩ : ByteArray) ++ bs p).size = (j + 1) + 2 := by rw [show (⟨#[47, 42]⟩ : ByteArray) = bs [47, 42] from rfl, bs_app, ← HS.out.1]; simp [bs, ByteArray.size]
              obtain ⟨cc3, wa3, hr3, hSa3, hBa3, _⟩ := conv_str W3 ([47, 42] ++ p ++ [42, 47, 32, 119, 111, 114, 100])
              have hNw3 := new_any (some ⟨W3.heap.size, 0, none⟩) ([47, 42] ++ p ++ [42, 47, 32, 119, 111, 114, 100]).length cc3 ([47, 42] ++ p ++ [42, 47, 32, 119, 111, 114, 100]) wa3 hSa3 (by simp [hpl]; try omega) ((HG.out.old HB3.out).old hBa3)
              have hlen3 : ([47, 42] ++ p ++ [42, 47, 32, 119, 111, 114, 100]).length = (j + 1) + 9 := by simp [hpl]; try omega
              rw [hlen3] at hr3 hNw3
              rw [show bs ([47, 42] ++ p ++ [42, 47, 32, 119, 111, 114, 100]) = (⟨#[47, 42]⟩ : ByteArray) ++ bs p ++ (⟨#[42, 47, 32, 119, 111, 114, 100]⟩ : ByteArray) from by rw [← bs_app, ← bs_app]; rfl] at hr3
              have HNw3 := Lib.hid hNw3
              have HBa3 := Lib.hid (HB3.out.trans (hBa3.mono HB3.out.size))
              have hnx3 : nextF ([47, 42] ++ p ++ [42, 47, 32, 119, 111, 114, 100]) 0 = (⟨1, 0, [119, 111, 114, 100], p.length + 5⟩, 0, 0, p.length + 9) := next_block p (noSE_of p hno)
              have HNx3 := Lib.hid hnx3
              generalize [47, 42] ++ p ++ [42, 47, 32, 119, 111, 114, 100] = Q3 at *
              clear hSa3 hBa3 hNw3 hlen3 hnx3
              go_wp2_with fail
              refine HNw3.out.mono ?_
              rintro e wb3 ⟨q3, A3, c3, rfl, hq3, hL3, hb3⟩
              have hN3 := next_any wa3.heap.size q3 A3 _ c3 0 Q3 wb3 hL3 hq3
              rw [HNx3.out] at hN3
              have HN3 := Lib.hid hN3
              have HBb3 := Lib.hid (HBa3.out.trans (hb3.mono HBa3.out.size))
              have zb3 := HBa3.out.size
              clear hL3 hb3 hN3 HNw3 hr3
              go_wp2_with fail
              refine HN3.out.mono ?_
              rintro e wd3 ⟨rfl, hd3, _, _⟩
              have HBd3 := Lib.hid (HBb3.out.trans (hd3.mono zb3))
              clear HN3 hd3 zb3
              simp only [Tok.cells, hpl, show bs [119, 111, 114, 100] = ⟨#[119, 111, 114, 100]⟩ from rfl]
              go_wp2
              go_ret
              exact ⟨rfl, HBd3.out.alloc HBd3.out.size _⟩
end Go.Proofs.Ytgaedkaohjphaaa
